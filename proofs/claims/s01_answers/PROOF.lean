import PyProof.Rows.All
import Wide.All
import OpenK.AllK
import Wide.FinOn
import PyProof.EqAt
import PyProof.EqKinds
import PyProof.TupleCall
import KE.BitLaws
import Open.SpecLaws
import KE.OsHead
import KE.OsGo
import KE.KDictList
import PySem.Challenge.RW_halvedruns_s01_answers
set_option Elab.async false
set_option linter.all false
set_option maxRecDepth 100000
set_option maxHeartbeats 2000000
set_option bootstrap.genMatcherCode false
set_option compiler.extract_closed false
noncomputable section
open Vbapaj renaming Affair → UQ, hostAt → US, Run → UU, Dispute → UW, heardOf → UY, House → UZ, step → U0, isOpen → U2, weighed → U3, no → U7, Order → U9, STEPS → Va, Word → Vm, leftOnes → Vp, putOut → Vu, hasPart → Vv, within → VB, Call → VC, without → VE, Bent → VF, Answer → VG, withHost → VJ, judged → VL, withDispute → VQ, programOf → VS, comes → VW, turns → V1, onHost → V3, saysOf → V4, turn → Wb, onAffair → Wh, disputeAt → Wk, verdictNumbers → Wq, withAffair → Ws, losers → WB, together → WC, wordAt → WD, asked → WE, told → WY
open PySem.W renaming Frag → UR, mg_of → U5, nsIn → Vg, findIn → VX, fnOf → Wa, keepIn → Wd, emptyDict → Wm, instObj → Wt, mg_none_of → WH, codeIn → W3, plainGet → Xe
open List renaming length_map → UT, mem_singleton → UX, mem_cons → U4, mem_map → Vb, map_cons → Vc, filter_cons → Ve, size_toArray → Vf, mem_cons_self → Vi, length_cons → Vj, map_append → Vk, mem_cons_of_mem → Vl, getElem?_eq_some_iff → Vn, mem_range → Vq, length_take → Vr, length_set → Vs, getElem?_map → Vw, mem_of_getElem? → Vx, find?_cons → Vy, length_range → VA, length_append → VD, getElem?_eq_getElem → VI, map → VM, any_cons → VP, length_filter_le → VU, take_length → VV, getD_eq_getElem?_getD → VY, map_map → V0, mem_filter → V5, getElem?_set_self → V6, nodup_cons → V9, map_congr_left → Wc, getElem?_eq_none → Wf, mem_append → Wi, filter_append → Wj, any_map → Wn, sum_cons → Wo, filter_nil → Wr, mem_append_right → Wv, lookup → Ww, append_nil → Wx, map_nil → Wy, range' → WA, getElem?_set_ne → WI, replicate → WJ, getElem?_append_right → WK, length_replicate → WL, lookup_cons → WN, any_eq_true → WQ, getElem?_range → WR, find?_eq_none → WW, getElem?_append_left → W2, length_drop → W4, all_cons → W5, all_eq_true → W6, append_assoc → W9, range_succ → Xa, getElem?_take_of_lt → Xg, drop_eq_nil_of_le → Xk, mem_of_find?_eq_some → Xl, range_eq_range' → Xm
open Nat renaming le_refl → U1, le_trans → U8, ne_of_lt → Vh, zero_le → Vt, le_succ → Vz, lt_of_lt_of_le → VH, le_of_lt → VN, not_lt_zero → VR, lt_irrefl → VT, le_add_right → V8, not_lt → We, zero_add → WO, sub_self → WU, min_eq_left → WV, succ_ne_zero → WX, succ_le_succ → Xb
open Bool renaming and_eq_true → U6, false_ne_true → Vo, noConfusion → VZ, true_and → Wg, false_and → Wu, or_eq_true → Wz
open PySem renaming boot_len → Vd, mem_of_lookup → VO, sizeLine → W8
open Int renaming toNat → V2, natCast_nonneg → V7, toNat_of_nonneg → Wl, toNat_natCast → WM
open PyVbapaj renaming whole → WG, shape → Xc, answers → Xf
open PySem.F renaming plainAttrs_list → WT, slot_dict_get → W7, slot_dict_pop → Xh, entry_dict_get → Xi, plainAttrs_dict → Xj, slot_list_getattribute → Xn
open PyFlat renaming calls → WZ
open PyInside renaming lists → W0
open VbapajNeutral renaming step → Xd
namespace L2
open PySem PySem.Spec PyProof.Rows
abbrev Key:=Sum Int Str
def zL:Key->Value->Bool
 | .inl k,v=>Value.isInt k v
 | .inr x,v=>Value.isStrOf x v
def T1 (w:World):Key->Int
 | .inl k=>hashInt k
 | .inr x=>hashStr w x
theorem fi:∀ {k:Key} {v:Value},zL k v=true->(∃ i t,k=Sum.inl i/\v=Value.int i t)∨(∃ x t,k=Sum.inr x/\v=Value.str x t)
 | .inl i,v,h=>by
  obtain ⟨t,e⟩:=Value.isInt_shape (k:=i) (v:=v) h
  exact .inl ⟨i,t,rfl,e⟩
 | .inr x,v,h=>by
  obtain ⟨t,e⟩:=Value.isStrOf_shape (x:=x) (v:=v) h
  exact .inr ⟨x,t,rfl,e⟩
theorem MP (i:Int) (t:Tok):zL (.inl i) (.int i t)=true:=by simp [zL,Value.isInt]
theorem MW (x:Str) (t:Tok):zL (.inr x) (.str x t)=true:=by simp [zL,Value.isStrOf]
theorem Rj (a b:Int):decide ((Sum.inl a:Key)=Sum.inl b)=(a == b):=by
 by_cases e:a=b
 ·subst e;simp
 ·have h:¬ (Sum.inl a:Key)=Sum.inl b:=λq=>e (Sum.inl.inj q)
  rw [decide_eq_false h]
  exact (beq_eq_false_iff_ne.mpr e).symm
theorem QV (a b:Str):decide ((Sum.inr a:Key)=Sum.inr b)=decide (a=b):=by
 by_cases e:a=b
 ·subst e;simp
 ·have h:¬ (Sum.inr a:Key)=Sum.inr b:=λq=>e (Sum.inr.inj q)
  rw [decide_eq_false h,decide_eq_false e]
theorem RO (a:Int) (b:Str):decide ((Sum.inl a:Key)=Sum.inr b)=false:=decide_eq_false (λq=>nomatch q)
theorem Ra (a:Str) (b:Int):decide ((Sum.inr a:Key)=Sum.inl b)=false:=decide_eq_false (λq=>nomatch q)
def aY (prog:Program) (w:World):PySem.KeyKind prog w Key where
 is:=zL
 hash:=T1 w
 inj:=λv a b ha hb=>by
  rcases fi ha with ⟨i,t,rfl,rfl⟩ | ⟨x,t,rfl,rfl⟩
  ·rcases fi hb with ⟨j,u,rfl,e⟩ | ⟨y,u,rfl,e⟩
   ·injection e with e1 _;rw [e1]
   ·exact nomatch e
  ·rcases fi hb with ⟨j,u,rfl,e⟩ | ⟨y,u,rfl,e⟩
   ·exact nomatch e
   ·injection e with e1 _;rw [e1]
 byValue:=λk v h=>by
  rcases fi h with ⟨i,t,rfl,rfl⟩ | ⟨x,t,rfl,rfl⟩<;>rfl
 pyHash:=λhv h=>by
  rcases fi hv with ⟨i,t,rfl,rfl⟩ | ⟨x,t,rfl,rfl⟩
  ·exact wpAny_pyHash_int h
  ·exact wpAny_pyHash_str h
 eqBool:=λhu hv h=>by
  rcases fi hu with ⟨i,t,rfl,rfl⟩ | ⟨x,t,rfl,rfl⟩
  ·rcases fi hv with ⟨j,u,rfl,rfl⟩ | ⟨y,u,rfl,rfl⟩
   ·rw [Rj] at h;exact wpAny_eqBool_int h
   ·rw [RO] at h;exact SeqAt.EqAt.int_str i t y u _ _ _ _ h
  ·rcases fi hv with ⟨j,u,rfl,rfl⟩ | ⟨y,u,rfl,rfl⟩
   ·rw [Ra] at h;exact SeqAt.EqAt.str_int x t j u _ _ _ _ h
   ·rw [QV] at h;exact wpAny_eqBool_str h
 «strs»:=λk x t v h=>by
  rcases fi h with ⟨i,u,rfl,e⟩ | ⟨y,u,rfl,e⟩
  ·exact nomatch e
  ·injection e with e1 _
   subst e1
   cases v<;>rfl
theorem CU (prog:Program) (w:World) (i:Int) (t:Tok):(aY prog w).is (.inl i) (.int i t)=true:=MP i t
theorem JY (prog:Program) (w:World) (x:Str) (t:Tok):(aY prog w).is (.inr x) (.str x t)=true:=MW x t
end L2
namespace L2
open PySem PySem.Spec PyProof.Rows
inductive V where
 | dF | bl (b:Bool) | int (i:Int) | str (x:Str) | IH (b:Array UInt8) | TN (b:UInt64) | ref (a:Addr) | ty (n:String)
 deriving DecidableEq
def RelV:V->Value->Prop
 | .dF,u=>u=Value.none
 | .bl b,u=>u=Value.bool b
 | .int i,u=>∃ t,u=Value.int i t
 | .str x,u=>∃ t,u=Value.str x t
 | .IH b,u=>∃ t,u=Value.bytes b t
 | .TN b,u=>∃ t,u=Value.float b t
 | .ref a,u=>u=Value.ref a
 | .ty n,u=>u=Value.type n
abbrev Vals:List V->List Value->Prop:=Paired RelV
theorem Vals.length {xs:List V} {us:List Value} (r:Vals xs us):xs.length=us.length:=Paired.length r
theorem Vals.get:∀ {xs:List V} {us:List Value} {i:Nat} {x:V},Vals xs us->xs[i]?=some x->∃ u,us[i]?=some u/\RelV x u
 | _,_,_,_,.nil,e=>by simp at e
 | _,_,0,_,.cons r _,e=>by simp at e;subst e;exact ⟨_,rfl,r⟩
 | _,_,i+1,x,.cons _ t,e=>by
  obtain ⟨u,h1,h2⟩:=Vals.get (i:=i) (x:=x) t (by simpa using e)
  exact ⟨u,by simpa using h1,h2⟩
theorem Vals.set {x:V} {u:Value} (r:RelV x u):∀ {xs:List V} {us:List Value} (i:Nat),Vals xs us->Vals (xs.set i x) (us.set i u)
 | _,_,_,.nil=>.nil
 | _,_,0,.cons _ t=>.cons r t
 | _,_,i+1,.cons q t=>.cons q (Vals.set r i t)
theorem Vals.append:∀ {xs ys:List V} {us ws:List Value},Vals xs us->Vals ys ws->Vals (xs++ys) (us++ws)
 | _,_,_,_,.nil,s=>s
 | _,_,_,_,.cons r t,s=>.cons r (Vals.append t s)
theorem Vals.take:∀ {xs:List V} {us:List Value} (n:Nat),Vals xs us->Vals (xs.take n) (us.take n)
 | _,_,0,_=>.nil
 | _,_,_+1,.nil=>.nil
 | _,_,n+1,.cons r t=>.cons r (Vals.take n t)
theorem Vals.drop:∀ {xs:List V} {us:List Value} (n:Nat),Vals xs us->Vals (xs.drop n) (us.drop n)
 | _,_,0,r=>r
 | _,_,_+1,.nil=>.nil
 | _,_,n+1,.cons _ t=>Vals.drop n t
theorem Vals.none_of:∀ {xs:List V} {us:List Value} {i:Nat},Vals xs us->xs[i]?=none->us[i]?=none:=λ{xs us i} r e=>by
 have h1:=r.length
 have h2:xs.length<=i:=List.getElem?_eq_none_iff.mp e
 exact List.getElem?_eq_none_iff.mpr (by lia)
def vP:Option V->Option Value->Prop
 | some v,some u=>RelV v u
 | none,none=>True
 | _,_=>False
def KV {κ:Type}:List (κ × V)->List (κ × Value)->Prop:=Paired λ(p:κ × V) (q:κ × Value)=>p.1=q.1/\RelV p.2 q.2
def kV:Key->V
 | .inl i=>.int i
 | .inr x=>.str x
inductive HO where
 | lst (xs:List V)
 | tup (xs:List V)
 | dK (kvs:List (Key × V)) | dT (kvs:List (List Key × V))
 | set (S:Int->Bool) (n:Nat)
 | ins (C dx:Addr) (fs:List (Str × V))
 | own (x:Addr)
 | xd (fs:List (Str × V))
 | met (f x:Addr)
 | rng (lo hi:Int)
 | frz (o:Obj) (u:HO)
 | tbl (ps:Array Value)
 | ext (φ:Heap->Prop)
abbrev Hp:=Addr->Option HO
def upd (H:Hp) (a:Addr) (o:HO):Hp:=λb=>if b=a then some o else H b
theorem ae {H:Hp} {a:Addr} {o:HO}:upd H a o a=some o:=by unfold upd;rw [if_pos rfl]
theorem ak {H:Hp} {a b:Addr} {o:HO} (h:b≠a):upd H a o b=H b:=by unfold upd;rw [if_neg h]
theorem b6 {H:Hp} {a:Addr} {o u:HO}:upd (upd H a o) a u=upd H a u:=by
 funext b;unfold upd;split<;>rfl
theorem aV {H:Hp} {a b:Addr} {o u:HO} (h:H a=some o) (h':H b=some u) (d:o≠u):a≠b:=by
 intro e;subst e;rw [h] at h';exact d (Option.some.inj h')
theorem aC {H:Hp} {a b:Addr} {o:HO} (h:H a=some o) (h':H b=none):a≠b:=by
 intro e;subst e;rw [h] at h';cases h'
section
variable (P:Program) (w:World)
def i4 (H:Hp) (h:Heap) (a:Addr):HO->Prop
 | .lst xs=>xs.length<=sizeLine/\∃ (its:List Value) (n:Nat),Vals xs its/\h.get? a=some { cls:=.type "list",data:=.seq its.toArray n }
 | .tup xs=>xs.length<=sizeLine/\∃ its:List Value,Vals xs its/\IsTup h a its.toArray
 | .dK kvs=>kvs.length<=sizeLine/\(a == sysModules)=false/\∃ vs,KV kvs vs/\h.DictOf (aY P w) a vs
 | .dT kvs=>kvs.length<=sizeLine/\(a == sysModules)=false/\∃ xs:List (List Key × Addr × Value),
   Paired (λ(p:List Key × V) (q:List Key × Addr × Value)=>p.1=q.1/\H q.2.1=some (.tup (p.1.map kV))/\RelV p.2 q.2.2) kvs xs /\
   ∃ o es ep,h.get? a=some o/\o.ExactDict/\o.data=.dict es ep/\es.toList=xs.map (entryOfKey (tupleKind (aY P w)))/\(xs.map (·.1)).Nodup
 | .set S n=>h.SetOf (intKind P w) a S n
 | .ins C dx fs=>H dx=some (.own a)/\fs.length<=1000/\dx≠a/\h.get? a=some (Wt C dx) /\
   ∃ mA,h.Ns1 dx mA/\(∀ f,vP (fs.lookup f) (mA f))/\PySem.Within mA (fs.map (·.1))
 | .own _=>∃ o,h.get? a=some o
 | .xd fs=>∃ mA,h.Ns1 a mA/\∀ f,vP (fs.lookup f) (mA f)
 | .rng lo hi=>∃ t u v,h.get? a=some { cls:=.type "range",data:=.fields #[.int lo t,.int hi u,.int 1 v] }
 | .frz o u=>h.get? a=some o/\i4 H h a u
 | .tbl ps=>h.get? a=some { cls:=.none,data:=.fields ps }
 | .met f x=>h.get? a=some (PySem.W.methodObj (.ref f) (.ref x))
 | .ext φ=>φ h/\(∃ o,h.get? a=some o)/\∀ h1 h2:Heap,φ h1->(∀ o,h1.get? a=some o->h2.get? a=some o)->φ h2
def ym (H:Hp) (h:Heap):Prop:=∀ a o,H a=some o->i4 P w H h a o
end
section
variable {P:Program} {w:World} {H H':Hp} {h h':Heap} {a:Addr} {o:HO}
theorem i4.lt (x:i4 P w H h a o):a < h.objs.size:=by
 cases o with
 | lst xs=>obtain ⟨_,_,_,_,e⟩:=x;exact Heap.lt_size e
 | tup xs=>obtain ⟨_,_,_,p⟩:=x;exact p.lt
 | dK kvs=>obtain ⟨_,_,_,_,o,_,_,e,_⟩:=x;exact Heap.lt_size e
 | dT kvs=>obtain ⟨_,_,_,_,o,_,_,e,_⟩:=x;exact Heap.lt_size e
 | set S n=>obtain ⟨o,_,_,_,e,_⟩:=x;exact Heap.lt_size e
 | ins C dx fs=>obtain ⟨_,_,_,e,_⟩:=x;exact Heap.lt_size e
 | own y=>obtain ⟨_,e⟩:=x;exact Heap.lt_size e
 | xd fs=>obtain ⟨_,⟨_,_,_,e,_⟩,_⟩:=x;exact Heap.lt_size e
 | rng lo hi=>obtain ⟨_,_,_,e⟩:=x;exact Heap.lt_size e
 | frz ob u=>obtain ⟨e,_⟩:=x;exact Heap.lt_size e
 | tbl ps=>exact Heap.lt_size (show h.get? a=some _ from x)
 | met f y=>exact Heap.lt_size (show h.get? a=some _ from x)
 | ext φ=>obtain ⟨_,⟨_,e⟩,_⟩:=x;exact Heap.lt_size e
theorem Paired.KA {α β:Type} {F G:α->β->Prop}:∀ {l₁:List α} {l₂:List β},Paired F l₁ l₂->(∀ a b,F a b->G a b)->Paired G l₁ l₂
 | _,_,.nil,_=>.nil
 | _,_,.cons r t,f=>.cons (f _ _ r) (Paired.KA t f)
theorem i4.qh (x:i4 P w H h a o) (k:∀ b u,(b=a∨H b=some (.own a))->h.get? b=some u->h'.get? b=some u)
  (ho:∀ b,H b=some (.own a)->H' b=some (.own a)) (ht:∀ b xs,H b=some (.tup xs)->H' b=some (.tup xs)):i4 P w H' h' a o:=by
 induction o with
 | lst xs=>obtain ⟨z,its,n,r,e⟩:=x;exact ⟨z,its,n,r,k _ _ (.inl rfl) e⟩
 | tup xs=>obtain ⟨z,its,r,ob,e,c⟩:=x;exact ⟨z,its,r,ob,k _ _ (.inl rfl) e,c⟩
 | dK kvs=>obtain ⟨z,y,vs,r,ob,es,ep,e,c⟩:=x;exact ⟨z,y,vs,r,ob,es,ep,k _ _ (.inl rfl) e,c⟩
 | dT kvs =>
  obtain ⟨z,y,xs,r,ob,es,ep,e,c⟩:=x
  exact ⟨z,y,xs,Paired.KA r λp q z=>⟨z.1,ht _ _ z.2.1,z.2.2⟩,ob,es,ep,k _ _ (.inl rfl) e,c⟩
 | set S n=>obtain ⟨ob,es,ep,t,e,c⟩:=x;exact ⟨ob,es,ep,t,k _ _ (.inl rfl) e,c⟩
 | ins C dx fs =>
  obtain ⟨d,z,ne,e,mA,⟨od,es,ep,e2,c⟩,r⟩:=x
  exact ⟨ho _ d,z,ne,k _ _ (.inl rfl) e,mA,⟨od,es,ep,k _ _ (.inr d) e2,c⟩,r⟩
 | own y=>obtain ⟨ob,e⟩:=x;exact ⟨ob,k _ _ (.inl rfl) e⟩
 | xd fs=>obtain ⟨mA,⟨od,es,ep,e,c⟩,r⟩:=x;exact ⟨mA,⟨od,es,ep,k _ _ (.inl rfl) e,c⟩,r⟩
 | rng lo hi=>obtain ⟨t,u,v,e⟩:=x;exact ⟨t,u,v,k _ _ (.inl rfl) e⟩
 | frz ob u ih=>obtain ⟨e,q⟩:=x;exact ⟨k _ _ (.inl rfl) e,ih q⟩
 | tbl ps =>
  have e:h.get? a=some { cls:=.none,data:=.fields ps }:=x
  show h'.get? a=some { cls:=.none,data:=.fields ps }
  exact k a _ (.inl rfl) e
 | met f y =>
  have e:h.get? a=some (PySem.W.methodObj (.ref f) (.ref y)):=x
  show h'.get? a=some (PySem.W.methodObj (.ref f) (.ref y))
  exact k a _ (.inl rfl) e
 | ext φ=>obtain ⟨p,⟨o,e⟩,st⟩:=x;exact ⟨st _ _ p λo q=>k _ _ (.inl rfl) q,⟨o,k _ _ (.inl rfl) e⟩,st⟩
theorem ym.lt (x:ym P w H h) (e:H a=some o):a < h.objs.size:=(x a o e).lt
theorem ym.fresh (x:ym P w H h) (e:h.objs.size<=a):H a=none:=by
 cases q:H a with
 | none=>rfl
 | some u=>exact absurd (VH (x.lt q) e) (VT _)
theorem ym.kept (x:ym P w H h) (k:∀ b u,h.get? b=some u->h'.get? b=some u):ym P w H h':=λa o e =>
 (x a o e).qh (λb u _ q=>k b u q) (λ_ q=>q) λ_ _ q=>q
theorem ym.laid (x:ym P w H h) (k:∀ b u,h.get? b=some u->h'.get? b=some u) (hp:h.objs.size<=a) (new:i4 P w (upd H a o) h' a o):ym P w (upd H a o) h':=λb u e=>by
 have hn:=x.fresh hp
 by_cases hb:b=a
 ·subst hb;rw [ae] at e;cases e;exact new
 ·rw [ak hb] at e
  exact (x b u e).qh (λc v _ q=>k c v q) (λc q=>by rw [ak (aC q hn)];exact q) λc xs q=>by rw [ak (aC q hn)];exact q
end
def Rd (H:Hp) (a:Addr) (u:HO):Prop:=H a=some u∨∃ o,H a=some (.frz o u)
theorem Rd.ok {P:Program} {w:World} {H:Hp} {h:Heap} {a:Addr} {u:HO} (r:Rd H a u) (x:ym P w H h):i4 P w H h a u:=by
 rcases r with r | ⟨o,r⟩
 ·exact x a u r
 ·obtain ⟨_,q⟩:=x a _ r
  exact q
def Qo:Option HO->Prop
 | some (.lst _)=>True
 | some (.dK _)=>True
 | some (.dT _)=>True
 | some (.set _ _)=>True
 | some (.ins _ _ _)=>True
 | some (.ext _)=>True
 | _=>False
section
variable {P:Program} {w:World} {H:Hp} {h h':Heap} {x e:Addr} {o':HO}
theorem ym.write (ok:ym P w H h) (mu:Qo (H x)) (he:e=x∨H e=some (.own x)) (k:∀ b u,b≠e->h.get? b=some u->h'.get? b=some u) (heo:∃ u,h'.get? e=some u)
  (new:i4 P w (upd H x o') h' x o'):ym P w (upd H x o') h':=λb u q=>by
 have nown:∀ c y,H c=some (.own y)->c≠x:=λc y r z=>by subst z;rw [r] at mu;exact mu
 have ntup:∀ c xs,H c=some (.tup xs)->c≠x:=λc xs r z=>by subst z;rw [r] at mu;exact mu
 by_cases hb:b=x
 ·subst hb;rw [ae] at q;cases q;exact new
 ·rw [ak hb] at q
  by_cases hbe:b=e
  ·have q':H b=some (.own x):=by
    rcases he with z | z
    ·exact absurd (hbe.trans z) hb
    ·rw [hbe];exact z
   rw [q] at q';cases q'
   obtain ⟨v,hv⟩:=heo
   exact ⟨v,by rw [hbe];exact hv⟩
  ·refine (ok b u q).qh (λc v hc r=>k c v ?_ r) (λc r=>by rw [ak (nown c b r)];exact r) λc xs r=>by rw [ak (ntup c xs r)];exact r
   rcases hc with rfl | hc
   ·exact hbe
   ·rintro rfl
    rcases he with z | z
    ·exact nown c b hc z
    ·rw [hc] at z;cases z;exact hb rfl
end
structure Un (fs ex:List Addr) (H H':Hp) (h h':Heap):Prop where
 keep:∀ b o,h.get? b=some o->H b=none->b ∉ fs->b ∉ ex->h'.get? b=some o
 slot:∀ b o,h.get? b=some o->H b=none->b∈fs->b ∉ ex->∃ sl,h'.get? b=some { o with slots:=sl }
 free:∀ b o,h.get? b=some o->H b=none->b ∉ ex->H' b=none
 there:∀ b o,h.get? b=some o->b ∉ ex->∃ o',h'.get? b=some o'
 Aa:∀ b xs,H b=some (.tup xs)->H' b=some (.tup xs)
 Cd:∀ b o u,H b=some (.frz o u)->H' b=some (.frz o u)
 Iq:∀ b ps,H b=some (.tbl ps)->∃ more,H' b=some (.tbl (ps++more))
section
variable {fs fs' ex ex':List Addr} {H H1 H2:Hp} {h h1 h2 h':Heap} {a x e:Addr} {o:HO}
theorem Un.any (u:Un fs ex H H1 h h1) {b:Addr} {ob:Obj} (q:h.get? b=some ob) (n:H b=none) (hx:b ∉ ex):∃ sl,h1.get? b=some { ob with slots:=sl }:=by
 by_cases hb:b∈fs
 ·exact u.slot b ob q n hb hx
 ·exact ⟨ob.slots,u.keep b ob q n hb hx⟩
theorem Un.kept (k:∀ b u,h.get? b=some u->h'.get? b=some u):Un fs ex H H h h' :=
 ⟨λb ob q _ _ _=>k b ob q,λb ob q _ _ _=>⟨ob.slots,k b ob q⟩,λ_ _ _ n _=>n,λb ob q _=>⟨ob,k b ob q⟩,λ_ _ q=>q,λ_ _ _ q=>q,λ_ ps q=>⟨#[],by rw [q];simp⟩⟩
theorem Un.refl:Un fs ex H H h h:=Un.kept λ_ _ q=>q
theorem Un.laid (k:∀ b u,h.get? b=some u->h'.get? b=some u) (hp:h.objs.size<=a) (hn:H a=none):Un fs ex H (upd H a o) h h' where
 keep:=λb u q _ _ _=>k b u q
 slot:=λb u q _ _ _=>⟨u.slots,k b u q⟩
 free:=λb u q n _=>by rw [ak (Vh (VH (Heap.lt_size q) hp))];exact n
 there:=λb u q _=>⟨u,k b u q⟩
 Aa:=λb xs q=>by rw [ak (aC q hn)];exact q
 Cd:=λb u xs q=>by rw [ak (aC q hn)];exact q
 Iq:=λb ps q=>⟨#[],by rw [ak (aC q hn),q];simp⟩
theorem Un.write (mu:Qo (H x)) (he:e=x∨H e=some (.own x)) (k:∀ b u,b≠e->h.get? b=some u->h'.get? b=some u) (heo:∃ u,h'.get? e=some u):Un fs ex H (upd H x o) h h':=by
 have hx:∀ b,H b=none->b≠x:=λb n z=>by subst z;rw [n] at mu;exact mu
 have hb:∀ b,H b=none->b≠e:=λb n z=>by
  subst z
  rcases he with r | r
  ·exact hx b n r
  ·rw [n] at r;cases r
 have hm:∀ b u,H b=some u->¬ Qo (some u)->b≠x:=λb u q nm z=>by subst z;rw [q] at mu;exact nm mu
 refine ⟨λb u q n _ _=>k b u (hb b n) q,λb u q n _ _=>⟨u.slots,k b u (hb b n) q⟩,λb u q n _=>by rw [ak (hx b n)];exact n,λb u q _=>?_,
  λb xs q=>by rw [ak (hm b _ q λz=>z)];exact q,λb u xs q=>by rw [ak (hm b _ q λz=>z)];exact q,λb ps q=>⟨#[],by rw [ak (hm b _ q λz=>z),q];simp⟩⟩
 by_cases hbe:b=e
 ·subst hbe;exact heo
 ·exact ⟨u,k b u hbe q⟩
end
def TC (h:Heap) (H:Hp):List Addr:=(List.range h.objs.size).filter λa=>(H a).isSome
def HX (h:Heap) (H:Hp):Heap:=PySem.W.hideAll h (TC h H)
theorem M3 (h:Heap) (H:Hp):(HX h H).objs.size=h.objs.size:=PySem.W.hideAll_size _ _
theorem OL {h:Heap} {H:Hp} {b:Addr} {o:Obj} (e:h.get? b=some o) (n:H b=none):(HX h H).get? b=some o :=
 PySem.W.hideAll_get _ e λhm=>by
  have q:(H b).isSome=true:=(V5.mp hm).2
  rw [n] at q;simp at q
theorem PU {h:Heap} {H:Hp} {b:Addr} {o:Obj} (e:(HX h H).get? b=some o):h.get? b=some o/\H b=none:=by
 have e':h.get? b=some o:=PySem.W.of_hideAll (TC h H) e
 refine ⟨e',?_⟩
 cases q:H b with
 | none=>rfl
 | some x =>
  have hm:b∈TC h H:=V5.mpr ⟨Vq.mpr (Heap.lt_size e'),by simp [q]⟩
  have z:(HX h H).get? b=none:=PySem.W.hideAll_none (TC h H) hm
  rw [z] at e;cases e
end L2
namespace L2
open PySem PySem.Spec PyProof.Rows
structure Mod (K:UR) (mg:Str->Option Value) (base:Heap):Prop where
 Pn:K.In base
 glob:base.Ns mainGlobals mg
 blt:∃ mb,base.Ns builtinsNs mb/\∀ x:Str,x≠"__name__"->mb x=bootBuiltins x
 nolimit:base.NoLimit
structure Cx where
 prog:Program
 w:World
 K:UR
 mg:Str->Option Value
 base:Heap
 A:Around
 N:List Str
 Gs:Shared
 RT:Hp
 env:Env
 outer:List Env
 stack:List Env
 ex:List Addr
 fn:Str->Bool
 calm:Bool
 pn:List (Addr × Obj)
 xe:Value->Shared->Prop
def OX (l:List Env):List Addr:=l.filterMap (·.frame)
abbrev Cx.fs (X:Cx):List Addr:=OX X.outer
def Sa (sc:Scope) (x:Str):Prop:=sc.names.lookup x=some .local∨sc.names.lookup x=some .cell∨sc.names.lookup x=some .free
def Loc (sc:Scope) (x:Str):Prop:=sc.names.lookup x=some .local∨sc.names.lookup x=some .cell
def Look (env:Env) (h:Heap) (m:Str->Option Value) (x:Str) (u:Value):Prop :=
 (env.kindOf x=some .local/\m x=some u)∨((env.kindOf x=some .cell∨env.kindOf x=some .free)/\∃ c,env.cells.lookup x=some c/\h.IsCell c (some u))
structure Cx.Ok (X:Cx):Prop where
 mod:Mod X.K X.mg X.base
 kind:X.env.scope.kind=.function
 glob:X.env.globals=mainGlobals
 blt:X.env.builtins=builtinsNs
 above:X.Gs.heap.objs.size<=X.env.locals
 inj:∀ x y c,X.env.cells.lookup x=some c->X.env.cells.lookup y=some c->x=y
 has:∀ x,(X.env.kindOf x=some .cell∨X.env.kindOf x=some .free)->∃ c,X.env.cells.lookup x=some c
 SO:∀ x c,X.fn x=true->X.env.cells.lookup x=some c->X.Gs.heap.objs.size<=c
 hd:X.calm=true->X.A.handled=none
 frames:X.A.frames=some X.stack
 Tz:X.stack=X.outer∨(X.stack=X.env::X.outer/\X.env.frame=some X.env.locals)
 TL:∀ b∈X.ex,b≠X.env.locals/\∀ x c,X.env.cells.lookup x=some c->c≠b
 bs:∀ b o,X.base.get? b=some o->X.Gs.heap.get? b=some o/\X.RT b=none
 Pr:X.base.objs.size<=X.Gs.heap.objs.size
 O2:∀ b o,X.base.get? b=some o->b ∉ X.ex
 O3:∀ b∈X.ex,b ∉ X.fs
 DB:X.Gs.heap.FunFrames X.base X.outer
 QZ:∀ b∈X.fs,X.RT b=none
structure Inv (X:Cx) (pins:List (Addr × Obj)) (σ:List (Option V)) (H:Hp) (s:Shared):Prop where
 ok:X.Ok
 os:s.os=X.Gs.os
 bare:AllBare s.gens
 base:Un X.fs X.ex X.RT H X.Gs.heap s.heap
 loc:∃ m,s.heap.Ns X.env.locals m/\∀ (i:Nat) (x:Str) (v:V),X.N[i]?=some x->σ[i]?=some (some v)->Sa X.env.scope x->∃ u,RelV v u/\Look X.env s.heap m x u
 cell:∀ x c,X.env.cells.lookup x=some c->∃ v,s.heap.IsCell c v
 free:H X.env.locals=none
 vO:∀ x c,X.env.cells.lookup x=some c->H c=none
 pin:∀ p∈X.pn++pins,s.heap.get? p.1=some p.2/\H p.1=none/\p.1≠X.env.locals/\p.1 ∉ X.fs/\∀ v,p.2.data≠.cell v
 dv:ym X.prog X.w H s.heap
 len:σ.length=X.N.length
section
variable {X:Cx} {pins:List (Addr × Obj)} {σ:List (Option V)} {H H':Hp} {s:Shared} {h':Heap}
theorem Cx.Ok.Ua (ok:X.Ok) {b:Addr} {o:Obj} (e:X.base.get? b=some o):b ∉ X.fs:=λhb=>by
 have:=(ok.DB.mem hb).1
 rw [e] at this;cases this
theorem Inv.bs (I:Inv X pins σ H s):∀ b o,X.base.get? b=some o->s.heap.get? b=some o/\H b=none:=λb o e =>
 ⟨I.base.keep b o (I.ok.bs b o e).1 (I.ok.bs b o e).2 (I.ok.Ua e) (I.ok.O2 b o e),I.base.free b o (I.ok.bs b o e).1 (I.ok.bs b o e).2 (I.ok.O2 b o e)⟩
theorem Inv.bk (I:Inv X pins σ H s):∀ b o,X.base.get? b=some o->s.heap.get? b=some o:=λb o e=>(I.bs b o e).1
theorem Inv.mod (I:Inv X pins σ H s):Mod X.K X.mg X.base:=I.ok.mod
theorem Inv.Jp (I:Inv X pins σ H s):X.K.In s.heap:=I.ok.mod.Pn.keeps I.bk
theorem Inv.lt (I:Inv X pins σ H s):X.env.locals < s.heap.objs.size:=let ⟨_,hn,_⟩:=I.loc;hn.lt
theorem Inv.sz (I:Inv X pins σ H s):X.Gs.heap.objs.size<=s.heap.objs.size:=U8 I.ok.above (VN I.lt)
theorem Inv.T9 (I:Inv X pins σ H s) {a:Addr} (h:s.heap.objs.size<=a):a ∉ X.fs:=λhb=>by
 obtain ⟨_,o,ho,_⟩:=I.ok.DB.mem hb
 exact absurd (VH (Heap.lt_size ho) (U8 I.sz h)) (VT _)
theorem Inv.Rl (I:Inv X pins σ H s):∀ x c,X.env.cells.lookup x=some c->c≠X.env.locals:=λx c e z=>by
 obtain ⟨v,o,ho,hd⟩:=I.cell x c e
 obtain ⟨m,⟨o',es,ep,ho',hd',_⟩,_⟩:=I.loc
 rw [z,ho'] at ho;cases ho;rw [hd'] at hd;cases hd
theorem Inv.DB (I:Inv X pins σ H s):s.heap.FunFrames X.base X.outer:=by
 have all:∀ (l:List Env),(∀ b∈OX l,b∈X.fs)->X.Gs.heap.FunFrames X.base l->s.heap.FunFrames X.base l:=by
  intro l
  induction l with
  | nil=>intro _ _;trivial
  | cons env r ih =>
   intro hs hl
   obtain ⟨hk,⟨L,o,hf,hn,ho,hd⟩,hr⟩:=hl
   have hL:L∈X.fs:=hs L (by unfold OX;rw [List.filterMap_cons,hf];exact Vi)
   obtain ⟨sl,e⟩:=I.base.slot L o ho (I.ok.QZ L hL) hL λz=>I.ok.O3 L z hL
   exact ⟨hk,⟨L,_,hf,hn,e,hd⟩,ih (λb hb=>hs b (by unfold OX;rw [List.filterMap_cons,hf];exact Vl _ hb)) hr⟩
 exact all X.outer (λ_ hb=>hb) I.ok.DB
theorem Inv.stack (I:Inv X pins σ H s):s.heap.FunFrames X.base X.stack:=by
 rcases I.ok.Tz with e | ⟨e,hf⟩
 ·rw [e];exact I.DB
 ·rw [e]
  obtain ⟨m,hn,_⟩:=I.loc
  refine .cons (by rw [I.ok.kind];decide) hf hn ?_ I.DB
  exact Heap.get?_none_of_le (U8 I.ok.Pr I.ok.above)
theorem Inv.K2 (I:Inv X pins σ H s):∀ b∈OX X.stack,b∈X.env.locals::X.fs:=λb hb=>by
 rcases I.ok.Tz with e | ⟨e,hf⟩
 ·rw [e] at hb;exact Vl _ hb
 ·rw [e] at hb
  unfold OX at hb
  rw [List.filterMap_cons,hf] at hb
  exact hb
theorem Inv.K8 (I:Inv X pins σ H s):∀ b∈OX X.stack,H b=none:=λb hb=>by
 rcases U4.mp (I.K2 b hb) with e | hb
 ·rw [e];exact I.free
 ·obtain ⟨_,o,ho,_⟩:=I.ok.DB.mem hb
  exact I.base.free b o ho (I.ok.QZ b hb) λz=>I.ok.O3 b z hb
theorem Inv.step {g':Array GenState} {t':Nat} {d':Drawn} {ch:List Addr} (I:Inv X pins σ H s)
  (hch:∀ b∈ch,(b∈X.ex∨X.Gs.heap.objs.size<=b)/\b≠X.env.locals/\(∀ x c,X.env.cells.lookup x=some c->c≠b)/\∀ p∈X.pn++pins,p.1≠b)
  (keep:∀ b o,b≠X.env.locals->b ∉ X.fs->b ∉ ch->s.heap.get? b=some o->H b=none->h'.get? b=some o)
  (slot:∀ b o,b≠X.env.locals->b∈X.fs->b ∉ ch->s.heap.get? b=some o->H b=none->∃ sl,h'.get? b=some { o with slots:=sl }) (free:∀ b o,b ∉ ch->s.heap.get? b=some o->H b=none->H' b=none)
  (there:∀ b o,b ∉ ch->s.heap.get? b=some o->∃ o',h'.get? b=some o')
  (Aa:∀ b xs,H b=some (.tup xs)->H' b=some (.tup xs)) (Cd:∀ b o u,H b=some (.frz o u)->H' b=some (.frz o u)) (Iq:∀ b ps,H b=some (.tbl ps)->∃ more,H' b=some (.tbl (ps++more)))
  (ns:∀ m,s.heap.Ns X.env.locals m->h'.Ns X.env.locals m) (dv:ym X.prog X.w H' h') (hg:AllBare g') :
  Inv X pins σ H' { s with heap:=h',gens:=g',drawn:=d',toks:=t' }:=by
 have neL:∀ b o,X.Gs.heap.get? b=some o->b≠X.env.locals:=λb o e=>Vh (VH (Heap.lt_size e) I.ok.above)
 have neC:∀ b o,X.Gs.heap.get? b=some o->b ∉ X.ex->b ∉ ch:=λb o e hx hb=>by
  rcases (hch b hb).1 with z | z
  ·exact hx z
  ·exact absurd (VH (Heap.lt_size e) z) (VT _)
 have cellK:∀ x c,X.env.cells.lookup x=some c->∀ v,s.heap.IsCell c v->h'.IsCell c v:=λx c e v ⟨o,ho,hd⟩=>by
  have nch:c ∉ ch:=λz=>(hch c z).2.2.1 x c e rfl
  by_cases hc:c∈X.fs
  ·obtain ⟨sl,q⟩:=slot c o (I.Rl x c e) hc nch ho (I.vO x c e)
   exact ⟨_,q,hd⟩
  ·exact ⟨o,keep c o (I.Rl x c e) hc nch ho (I.vO x c e),hd⟩
 refine ⟨I.ok,I.os,hg,⟨λb o e n hb hx=>?_,λb o e n hb hx=>?_,λb o e n hx=>?_,λb o e hx=>?_,λb xs e=>Aa b xs (I.base.Aa b xs e),λb o xs e=>Cd b o xs (I.base.Cd b o xs e),λb ps e=>?_⟩,?_,λx c e=>?_,?_,λx c e=>?_,λp hp=>?_,dv,I.len⟩
 ·exact keep b o (neL b o e) hb (neC b o e hx) (I.base.keep b o e n hb hx) (I.base.free b o e n hx)
 ·obtain ⟨sl,e1⟩:=I.base.slot b o e n hb hx
  obtain ⟨sl',e2⟩:=slot b _ (neL b o e) hb (neC b o e hx) e1 (I.base.free b o e n hx)
  exact ⟨sl',e2⟩
 ·obtain ⟨o',e1⟩:=I.base.there b o e hx
  exact free b o' (neC b o e hx) e1 (I.base.free b o e n hx)
 ·obtain ⟨o',e1⟩:=I.base.there b o e hx
  exact there b o' (neC b o e hx) e1
 ·obtain ⟨m1,e1⟩:=I.base.Iq b ps e
  obtain ⟨m2,e2⟩:=Iq b _ e1
  exact ⟨m1++m2,by rw [e2,Array.append_assoc]⟩
 ·obtain ⟨m,hn,hl⟩:=I.loc
  refine ⟨m,ns m hn,λi x v e1 e2 e3=>?_⟩
  obtain ⟨u,r,l⟩:=hl i x v e1 e2 e3
  refine ⟨u,r,?_⟩
  rcases l with l | ⟨k,c,e,z⟩
  ·exact .inl l
  ·exact .inr ⟨k,c,e,cellK x c e _ z⟩
 ·obtain ⟨v,z⟩:=I.cell x c e
  exact ⟨v,cellK x c e v z⟩
 ·obtain ⟨m,⟨o,_,_,ho,_⟩,_⟩:=I.loc
  exact free _ o (λz=>(hch _ z).2.1 rfl) ho I.free
 ·obtain ⟨v,o,ho,hd⟩:=I.cell x c e
  exact free c o (λz=>(hch c z).2.2.1 x c e rfl) ho (I.vO x c e)
 ·obtain ⟨e,n,ne,nf,d⟩:=I.pin p hp
  have nch:p.1 ∉ ch:=λz=>(hch p.1 z).2.2.2 p hp rfl
  exact ⟨keep p.1 p.2 ne nf nch e n,free p.1 p.2 nch e n,ne,nf,d⟩
theorem Inv.un {t':Nat} (I:Inv X pins σ H s) (u:Un X.fs [] H H' s.heap h') (dv:ym X.prog X.w H' h'):Inv X pins σ H' { s with heap:=h',toks:=t' }:=by
 obtain ⟨m,⟨o,es,ep,ho,r⟩,_⟩:=id I.loc
 obtain ⟨sl,hL⟩:=u.any ho I.free (by simp)
 exact I.step (g':=s.gens) (d':=s.drawn) (ch:=[]) (λ_ z=>nomatch z) (λb o _ hb _ e n=>u.keep b o e n hb (by simp)) (λb o _ hb _ e n=>u.slot b o e n hb (by simp)) (λb o _ e n=>u.free b o e n (by simp)) (λb o _ e=>u.there b o e (by simp)) u.Aa u.Cd u.Iq (λm' hm=>by
  obtain ⟨o',es',ep',ho',r'⟩:=hm
  rw [ho] at ho';cases ho'
  exact ⟨_,es',ep',hL,r'⟩) dv I.bare
theorem Inv.call {g':Array GenState} {t':Nat} {d':Drawn} {ch:List Addr} (I:Inv X pins σ H s) (u:Un (OX X.stack) ch H H' s.heap h') (dv:ym X.prog X.w H' h') (hg:AllBare g')
  (hch:∀ b∈ch,(b∈X.ex∨X.Gs.heap.objs.size<=b)/\b≠X.env.locals/\(∀ x c,X.env.cells.lookup x=some c->c≠b)/\∀ p∈X.pn++pins,p.1≠b) :
  Inv X pins σ H' { s with heap:=h',gens:=g',drawn:=d',toks:=t' }:=by
 obtain ⟨m,⟨o,es,ep,ho,r⟩,_⟩:=id I.loc
 obtain ⟨sl,hL⟩:=u.any ho I.free λz=>(hch _ z).2.1 rfl
 exact I.step (ch:=ch) hch (λb o hL hb hc e n=>u.keep b o e n (λz=>(U4.mp (I.K2 b z)).elim hL hb) hc) (λb o _ _ hc e n=>u.any e n hc) (λb o hc e n=>u.free b o e n hc) (λb o hc e=>u.there b o e hc) u.Aa u.Cd u.Iq (λm' hm=>by
  obtain ⟨o',es',ep',ho',r'⟩:=hm
  rw [ho] at ho';cases ho'
  exact ⟨_,es',ep',hL,r'⟩) dv hg
theorem Inv.turned {t':Nat} {it:Addr} (I:Inv X pins σ H s) (k:∀ b o,b≠it->s.heap.get? b=some o->h'.get? b=some o) (hn:H it=none) (hL:it≠X.env.locals)
  (h1:it∈X.ex∨X.Gs.heap.objs.size<=it) (h2:∀ x c,X.env.cells.lookup x=some c->c≠it) (h3:∀ p∈X.pn++pins,p.1≠it):Inv X pins σ H { s with heap:=h',toks:=t' }:=by
 have nit:∀ b u,H b=some u->b≠it:=λb u e z=>by rw [z,hn] at e;cases e
 refine I.step (g':=s.gens) (d':=s.drawn) (ch:=[it]) (λb hb=>?_) (λb o _ _ hc e _=>k b o (λz=>hc (by simp [z])) e) (λb o _ _ hc e _=>⟨o.slots,k b o (λz=>hc (by simp [z])) e⟩) (λ_ _ _ _ n=>n)
  (λb o hc e=>⟨o,k b o (λz=>hc (by simp [z])) e⟩) (λ_ _ e=>e) (λ_ _ _ e=>e) (λb ps e=>⟨#[],by rw [e];simp⟩) (λm hm=>?_) (λb u e=>?_) I.bare
 ·have e:b=it:=by simpa using hb
  subst e
  exact ⟨h1,hL,h2,h3⟩
 ·obtain ⟨o,es,ep,ho,r⟩:=hm
  exact ⟨o,es,ep,k _ o (Ne.symm hL) ho,r⟩
 ·refine (I.dv b u e).qh (λc v hc q=>k c v ?_ q) (λ_ q=>q) λ_ _ q=>q
  rcases hc with z | z
  ·rw [z];exact nit b u e
  ·exact nit c _ z
theorem Inv.tok (I:Inv X pins σ H s) (t:Nat):Inv X pins σ H { s with toks:=t }:=I.un (h':=s.heap) (t':=t) Un.refl I.dv
theorem Inv.kept {t':Nat} (I:Inv X pins σ H s) (k:∀ b u,s.heap.get? b=some u->h'.get? b=some u):Inv X pins σ H { s with heap:=h',toks:=t' }:=I.un (Un.kept k) (I.dv.kept k)
theorem Inv.laid {a:Addr} {o:HO} {t':Nat} (I:Inv X pins σ H s) (k:∀ b u,s.heap.get? b=some u->h'.get? b=some u) (hp:s.heap.objs.size<=a) (new:i4 X.prog X.w (upd H a o) h' a o) :
  Inv X pins σ (upd H a o) { s with heap:=h',toks:=t' }:=I.un (Un.laid k hp (I.dv.fresh hp)) (I.dv.laid k hp new)
theorem Inv.write {x e:Addr} {o:HO} {t':Nat} (I:Inv X pins σ H s) (mu:Qo (H x)) (he:e=x∨H e=some (.own x)) (k:∀ b u,b≠e->s.heap.get? b=some u->h'.get? b=some u) (heo:∃ u,h'.get? e=some u)
  (new:i4 X.prog X.w (upd H x o) h' x o):Inv X pins σ (upd H x o) { s with heap:=h',toks:=t' }:=I.un (Un.write mu he k heo) (I.dv.write mu he k heo new)
theorem Inv.weak {σ':List (Option V)} (I:Inv X pins σ H s) (hl:σ'.length=σ.length) (w:∀ (i:Nat) v,σ'[i]?=some (some v)->σ[i]?=some (some v)):Inv X pins σ' H s :=
 ⟨I.ok,I.os,I.bare,I.base,let ⟨m,hn,hl'⟩:=I.loc;⟨m,hn,λi x v e1 e2 e3=>hl' i x v e1 (w i v e2) e3⟩,I.cell,I.free,I.vO,I.pin,I.dv,hl.trans I.len⟩
theorem Inv.LW {pins':List (Addr × Obj)} (I:Inv X pins σ H s) (h:∀ p∈pins',s.heap.get? p.1=some p.2/\H p.1=none/\p.1≠X.env.locals/\p.1 ∉ X.fs/\∀ v,p.2.data≠.cell v):Inv X pins' σ H s :=
 ⟨I.ok,I.os,I.bare,I.base,I.loc,I.cell,I.free,I.vO,λp hp=>(Wi.mp hp).elim (λz=>I.pin p (List.mem_append_left _ z)) (h p),I.dv,I.len⟩
theorem Ff {N:List Str} (hN:N.Nodup) {i j:Nat} {x:Str} (a:N[i]?=some x) (b:N[j]?=some x):i=j:=by
 obtain ⟨h1,e1⟩:=Vn.mp a
 obtain ⟨h2,e2⟩:=Vn.mp b
 exact (List.getElem_inj hN).mp (e1.trans e2.symm)
theorem Gm {M:Model} {A:Around} {E:Value->Shared->Prop} {i:Nat} {x:Str} {v:V} {u:Value} {Q:Unit->Shared->Prop} (I:Inv X pins σ H s) (hN:X.N.Nodup) (hi:X.N[i]?=some x) (hx:Loc X.env.scope x) (r:RelV v u)
  (h:∀ s',Inv X pins (σ.set i (some v)) H s'->(∃ a,Heap.SameBut a s.heap s'.heap/\(a=X.env.locals∨X.env.cells.lookup x=some a))->Q () s') (hf:X.fn x=true∨X.env.scope.names.lookup x=some .local:=by first | exact .inl rfl | exact .inr rfl | assumption):wpAny M A (storeName X.env x u) Q E s:=by
 obtain ⟨m,hn,hl⟩:=id I.loc
 have hcls:(X.env.scope.kind == .class || (X.env.scope.kind == .module&&X.env.locals != X.env.globals))=false:=by rw [I.ok.kind];rfl
 have hiσ:i < σ.length:=by rw [I.len];exact (Vn.mp hi).1
 have Rl:=I.Rl
 have tracked:∀ {a:Addr} {h':Heap},(∃ o,s.heap.get? a=some o/\H a=none)->Heap.SameBut a s.heap h'->ym X.prog X.w H h':=λ{a h'} ha hs b ob e=>by
  obtain ⟨_,_,hfree⟩:=ha
  refine (I.dv b ob e).qh (λc w' hc q=>(hs.2 c ?_).trans q) (λ_ q=>q) λ_ _ q=>q
  rintro rfl
  rcases hc with rfl | hc
  ·rw [hfree] at e;cases e
  ·rw [hfree] at hc;cases hc
 rcases hx with hk | hk
 ·refine wpAny_storeName_local hk hn (λh' hn' hs=>?_) hcls
  obtain ⟨oL,_,_,hoL,_⟩:=id hn
  refine h _ ⟨I.ok,I.os,I.bare,⟨λb o e n hb hx=>?_,λb o e n hb hx=>?_,I.base.free,λb o e hx=>?_,I.base.Aa,I.base.Cd,I.base.Iq⟩,⟨_,hn',λj y v' e1 e2 e3=>?_⟩,λy c e=>?_,I.free,I.vO,λp hp=>?_,tracked ⟨oL,hoL,I.free⟩ hs,by simpa using I.len⟩ ⟨_,hs,.inl rfl⟩
  ·exact (hs.2 b (Vh (VH (Heap.lt_size e) I.ok.above))).trans (I.base.keep b o e n hb hx)
  ·obtain ⟨sl,e1⟩:=I.base.slot b o e n hb hx
   exact ⟨sl,(hs.2 b (Vh (VH (Heap.lt_size e) I.ok.above))).trans e1⟩
  ·obtain ⟨o',e1⟩:=I.base.there b o e hx
   exact ⟨o',(hs.2 b (Vh (VH (Heap.lt_size e) I.ok.above))).trans e1⟩
  ·by_cases hj:j=i
   ·subst hj
    rw [hi] at e1;cases e1
    rw [V6 hiσ] at e2
    cases e2
    exact ⟨u,r,.inl ⟨hk,by simp⟩⟩
   ·rw [WI (Ne.symm hj)] at e2
    obtain ⟨u',r',q⟩:=hl j y v' e1 e2 e3
    refine ⟨u',r',?_⟩
    rcases q with ⟨k,e⟩ | ⟨k,c,e,z⟩
    ·refine .inl ⟨k,?_⟩
     have:y≠x:=λe=>hj (Ff hN e1 (e ▸ hi))
     simp [this,e]
    ·exact .inr ⟨k,c,e,z.sameBut hs (Rl y c e)⟩
  ·obtain ⟨w',z⟩:=I.cell y c e
   exact ⟨w',z.sameBut hs (Rl y c e)⟩
  ·obtain ⟨e,n,ne,nf,d⟩:=I.pin p hp
   exact ⟨(hs.2 p.1 ne).trans e,n,ne,nf,d⟩
 ·have hfn:X.fn x=true:=by
   rcases hf with z | z
   ·exact z
   ·rw [z] at hk;cases hk
  obtain ⟨c,hc⟩:=I.ok.has x (.inl hk)
  obtain ⟨w',z⟩:=I.cell x c hc
  refine wpAny_storeName_cell I.ok.kind hk hc z (λh' hc' hs=>?_)
  obtain ⟨oc,hoc,hocd⟩:=id z
  refine h { s with heap:=h' } ⟨I.ok,I.os,I.bare,⟨λb o e n hb hx=>?_,λb o e n hb hx=>?_,I.base.free,λb o e hx=>?_,I.base.Aa,I.base.Cd,I.base.Iq⟩,⟨m,hn.sameBut hs (Ne.symm (Rl x c hc)),λj y v' e1 e2 e3=>?_⟩,λy c' e=>?_,I.free,I.vO,λp hp=>?_,tracked ⟨oc,hoc,I.vO x c hc⟩ hs,by simpa using I.len⟩ ⟨c,hs,.inr hc⟩
  ·exact (hs.2 b (Vh (VH (Heap.lt_size e) (I.ok.SO x c hfn hc)))).trans (I.base.keep b o e n hb hx)
  ·obtain ⟨sl,e1⟩:=I.base.slot b o e n hb hx
   exact ⟨sl,(hs.2 b (Vh (VH (Heap.lt_size e) (I.ok.SO x c hfn hc)))).trans e1⟩
  ·obtain ⟨o',e1⟩:=I.base.there b o e hx
   exact ⟨o',(hs.2 b (Vh (VH (Heap.lt_size e) (I.ok.SO x c hfn hc)))).trans e1⟩
  ·by_cases hj:j=i
   ·subst hj
    rw [hi] at e1;cases e1
    rw [V6 hiσ] at e2
    cases e2
    exact ⟨u,r,.inr ⟨.inl hk,c,hc,hc'⟩⟩
   ·rw [WI (Ne.symm hj)] at e2
    obtain ⟨u',r',q⟩:=hl j y v' e1 e2 e3
    refine ⟨u',r',?_⟩
    rcases q with q | ⟨k,c',e,z'⟩
    ·exact .inl q
    ·refine .inr ⟨k,c',e,z'.sameBut hs ?_⟩
     rintro rfl
     exact hj (Ff hN e1 (I.ok.inj _ _ _ e hc ▸ hi))
  ·by_cases hcc:c'=c
   ·subst hcc;exact ⟨_,hc'⟩
   ·obtain ⟨w2,z2⟩:=I.cell y c' e
    exact ⟨w2,z2.sameBut hs hcc⟩
  ·obtain ⟨e,n,ne,nf,d⟩:=I.pin p hp
   refine ⟨(hs.2 p.1 ?_).trans e,n,ne,nf,d⟩
   intro q
   rw [q,hoc] at e
   have q':oc=p.2:=Option.some.inj e
   exact d w' (by rw [<- q'];exact hocd)
theorem Jq {M:Model} {A:Around} {E:Value->Shared->Prop} {i:Nat} {x:Str} {v:V} {u:Value} {Q:Unit->Shared->Prop} (I:Inv X pins σ H s) (hN:X.N.Nodup) (hi:X.N[i]?=some x) (hx:Loc X.env.scope x) (r:RelV v u)
  (h:∀ s',Inv X pins (σ.set i (some v)) H s'->Q () s') (hf:X.fn x=true∨X.env.scope.names.lookup x=some .local:=by first | exact .inl rfl | exact .inr rfl | assumption):wpAny M A (storeName X.env x u) Q E s :=
 Gm I hN hi hx r (λs' I' _=>h s' I') hf
theorem Inv.S7 {s':Shared} {ch:List Addr} (I:Inv X pins σ H s) (ho:s'.os=s.os) (u:Un (OX X.stack) ch H H' s.heap s'.heap) (dv:ym X.prog X.w H' s'.heap) (hg:AllBare s'.gens)
  (hch:∀ b∈ch,(b∈X.ex∨X.Gs.heap.objs.size<=b)/\b≠X.env.locals/\(∀ x c,X.env.cells.lookup x=some c->c≠b)/\∀ p∈X.pn++pins,p.1≠b):Inv X pins σ H' s':=by
 obtain ⟨h',g',d',t',o'⟩:=s'
 have e:o'=s.os:=ho
 subst e
 exact I.call (g':=g') (t':=t') (d':=d') u dv hg hch
end
abbrev XK:=Value->Option Addr->Hp->Prop
abbrev St:=List (Option V)
abbrev VK:=V->Hp->Prop
abbrev TE:=St->Hp->VK->Prop
abbrev TT:=St->Hp->(Bool->Hp->Prop)->Prop
abbrev TA:=St->Hp->(List V->Hp->Prop)->Prop
structure Ends where
 nx:St->Hp->Prop
 rt:VK
 bk:St->Hp->Prop:=λ_ _=>False
 ct:St->Hp->Prop:=λ_ _=>False
abbrev TS:=Ends->St->Hp->Prop
def EP (X:Cx) (pins:List (Addr × Obj)) (σ:St) (Q:VK) (u:Value) (s':Shared):Prop:=∃ v H',Inv X pins σ H' s'/\RelV v u/\Q v H'
def TP (X:Cx) (pins:List (Addr × Obj)) (σ:St) (Q:Bool->Hp->Prop) (b:Bool) (s':Shared):Prop:=∃ H',Inv X pins σ H' s'/\Q b H'
def AP (X:Cx) (pins:List (Addr × Obj)) (σ:St) (Q:List V->Hp->Prop) (us:List Value) (s':Shared):Prop:=∃ vs H',Inv X pins σ H' s'/\Vals vs us/\Q vs H'
def SP (X:Cx) (pins:List (Addr × Obj)) (D:Ends) (f:Flow) (s':Shared):Prop :=
 match f with
 | .next=>∃ σ' H',Inv X pins σ' H' s'/\D.nx σ' H'
 | .brk=>∃ σ' H',Inv X pins σ' H' s'/\D.bk σ' H'
 | .cont=>∃ σ' H',Inv X pins σ' H' s'/\D.ct σ' H'
 | .ret u=>∃ v σ' H',Inv X pins σ' H' s'/\RelV v u/\D.rt v H'
def PE (X:Cx) (e:Expr) (t:TE):Prop :=
 ∀ (pins:List (Addr × Obj)) (s:Shared) (σ:St) (H:Hp) (Q:VK),Inv X pins σ H s->t σ H Q->wpAny (model X.prog X.w) X.A (eval e X.env) (EP X pins σ Q) X.xe s
def PT (X:Cx) (e:Expr) (t:TT):Prop :=
 ∀ (pins:List (Addr × Obj)) (s:Shared) (σ:St) (H:Hp) (Q:Bool->Hp->Prop),Inv X pins σ H s->t σ H Q->wpAny (model X.prog X.w) X.A (isTrue e X.env (eval e X.env)) (TP X pins σ Q) X.xe s
def PW (X:Cx) (e:Expr) (t:TT):Prop :=
 ∀ (whole:Sem Value) (pins:List (Addr × Obj)) (s:Shared) (σ:St) (H:Hp) (Q:Bool->Hp->Prop),Inv X pins σ H s->t σ H Q->wpAny (model X.prog X.w) X.A (isTrue e X.env whole) (TP X pins σ Q) X.xe s
theorem PW.pt {X:Cx} {e:Expr} {t:TT} (h:PW X e t):PT X e t:=h _
def PA (X:Cx) (es:List Expr) (t:TA):Prop :=
 ∀ (pos:Pos) (pins:List (Addr × Obj)) (s:Shared) (σ:St) (H:Hp) (Q:List V->Hp->Prop),Inv X pins σ H s->t σ H Q->wpAny (model X.prog X.w) X.A (spliced (backTo pos (starEach es X.env))) (AP X pins σ Q) X.xe s
def PS (X:Cx) (st:Stmt) (t:TS):Prop :=
 ∀ (pins:List (Addr × Obj)) (s:Shared) (σ:St) (H:Hp) (D:Ends),Inv X pins σ H s->t D σ H->wpAny (model X.prog X.w) X.A (exec st X.env) (SP X pins D) X.xe s
def Mx (X:Cx) (st:List Stmt) (t:TS):Prop :=
 ∀ (pins:List (Addr × Obj)) (s:Shared) (σ:St) (H:Hp) (D:Ends),Inv X pins σ H s->t D σ H->wpAny (model X.prog X.w) X.A (execs st X.env) (SP X pins D) X.xe s
theorem dN {α:Type} {t:Sem α} {Q Q':α->Shared->Prop} {M:Model} {A:Around} {E:Value->Shared->Prop} {s:Shared} (h:wpAny M A t Q E s) (hQ:∀ a s,Q a s->Q' a s):wpAny M A t Q' E s:=wpAny_mono h hQ λ_ _ x=>x
end L2
namespace L2
open PySem PySem.Spec PyProof.Rows
section
variable {X:Cx}
def P8 (i:Nat):TE:=λσ H Q=>∃ v,σ[i]?=some (some v)/\Q v H
def tC (v:V):TE:=λ_ H Q=>Q v H
theorem Oz {i:Nat} {x:Str} {pos:Pos} (hN:X.N[i]?=some x) (hv:Sa X.env.scope x) (hd:(x == ("__debug__":Str))=false:=by decide) (hcd:(x == ("__classdict__":Str))=false:=by decide):PE X (.Name x pos) (P8 i):=by
 intro pins s σ H Q I h
 obtain ⟨v,e,h⟩:=h
 obtain ⟨m,hn,hl⟩:=I.loc
 obtain ⟨u,r,l⟩:=hl i x v hN e hv
 have fin:EP X pins σ Q u s:=⟨v,H,I,r,h⟩
 rcases l with ⟨hk,hm⟩ | ⟨hk,c,hc,hcell⟩
 ·exact wpAny_Name (wpAny_loadName_local I.ok.kind hk hn hm fin) hd
 ·rcases hk with hk | hk
  ·exact wpAny_Name (wpAny_loadName_cell I.ok.kind hk hc hcell fin) hd
  ·exact wpAny_Name (wpAny_loadName_free I.ok.kind hk hc hcell fin hcd) hd
theorem aw {i j pos}:PE X (.Constant (.int i) j pos) (tC (.int i)):=λ_ _ _ H _ I h=>wpAny_Constant_int ⟨.int i,H,I.tok _,⟨_,rfl⟩,h⟩
theorem Ed {b j pos}:PE X (.Constant (.bool b) j pos) (tC (.bl b)):=λ_ _ _ H _ I h=>Constant_bool ⟨.bl b,H,I,rfl,h⟩
theorem ib {j pos}:PE X (.Constant .none j pos) (tC .dF):=λ_ _ _ H _ I h=>Constant_none ⟨.dF,H,I,rfl,h⟩
def Gl (X:Cx) (x:Str):Prop:=X.env.kindOf x=some .globalImplicit
theorem Eb {E:Value->Shared->Prop} {pins:List (Addr × Obj)} {s:Shared} {σ:St} {H:Hp} {x:Str} {u:Value} {pos:Pos} {Q:Value->Shared->Prop} (I:Inv X pins σ H s) (hg:Gl X x) (hm:X.mg x=some u) (h:Q u s)
  (hd:(x == ("__debug__":Str))=false:=by decide):wpAny (model X.prog X.w) X.A (eval (.Name x pos) X.env) Q E s :=
 Calls.Name_function_global I.ok.kind hg (Calls.loadGlobal_global (by rw [I.ok.glob];exact I.mod.glob.keeps I.bk) hm h) hd
theorem Hh {E:Value->Shared->Prop} {pins:List (Addr × Obj)} {s:Shared} {σ:St} {H:Hp} {x:Str} {u:Value} {pos:Pos} {Q:Value->Shared->Prop} (I:Inv X pins σ H s) (hg:Gl X x) (hm:X.mg x=none) (hv:bootBuiltins x=some u) (h:Q u s)
  (hn:x≠"__name__":=by decide) (hd:(x == ("__debug__":Str))=false:=by decide):wpAny (model X.prog X.w) X.A (eval (.Name x pos) X.env) Q E s:=by
 obtain ⟨mb,h1,h2⟩:=I.mod.blt
 exact Calls.Name_function_global I.ok.kind hg (Calls.loadGlobal_builtin (by rw [I.ok.glob];exact I.mod.glob.keeps I.bk) hm (by rw [I.ok.blt];exact h1.keeps I.bk) ((h2 x hn).trans hv) h) hd
theorem Bx {x:Str} {v:V} {u:Value} {pos:Pos} (hg:Gl X x) (hm:X.mg x=some u) (r:RelV v u) (hd:(x == ("__debug__":Str))=false:=by decide):PE X (.Name x pos) (tC v) :=
 λ_ _ _ H _ I h=>Eb I hg hm ⟨v,H,I,r,h⟩ hd
variable {a b:Expr} {ta tb:TE} {pos:Pos}
def PC (X:Cx) (op:CmpOp) (a b:Expr) (t:TE):Prop :=
 ∀ (pins:List (Addr × Obj)) (s:Shared) (σ:St) (H:Hp) (Q:VK),Inv X pins σ H s->t σ H Q ->
  wpAny (model X.prog X.w) X.A (eval a X.env) (λv s₁=>wpAny (model X.prog X.w) X.A (eval b X.env) (λu s₂=>wpAny (model X.prog X.w) X.A (compareOp op v u) (EP X pins σ Q) X.xe s₂) X.xe s₁) X.xe s
def tB (t:TE):TT:=λσ H Q=>t σ H λx H1=>∃ c,x=.bl c/\Q c H1
theorem Fv {op:CmpOp} {t:TE} (h:PC X op a b t) (h1:behindInMarks op b=false:=by first | exact nobehind _ (by decide) (by decide) | rfl):PT X (.Compare a [op] [b] pos) (tB t):=by
 intro pins s σ H Q I hw
 refine wpAny_isTrue_Compare1 (dN (h pins s σ H _ I hw) λv s1 h1=>dN h1 λu s2 h2=>dN h2 λc s3 ⟨x,H1,I1,r1,q1⟩=>?_) h1
 obtain ⟨d,rfl,q⟩:=q1
 cases r1
 exact wpAny_truthy_bool ⟨H1,I1,q⟩
theorem bG {e:Expr} {t:TE} (h:PE X e t) (he:∀ whole,isTrue e X.env whole=(do let v <- whole;standAt e.pos;holding [v] (truthy v)):=by intro _;rfl):PT X e (tB t):=by
 intro pins s σ H Q I hw
 refine isTrue_plain (dN (h pins s σ H _ I hw) λv s1 ⟨x,H1,I1,r1,q1⟩=>?_) (he _)
 obtain ⟨d,rfl,q⟩:=q1
 cases r1
 exact wpAny_truthy_bool ⟨H1,I1,q⟩
variable {tA tB':TT} {rest:List Expr}
def Us (t u:TT):TT:=λσ H Q=>t σ H λc H1=>if c=true then u σ H1 Q else Q false H1
def UL (t u:TT):TT:=λσ H Q=>t σ H λc H1=>if c=true then Q true H1 else u σ H1 Q
def Td (t:TT):TT:=λσ H Q=>t σ H λc H1=>Q (!c) H1
theorem zp (ha:PT X a tA):PW X (.BoolOp .And [a] pos) tA:=by
 intro wh pins s σ H Q I h
 refine isTrue_and (dN (ha pins s σ H Q I h) λc s1 e=>?_)
 cases c with
 | true=>exact isTrue_and_nil e
 | false=>exact e
theorem Cy (ha:PT X a tA):PW X (.BoolOp .Or [a] pos) tA:=by
 intro wh pins s σ H Q I h
 refine isTrue_or (dN (ha pins s σ H Q I h) λc s1 e=>?_)
 cases c with
 | false=>exact isTrue_or_nil e
 | true=>exact e
theorem yi (ha:PT X a tA) (hb:PW X (.BoolOp .And (b::rest) pos) tB'):PW X (.BoolOp .And (a::b::rest) pos) (Us tA tB'):=by
 intro wh pins s σ H Q I h
 refine isTrue_and (dN (ha pins s σ H _ I h) λc s1 ⟨H1,I1,q1⟩=>?_)
 cases c with
 | true=>exact hb wh pins s1 σ H1 Q I1 q1
 | false=>exact ⟨H1,I1,q1⟩
theorem GG (ha:PT X a tA) (hb:PW X (.BoolOp .Or (b::rest) pos) tB'):PW X (.BoolOp .Or (a::b::rest) pos) (UL tA tB'):=by
 intro wh pins s σ H Q I h
 refine isTrue_or (dN (ha pins s σ H _ I h) λc s1 ⟨H1,I1,q1⟩=>?_)
 cases c with
 | true=>exact ⟨H1,I1,q1⟩
 | false=>exact hb wh pins s1 σ H1 Q I1 q1
theorem ia (ha:PT X a tA):PT X (.UnaryOp .Not a pos) (Td tA):=by
 intro pins s σ H Q I h
 exact isTrue_not (ha pins s σ H (λc H1=>Q (!c) H1) I h)
def SV (ta tb:TE):TE:=λσ H Q=>ta σ H λx H1=>∃ c,x=.bl c/\if c=true then tb σ H1 Q else Q (.bl false) H1
theorem B8 {op} {t:TE} (h:PE X a t):PE X (.BoolOp op [a] pos) t:=λpins s σ H Q I hw=>BoolOp_one (h pins s σ H Q I hw)
theorem BZ (ha:PE X a ta) (hb:PE X (.BoolOp .And (b::rest) pos) tb):PE X (.BoolOp .And (a::b::rest) pos) (SV ta tb):=by
 intro pins s σ H Q I h
 refine BoolOp_and (dN (ha pins s σ H _ I h) λv s1 ⟨x,H1,I1,r1,q1⟩=>?_)
 obtain ⟨c,rfl,q1⟩:=q1
 cases r1
 refine wpAny_truthy_bool ?_
 cases c with
 | true=>exact hb pins s1 σ H1 Q I1 q1
 | false=>exact ⟨.bl false,H1,I1,rfl,q1⟩
def UI (t:TT) (ta tb:TE):TE:=λσ H Q=>t σ H λc H1=>if c=true then ta σ H1 Q else tb σ H1 Q
theorem ow {c:Expr} (hc:PT X c tA) (ha:PE X a ta) (hb:PE X b tb):PE X (.IfExp c a b pos) (UI tA ta tb):=by
 intro pins s σ H Q I h
 refine wpAny_IfExp (dN (hc pins s σ H _ I h) λd s1 ⟨H1,I1,q1⟩=>?_)
 cases d with
 | true=>exact ha pins s1 σ H1 Q I1 q1
 | false=>exact hb pins s1 σ H1 Q I1 q1
end
end L2
namespace L2
open PySem PySem.Spec PyProof.Rows
def bc (K:UR) (H:Hp) (a:Addr) (xs:List V):Prop :=
 Rd H a (.lst xs) ∨
  ∃ (o:Obj) (its:Array Value) (n:Nat),K.lookup a=some o/\o.cls=.type "list"/\o.dict=none/\o.data=.seq its n/\its.size<=sizeLine/\Vals xs its.toList
def gg (K:UR) (H:Hp) (a:Addr) (xs:List V):Prop :=
 Rd H a (.tup xs) ∨
  ∃ (o:Obj) (its:Array Value) (n:Nat),K.lookup a=some o/\o.cls=.type "tuple"/\o.data=.seq its n/\its.size<=sizeLine/\Vals xs its.toList
noncomputable def Ur:Value->Option V
 | .none=>some .dF
 | .bool b=>some (.bl b)
 | .int i _=>some (.int i)
 | .str x _=>some (.str x)
 | .bytes b _=>some (.IH b)
 | .float b _=>some (.TN b)
 | .ref a=>some (.ref a)
 | .type n=>some (.ty n)
 | _=>none
theorem RelV.abs {x:V} {u:Value} (r:RelV x u):Ur u=some x:=by
 cases x with
 | dF=>cases r;rfl
 | bl _=>cases r;rfl
 | int _=>obtain ⟨t,rfl⟩:=r;rfl
 | str _=>obtain ⟨t,rfl⟩:=r;rfl
 | IH _=>obtain ⟨t,rfl⟩:=r;rfl
 | TN _=>obtain ⟨t,rfl⟩:=r;rfl
 | ref _=>cases r;rfl
 | ty _=>cases r;rfl
theorem RelV.inj {x y:V} {u:Value} (r:RelV x u) (q:RelV y u):x=y:=Option.some.inj (r.abs.symm.trans q.abs)
theorem Vals.inj:∀ {xs ys:List V} {us:List Value},Vals xs us->Vals ys us->xs=ys
 | _,_,_,.nil,.nil=>rfl
 | _,_,_,.cons r t,.cons r' t'=>by rw [r.inj r',Vals.inj t t']
section
variable {X:Cx} {pins:List (Addr × Obj)} {σ:St} {H:Hp} {s:Shared} {a:Addr} {xs ys:List V}
theorem bc.of {K:UR} (h:H a=some (.lst xs)):bc K H a xs:=.inl (.inl h)
theorem gg.of {K:UR} (h:H a=some (.tup xs)):gg K H a xs:=.inl (.inl h)
theorem Inv.list (I:Inv X pins σ H s) (h:bc X.K H a xs):∃ its:List Value,Vals xs its/\PlainL s.heap a its.toArray/\xs.length<=sizeLine:=by
 rcases h with h | ⟨o,its,n,hk,hc,hd,hs,hz,r⟩
 ·obtain ⟨z,its,n,r,e⟩:=h.ok I.dv
  exact ⟨its,r,⟨_,n,e,rfl,rfl,rfl⟩,z⟩
 ·refine ⟨its.toList,r,⟨o,n,I.Jp a o hk,hc,hd,by simpa using hs⟩,?_⟩
  have e:=r.length
  simp only [Array.length_toList] at e
  lia
theorem Inv.tuple (I:Inv X pins σ H s) (h:gg X.K H a xs):∃ its:List Value,Vals xs its/\IsTup s.heap a its.toArray/\xs.length<=sizeLine:=by
 rcases h with h | ⟨o,its,n,hk,hc,hs,hz,r⟩
 ·obtain ⟨z,its,r,p⟩:=h.ok I.dv
  exact ⟨its,r,p,z⟩
 ·refine ⟨its.toList,r,⟨o,I.Jp a o hk,hc,n,by simpa using hs⟩,?_⟩
  have e:=r.length
  simp only [Array.length_toList] at e
  lia
theorem Inv.NX (I:Inv X pins σ H s) (h:bc X.K H a xs) (h':bc X.K H a ys):xs=ys:=by
 obtain ⟨its,r,⟨o,n,e,_,_,d⟩,_⟩:=I.list h
 obtain ⟨its',r',⟨o',n',e',_,_,d'⟩,_⟩:=I.list h'
 rw [e] at e';cases e'
 rw [d] at d'
 injection d' with d1 _
 have:its=its':=by simpa using congrArg Array.toList d1
 subst this
 exact r.inj r'
theorem Inv.MK (I:Inv X pins σ H s) (h:gg X.K H a xs) (h':gg X.K H a ys):xs=ys:=by
 obtain ⟨its,r,⟨o,e,_,n,d⟩,_⟩:=I.tuple h
 obtain ⟨its',r',⟨o',e',_,n',d'⟩,_⟩:=I.tuple h'
 rw [e] at e';cases e'
 rw [d] at d'
 injection d' with d1 _
 have:its=its':=by simpa using congrArg Array.toList d1
 subst this
 exact r.inj r'
end
abbrev Cx.Gd (X:Cx) (E:Value->Shared->Prop):Cx:={ X with xe:=E }
abbrev Cx.Tw (X:Cx):Cx:=X.Gd λ_ _=>False
theorem Cx.Ok.Gd {X:Cx} (ok:X.Ok) (E:Value->Shared->Prop):(X.Gd E).Ok :=
 ⟨ok.mod,ok.kind,ok.glob,ok.blt,ok.above,ok.inj,ok.has,ok.SO,ok.hd,ok.frames,ok.Tz,ok.TL,ok.bs,ok.Pr,ok.O2,ok.O3,ok.DB,ok.QZ⟩
theorem Cx.Ok.yR {X:Cx} {E:Value->Shared->Prop} (ok:(X.Gd E).Ok):X.Ok :=
 ⟨ok.mod,ok.kind,ok.glob,ok.blt,ok.above,ok.inj,ok.has,ok.SO,ok.hd,ok.frames,ok.Tz,ok.TL,ok.bs,ok.Pr,ok.O2,ok.O3,ok.DB,ok.QZ⟩
section
variable {X:Cx} {pins:List (Addr × Obj)} {σ:St} {H:Hp} {s:Shared} {E:Value->Shared->Prop}
theorem Inv.Gd (I:Inv X pins σ H s) (E:Value->Shared->Prop):Inv (X.Gd E) pins σ H s:=⟨I.ok.Gd E,I.os,I.bare,I.base,I.loc,I.cell,I.free,I.vO,I.pin,I.dv,I.len⟩
theorem Inv.yR (I:Inv (X.Gd E) pins σ H s):Inv X pins σ H s:=⟨I.ok.yR,I.os,I.bare,I.base,I.loc,I.cell,I.free,I.vO,I.pin,I.dv,I.len⟩
theorem SP.yR {D:Ends} {f:Flow} {s':Shared} (h:SP (X.Gd E) pins D f s'):SP X pins D f s':=by
 cases f with
 | next=>obtain ⟨σ',H',I,q⟩:=h;exact ⟨σ',H',I.yR,q⟩
 | brk=>obtain ⟨σ',H',I,q⟩:=h;exact ⟨σ',H',I.yR,q⟩
 | cont=>obtain ⟨σ',H',I,q⟩:=h;exact ⟨σ',H',I.yR,q⟩
 | ret u=>obtain ⟨v,σ',H',I,r,q⟩:=h;exact ⟨v,σ',H',I.yR,r,q⟩
theorem Mx.Tw {st:List Stmt} {t:TS} (h:Mx X.Tw st t):Mx X st t:=λpins s σ H D I hw =>
 wpAny_mono (h pins s σ H D (I.Gd _) hw) (λ_ _ q=>q.yR) λ_ _ z=>False.elim z
end
section
variable {X:Cx} {st:Stmt} {rest:List Stmt} {t u:TS} {e:Expr} {te:TE} {pos:Pos}
def Qu:TS:=λD σ H=>D.nx σ H
def Up (t u:TS):TS:=λD σ H=>t { D with nx:=u D } σ H
theorem aO:Mx X [] Qu:=λ_ _ σ H _ I h=>wpAny_execs_nil ⟨σ,H,I,h⟩
theorem ah (h1:PS X st t) (h2:Mx X rest u):Mx X (st::rest) (Up t u):=by
 intro pins s σ H D I h
 refine wpAny_execs_cons (dN (h1 pins s σ H { D with nx:=u D } I h) λf s1 q=>?_)
 cases f with
 | next =>
  obtain ⟨σ',H',I',q⟩:=q
  exact h2 pins s1 σ' H' D I' q
 | ret v=>exact q
 | brk=>exact q
 | cont=>exact q
theorem ao (h1:PS X st t):Mx X [st] t:=by
 intro pins s σ H D I h
 refine wpAny_execs_cons (dN (h1 pins s σ H D I h) λf s1 q=>?_)
 cases f with
 | next=>exact wpAny_execs_nil q
 | ret v=>exact q
 | brk=>exact q
 | cont=>exact q
theorem Inv.quiet {pins:List (Addr × Obj)} {σ:St} {H:Hp} {s:Shared} (I:Inv X pins σ H s):interactive X.env=false:=by simp [interactive,I.ok.kind]
def Qq (te:TE):TS:=λD σ H=>te σ H λ_ H1=>D.nx σ H1
theorem bQ (he:PE X e te) (hs:swapsWith e none pos.line X.env=pure false:=by rfl):PS X (.Expr e pos) (Qq te):=by
 intro pins s σ H D I h
 exact wpAny_Expr_any (dN (he pins s σ H _ I h) λv s1 ⟨x,H1,I1,r1,q1⟩=>⟨σ,H1,I1,q1⟩) I.quiet hs
def Ui (te:TE):TS:=λD σ H=>te σ H D.rt
theorem aB (he:PE X e te):PS X (.Return (some e) pos) (Ui te):=by
 intro pins s σ H D I h
 exact wpAny_Return_some (dN (he pins s σ H _ I h) λv s1 ⟨x,H1,I1,r1,q1⟩=>⟨x,σ,H1,I1,r1,q1⟩)
def Tq:TS:=λD _ H=>D.rt .dF H
theorem Ik:PS X (.Return none pos) Tq:=λ_ _ σ H _ I h=>wpAny_Return_none ⟨.dF,σ,H,I,rfl,h⟩
def To (c:TT) (t u:TS):TS:=λD σ H=>c σ H λb H1=>if b=true then t D σ H1 else u D σ H1
theorem bg {c:Expr} {a b:List Stmt} {tc:TT} (hc:PT X c tc) (ha:Mx X a t) (hb:Mx X b u):PS X (.If c a b pos) (To tc t u):=by
 intro pins s σ H D I h
 refine wpAny_If (dN (hc pins s σ H _ I h) λd s1 ⟨H1,I1,q1⟩=>?_)
 cases d with
 | true=>exact ha pins s1 σ H1 D I1 q1
 | false=>exact hb pins s1 σ H1 D I1 q1
end
abbrev TG:=V->St->Hp->(St->Hp->Prop)->Prop
def PG (X:Cx) (target:Expr) (t:TG):Prop :=
 ∀ (pins:List (Addr × Obj)) (s:Shared) (σ:St) (H:Hp) (v:V) (u:Value) (Q:St->Hp->Prop),Inv X pins σ H s->RelV v u->t v σ H Q ->
  wpAny (model X.prog X.w) X.A (assign target X.env u) (λ_ s'=>∃ σ' H',Inv X pins σ' H' s'/\Q σ' H') X.xe s
abbrev Rx:=V->V->V->Hp->(Hp->Prop)->Prop
def Sf (X:Cx) (t:Rx):Prop :=
 ∀ (pins:List (Addr × Obj)) (s:Shared) (σ:St) (H:Hp) (o i v:V) (ov iv u:Value) (Q:Hp->Prop),Inv X pins σ H s->RelV o ov->RelV i iv->RelV v u->t o i v H Q ->
  wpAny (model X.prog X.w) X.A (setItem ov iv u) (λ_ s'=>∃ H',Inv X pins σ H' s'/\Q H') X.xe s
section
variable {X:Cx} {pos:Pos}
def LH (i:Nat):TG:=λv σ H Q=>Q (σ.set i (some v)) H
theorem ff {i:Nat} {x:Str} (hN:X.N.Nodup) (hi:X.N[i]?=some x) (hx:Loc X.env.scope x) (hf:X.fn x=true∨X.env.scope.names.lookup x=some .local:=by first | exact .inl rfl | exact .inr rfl | assumption):PG X (.Name x pos) (LH i):=by
 intro pins s σ H v u Q I r h
 exact wpAny_assign_Name (Jq I hN hi hx r (λs' I'=>⟨_,H,I',h⟩) hf)
def TX (to ti:TE) (t:Rx):TG:=λv σ H Q=>to σ H λo H1=>ti σ H1 λi H2=>t o i v H2 λH3=>Q σ H3
theorem Ka {o i:Expr} {to ti:TE} {t:Rx} (ho:PE X o to) (hi:PE X i ti) (hs:Sf X t)
  (ha:∀ v,assign (.Subscript o i pos) X.env v=(do
   let ov <- holding [v] (eval o X.env)
   let iv <- holding [v,ov] (eval i X.env)
   standAt pos
   holding [v,ov,iv] (setItem ov iv v)
   release [v,ov,iv] []):=by intro _;rfl):PG X (.Subscript o i pos) (TX to ti t):=by
 intro pins s σ H v u Q I r h
 rw [ha]
 refine wpAny_bind (wpAny_holding (dN (ho pins s σ H _ I h) λov s1 ⟨x,H1,I1,r1,q1⟩=>?_))
 refine wpAny_bind (wpAny_holding (dN (hi pins s1 σ H1 _ I1 q1) λiv s2 ⟨y,H2,I2,r2,q2⟩=>?_))
 refine wpAny_bind (wpAny_standAt (wpAny_bind (wpAny_holding (dN (hs pins s2 σ H2 x y v ov iv u _ I2 r1 r2 r q2) λ_ s3 ⟨H3,I3,q3⟩=>?_))))
 exact wpAny_release ⟨σ,H3,I3,q3⟩
def RS (te:TE) (g:TG):TS:=λD σ H=>te σ H λx H1=>g x σ H1 D.nx
theorem Kb {tg e:Expr} {te:TE} {g:TG} (he:PE X e te) (hg:PG X tg g) (hs:swapsWithSole [tg] e pos.line X.env=pure false:=by rfl) (hw:swappedStores [tg] e X.env=pure none:=by rfl)
  (h1:(assignEach [tg] X.env).map (·.2)=[assign tg X.env]:=by rfl):PS X (.Assign [tg] e pos) (RS te g):=by
 intro pins s σ H D I h
 refine wpAny_Assign_stores (dN (he pins s σ H _ I h) λv s1 ⟨x,H1,I1,r1,q1⟩=>?_) hs hw
 rw [h1]
 exact dN (hg pins s1 σ H1 x v _ I1 r1 q1) λ_ s2 q=>q
theorem aN {i:Nat} {x:Str} {e:Expr} {te:TE} {pos':Pos} (hN:X.N.Nodup) (hi:X.N[i]?=some x) (hx:Loc X.env.scope x) (he:PE X e te) (hs:swapsWith e (some (.Name x pos')) pos.line X.env=pure false:=by rfl) (hf:X.fn x=true∨X.env.scope.names.lookup x=some .local:=by first | exact .inl rfl | exact .inr rfl | assumption) :
  PS X (.Assign [.Name x pos'] e pos) (RS te (LH i)):=by
 intro pins s σ H D I h
 refine wpAny_Assign_Name (dN (he pins s σ H _ I h) λv s1 ⟨y,H1,I1,r1,q1⟩=>?_) hs
 exact Jq I1 hN hi hx r1 (λs2 I2=>⟨_,H1,I2,q1⟩) hf
end
section
variable {X:Cx} {pos:Pos}
def OJ (c:TT) (tb:TS):TS:=λD σ H=>∃ W:Nat->St->Hp->Prop,(∃ m,W m σ H)/\∀ m σ H,W m σ H ->
 c σ H λb H1=>if b=true then ∃ N:St->Hp->Prop,(∀ σ' H',N σ' H'->∃ m',m' < m/\W m' σ' H')/\tb { D with nx:=N,ct:=N,bk:=D.nx } σ H1 else D.nx σ H1
theorem Fb {c:Expr} {body:List Stmt} {tc:TT} {tb:TS} (hp:PassesOwn (model X.prog X.w) X.A X.env X.xe) (hc:PT X c tc) (hb:Mx X body tb):PS X (.While c body [] pos) (OJ tc tb):=by
 intro pins s σ H D I h
 obtain ⟨W,⟨m0,w0⟩,turn⟩:=h
 refine wpAny_While (codeAny_whileLoop (λn s'=>∃ σ' H',Inv X pins σ' H' s'/\W n σ' H') ?_ m0 ⟨σ,H,I,w0⟩)
 rintro n s1 ⟨σ1,H1,I1,w1⟩
 refine wpAny_passesOwn hp (dN (hc pins s1 σ1 H1 _ I1 (turn n σ1 H1 w1)) λb s2 ⟨H2,I2,q2⟩=>?_)
 cases b with
 | true =>
  obtain ⟨N,hN,q2⟩:=q2
  rw [if_pos rfl]
  refine wpAny_passesOwn hp (dN (hb pins s2 σ1 H2 _ I2 q2) λf s3 q3=>?_)
  cases f with
  | next =>
   obtain ⟨σ3,H3,I3,n3⟩:=q3
   obtain ⟨m',hm,w3⟩:=hN σ3 H3 n3
   exact ⟨m',hm,σ3,H3,I3,w3⟩
  | cont =>
   obtain ⟨σ3,H3,I3,n3⟩:=q3
   obtain ⟨m',hm,w3⟩:=hN σ3 H3 n3
   exact ⟨m',hm,σ3,H3,I3,w3⟩
  | brk=>exact q3
  | ret v=>exact q3
 | false =>
  rw [if_neg Vo]
  exact wpAny_execs_nil ⟨σ1,H2,I2,q2⟩
end
structure It where
 go:Nat->Hp->Prop
 Ql:Nat->Hp->V->Hp->Prop
 stop:Nat->Hp->Prop
def FQ (X:Cx) (pins:List (Addr × Obj)) (H:Hp) (b:Addr):Prop :=
 H b=none/\b≠X.env.locals/\b ∉ X.fs/\(b∈X.ex∨X.Gs.heap.objs.size<=b)/\(∀ x c,X.env.cells.lookup x=some c->c≠b)/\∀ p∈X.pn++pins,p.1≠b
theorem Inv.Oj {X:Cx} {pins:List (Addr × Obj)} {σ:St} {H H':Hp} {s:Shared} {b:Addr} (I:Inv X pins σ H s) (hb:s.heap.objs.size<=b) (hn:H' b=none):FQ X pins H' b:=by
 refine ⟨hn,Nat.ne_of_gt (VH I.lt hb),I.T9 hb,.inr (U8 I.sz hb),λx c e z=>?_,λp hp z=>?_⟩
 ·obtain ⟨v,q⟩:=I.cell x c e
  exact absurd (VH q.lt (by rw [z];exact hb)) (VT _)
 ·exact absurd (VH (Heap.lt_size (I.pin p hp).1) (by rw [z];exact hb)) (VT _)
structure Turn (P:Program) (w:World) (K:UR) (tg:Expr) (J:It) (fp:List Addr) (it:Addr) (tn:Nat->Heap->Prop):Prop where
 mem:it∈fp
 obj:∀ i h,tn i h->∀ b∈fp,∃ o,h.get? b=some o/\∀ v,o.data≠.cell v
 keep:∀ i h h',tn i h->(∀ b∈fp,∀ o,h.get? b=some o->h'.get? b=some o)->tn i h'
 item:∀ (X:Cx),X.prog=P->X.w=w->X.K=K->X.calm=true->∀ (i:Nat) (pins:List (Addr × Obj)) (s:Shared) (σ:St) (H:Hp) (E:Value->Shared->Prop),Inv X pins σ H s->(∀ b∈fp,FQ X pins H b)->tn i s.heap->J.go i H ->
  wpAny (model P w) X.A (pyNext (.ref it)) (λr s1=>∃ u,r=some u /\
   wpAny (model P w) X.A (letOwnedTupleGo tg (.ref it) u) (λ_ s2=>∃ x H',Inv X pins σ H' s2/\RelV x u/\J.Ql i H x H'/\tn (i+1) s2.heap/\∀ b∈fp,H' b=none) E s1) E s
 done:∀ (X:Cx),X.prog=P->X.w=w->X.K=K->X.calm=true->∀ (i:Nat) (pins:List (Addr × Obj)) (s:Shared) (σ:St) (H:Hp) (E:Value->Shared->Prop),Inv X pins σ H s->(∀ b∈fp,FQ X pins H b)->tn i s.heap->J.stop i H ->
  wpAny (model P w) X.A (pyNext (.ref it)) (λr s1=>r=none/\Inv X pins σ H s1) E s
 self:∀ (A:Around) (i:Nat) (s:Shared) (Q:Value->Shared->Prop) (E:Value->Shared->Prop),tn i s.heap->Q (.ref it) s->wpAny (model P w) A (pyIter (.ref it)) Q E s
abbrev TI:=St->Hp->(It->Hp->Prop)->Prop
def TH (X:Cx) (pins:List (Addr × Obj)) (σ:St) (tg:Expr) (R:It->Hp->Prop) (itv:Value) (s2:Shared):Prop :=
 ∃ (it:Addr) (fp:List Addr) (tn:Nat->Heap->Prop) (J:It) (H':Hp),itv=.ref it/\Inv X pins σ H' s2/\Turn X.prog X.w X.K tg J fp it tn/\tn 0 s2.heap/\(∀ b∈fp,FQ X pins H' b)/\R J H'
def PI (X:Cx) (tg iter:Expr) (wi:TI):Prop :=
 ∀ (pins:List (Addr × Obj)) (s:Shared) (σ:St) (H:Hp) (R:It->Hp->Prop),Inv X pins σ H s->wi σ H R ->
  wpAny (model X.prog X.w) X.A (eval iter X.env) (λv s1=>wpAny (model X.prog X.w) X.A (pyIter v) (TH X pins σ tg R) X.xe s1) X.xe s
theorem JO {M:Model} {A:Around} {E:Value->Shared->Prop} {s:Shared} {tg:Expr} {it:Addr} {u:Value} {o:Obj} {n:String} {vs:Array Value} {Q:Unit->Shared->Prop} (ho:s.heap.get? it=some o) (hc:o.cls=.type n) (hd:o.data=.fields vs)
    (hn:["enumerate","zip","dict_itemiterator","dict_reverseitemiterator","odict_iterator","itertools.zip_longest","itertools.pairwise"].contains n=false) (hQ:Q () s):wpAny M A (letOwnedTupleGo tg (.ref it) u) Q E s:=by
  unfold letOwnedTupleGo
  cases tg<;>first
    | exact wpAny_pure hQ
    | (cases u<;>first
        | exact wpAny_pure hQ
        | (refine wpAny_bind (wpAny_load ho ?_)
           rw [hc,hd]
           show wpAny M A (if (["enumerate","zip","dict_itemiterator","dict_reverseitemiterator","odict_iterator","itertools.zip_longest","itertools.pairwise"].contains n&&vs[0]? == some (rawInt _))=true then _ else _) Q E s
           rw [if_neg (by intro h;rw [hn,Wu] at h;cases h)]
           exact wpAny_pure hQ))
def QF (K:UR) (a:Addr):It :=
 ⟨λi H=>∃ xs x,bc K H a xs/\xs[i]?=some x,λi H x H'=>H'=H/\∀ xs,bc K H a xs->xs[i]?=some x,λi H=>∃ xs,bc K H a xs/\xs.length<=i⟩
def SI (K:UR) (a:Addr):It :=
 ⟨λi H=>∃ xs x,gg K H a xs/\xs[i]?=some x,λi H x H'=>H'=H/\∀ xs,gg K H a xs->xs[i]?=some x,λi H=>∃ xs,gg K H a xs/\xs.length<=i⟩
def Sd (lo:Int) (n:Nat):It:=⟨λi _=>i < n,λi H x H'=>H'=H/\x=.int (lo+i),λi _=>n<=i⟩
theorem My {P:Program} {w:World} {K:UR} {tg:Expr} (a it:Addr):Turn P w K tg (QF K a) [it] it (λi h=>h.IsListIter it a i) where
 mem:=by simp
 obj:=λi h st b hb=>by
  have e:b=it:=by simpa using hb
  subst e
  obtain ⟨o,e,c,d⟩:=st
  exact ⟨o,e,λv z=>by rw [d] at z;cases z⟩
 keep:=λi h h' st k=>st.at λo e=>k it (by simp) o e
 item:=by
  intro X hP hw hK hc i pins s σ H E I hf st hg
  subst hP hw hK
  obtain ⟨xs,x,hq,hx⟩:=hg
  obtain ⟨its,rv,p,hz⟩:=I.list hq
  obtain ⟨u,hu,ru⟩:=rv.get hx
  obtain ⟨f0,f1,f2,f3,f4,f5⟩:=hf it (by simp)
  refine wpAny_pyNext_list_item st p.isList (x:=u) (by simpa using hu) λh' st' sb=>?_
  have I1:Inv X pins σ H { s with heap:=h' }:=I.turned (t':=s.toks) (λb o hb e=>(sb.2 b hb).trans e) f0 f1 f3 f4 f5
  obtain ⟨o,e,c,d⟩:=id st'
  exact ⟨u,rfl,JO (s:={ s with heap:=h' }) e c d (by decide) ⟨x,H,I1,ru,⟨rfl,λys hy=>by rw [I.NX hy hq];exact hx⟩,st',λb hb=>(hf b hb).1⟩⟩
 done:=by
  intro X hP hw hK hc i pins s σ H E I hf st hg
  subst hP hw hK
  obtain ⟨xs,hq,hx⟩:=hg
  obtain ⟨its,rv,p,hz⟩:=I.list hq
  obtain ⟨f0,f1,f2,f3,f4,f5⟩:=hf it (by simp)
  have hl:=rv.length
  exact wpAny_pyNext_list_end (I.ok.hd hc) st p.isList (by simp;lia) λh' eb=>⟨rfl,I.turned (t':=s.toks) (λb o hb e=>eb b o hb e) f0 f1 f3 f4 f5⟩
 self:=λ_ _ _ _ _ st h=>wpAny_pyIter_listiter st h
theorem Kt {P:Program} {w:World} {K:UR} {tg:Expr} (a it:Addr):Turn P w K tg (SI K a) [it] it (λi h=>h.IsTupleIter it a i) where
 mem:=by simp
 obj:=λi h st b hb=>by
  have e:b=it:=by simpa using hb
  subst e
  obtain ⟨o,e,c,d⟩:=st
  exact ⟨o,e,λv z=>by rw [d] at z;cases z⟩
 keep:=λi h h' st k=>st.at λo e=>k it (by simp) o e
 item:=by
  intro X hP hw hK hc i pins s σ H E I hf st hg
  subst hP hw hK
  obtain ⟨xs,x,hq,hx⟩:=hg
  obtain ⟨its,rv,p,hz⟩:=I.tuple hq
  obtain ⟨u,hu,ru⟩:=rv.get hx
  obtain ⟨f0,f1,f2,f3,f4,f5⟩:=hf it (by simp)
  refine wpAny_pyNext_tuple_item st (show s.heap.IsTuple a its.toArray from p) (x:=u) (by simpa using hu) λh' st' sb=>?_
  have I1:Inv X pins σ H { s with heap:=h' }:=I.turned (t':=s.toks) (λb o hb e=>(sb.2 b hb).trans e) f0 f1 f3 f4 f5
  obtain ⟨o,e,c,d⟩:=id st'
  exact ⟨u,rfl,JO (s:={ s with heap:=h' }) e c d (by decide) ⟨x,H,I1,ru,⟨rfl,λys hy=>by rw [I.MK hy hq];exact hx⟩,st',λb hb=>(hf b hb).1⟩⟩
 done:=by
  intro X hP hw hK hc i pins s σ H E I hf st hg
  subst hP hw hK
  obtain ⟨xs,hq,hx⟩:=hg
  obtain ⟨its,rv,p,hz⟩:=I.tuple hq
  obtain ⟨f0,f1,f2,f3,f4,f5⟩:=hf it (by simp)
  have hl:=rv.length
  exact wpAny_pyNext_tuple_end (I.ok.hd hc) st (show s.heap.IsTuple a its.toArray from p) (by simp;lia) λh' eb=>⟨rfl,I.turned (t':=s.toks) (λb o hb e=>eb b o hb e) f0 f1 f3 f4 f5⟩
 self:=λ_ _ _ _ _ st h=>wpAny_pyIter_tupleiter st h
theorem Kd {P:Program} {w:World} {K:UR} {tg:Expr} (it:Addr) (lo:Int) (n:Nat):Turn P w K tg (Sd lo n) [it] it (λi h=>IsRangeIter h it (lo+(i:Nat) * 1) ((n:Int) - (i:Nat)) 1) where
 mem:=by simp
 obj:=λi h st b hb=>by
  have e:b=it:=by simpa using hb
  subst e
  exact ⟨_,st,λv z=>by
   have z':Data.fields _=Data.cell v:=z
   cases z'⟩
 keep:=λi h h' st k=>k it (by simp) _ st
 item:=by
  intro X hP hw hK hc i pins s σ H E I hf st hg
  subst hP hw hK
  obtain ⟨f0,f1,f2,f3,f4,f5⟩:=hf it (by simp)
  have W:=Walks.range (prog:=X.prog) (w:=X.w) (I.ok.hd hc) it lo 1 n
  refine W.item i s _ _ hg st λv h' tk hv st' kk=>?_
  obtain ⟨t,rfl⟩:=hv
  have I1:Inv X pins σ H { s with heap:=h',toks:=tk }:=I.turned (λb o hb e=>kk b o (by simpa using hb) e) f0 f1 f3 f4 f5
  refine ⟨_,rfl,JO (s:={ s with heap:=h',toks:=tk }) (n:="range_iterator") st' rfl rfl (by decide) ⟨.int (lo+i),H,I1,⟨t,?_⟩,⟨rfl,rfl⟩,st',λb hb=>(hf b hb).1⟩⟩
  rw [Int.mul_one]
 done:=by
  intro X hP hw hK hc i pins s σ H E I hf st hg
  subst hP hw hK
  obtain ⟨f0,f1,f2,f3,f4,f5⟩:=hf it (by simp)
  exact wpAny_pyNext_range_end (I.ok.hd hc) st (by have:n<=i:=hg;lia) λh' eb=>⟨rfl,I.turned (t':=s.toks) (λb o hb e=>eb b o hb e) f0 f1 f3 f4 f5⟩
 self:=λ_ _ _ _ _ st h=>wpAny_pyIter_rangeiter st h
end L2
namespace L2
open PySem PySem.Spec PyProof.Rows
section
variable {X:Cx} {tg:Expr}
def Qx (K:UR) (tl:TE):TI:=λσ H R=>tl σ H λx H1=>∃ a,x=.ref a/\(∃ xs,bc K H1 a xs)/\R (QF K a) H1
def S9 (K:UR) (tl:TE):TI:=λσ H R=>tl σ H λx H1=>∃ a,x=.ref a/\(∃ xs,gg K H1 a xs)/\R (SI K a) H1
theorem Pw {l:Expr} {tl:TE} (hl:PE X l tl):PI X tg l (Qx X.K tl):=by
 intro pins s σ H R I h
 refine dN (hl pins s σ H _ I h) λv s1 ⟨x,H1,I1,r1,q1⟩=>?_
 obtain ⟨a,e,⟨xs,hq⟩,q⟩:=q1
 subst e
 cases r1
 obtain ⟨its,rv,p,hz⟩:=I1.list hq
 refine wpAny_pyIter_list p.isList ?_
 refine ⟨s1.heap.objs.size,[s1.heap.objs.size],_,_,H1,rfl,I1.kept (t':=s1.toks) λb o e=>Heap.get?_push_of_some _ e,My a _,⟨_,Heap.get?_push_size _ rfl,rfl,rfl⟩,λb hb=>?_,q⟩
 have e:b=s1.heap.objs.size:=by simpa using hb
 subst e
 exact I1.Oj (U1 _) (I1.dv.fresh (U1 _))
theorem QL {l:Expr} {tl:TE} (hl:PE X l tl):PI X tg l (S9 X.K tl):=by
 intro pins s σ H R I h
 refine dN (hl pins s σ H _ I h) λv s1 ⟨x,H1,I1,r1,q1⟩=>?_
 obtain ⟨a,e,⟨xs,hq⟩,q⟩:=q1
 subst e
 cases r1
 obtain ⟨its,rv,p,hz⟩:=I1.tuple hq
 refine wpAny_pyIter_tuple (show s1.heap.IsTuple a its.toArray from p) ?_
 refine ⟨s1.heap.objs.size,[s1.heap.objs.size],_,_,H1,rfl,I1.kept (t':=s1.toks) λb o e=>Heap.get?_push_of_some _ e,Kt a _,⟨_,Heap.get?_push_size _ rfl,rfl,rfl⟩,λb hb=>?_,q⟩
 have e:b=s1.heap.objs.size:=by simpa using hb
 subst e
 exact I1.Oj (U1 _) (I1.dv.fresh (U1 _))
theorem ND {pins:List (Addr × Obj)} {σ:St} {H:Hp} {s:Shared} {R:It->Hp->Prop} {E:Value->Shared->Prop} {lo hi:Int} {t u v:Tok} {tk:Nat} (I:Inv X pins σ H s) (h1:-(2 ^ 62)<=lo) (h2:lo < 2 ^ 62) (h3:-(2 ^ 62)<=hi) (h4:hi < 2 ^ 62)
  (q:R (Sd lo (hi - lo).toNat) H):wpAny (model X.prog X.w) X.A (pyIter (.ref s.heap.objs.size)) (TH X pins σ tg R) E { s with heap:=s.heap.push { cls:=.type "range",data:=.fields #[.int lo t,.int hi u,.int 1 v] },toks:=tk }:=by
 refine wpAny_pyIter_range (IsRange.new ..) (small_one h1 h2 h3 h4) ?_
 have I1:Inv X pins σ H { s with heap:=s.heap.push { cls:=.type "range",data:=.fields #[.int lo t,.int hi u,.int 1 v] },toks:=tk }:=I.kept λb o e=>Heap.get?_push_of_some _ e
 refine ⟨(s.heap.push { cls:=.type "range",data:=.fields #[.int lo t,.int hi u,.int 1 v] }).objs.size,[(s.heap.push { cls:=.type "range",data:=.fields #[.int lo t,.int hi u,.int 1 v] }).objs.size],_,_,H,rfl,
  I1.kept (t':=tk) λb o e=>Heap.get?_push_of_some _ e,Kd _ lo (hi - lo).toNat,?_,λb hb=>?_,q⟩
 ·have e1:lo+((0:Nat):Int) * 1=lo:=by simp
  have e2:(((hi - lo).toNat:Nat):Int) - ((0:Nat):Int)=Builtin.Range.rangeSize lo hi 1:=by rw [rangeSize_one];split<;>lia
  show IsRangeIter _ _ (lo+((0:Nat):Int) * 1) ((((hi - lo).toNat:Nat):Int) - ((0:Nat):Int)) 1
  rw [e1,e2]
  exact Heap.get?_push_size _ rfl
 ·have e:b=(s.heap.push { cls:=.type "range",data:=.fields #[.int lo t,.int hi u,.int 1 v] }).objs.size:=by simpa using hb
  subst e
  exact I1.Oj (U1 _) (I1.dv.fresh (U1 _))
def SN (ta:TA):TI:=λσ H R=>ta σ H λvs H1=>∃ j:Int,vs=[.int j]/\-(2 ^ 62)<=j/\j < 2 ^ 62/\R (Sd 0 j.toNat) H1
theorem Gz {a:Expr} {ta:TA} {p pos:Pos} (hg:Gl X "range") (hm:X.mg "range"=none) (ha:PA X [a] ta) (hs:starEach [a] X.env=[(false,eval a X.env)]:=by rfl):PI X tg (.Call (.Name "range" p) [a] [] pos) (SN ta):=by
 intro pins s σ H R I h
 refine Call_ (Hh I hg hm boot_range (PyProof.Rows.callWith_type1 (dN (ha pos pins s σ H _ I h) λus s1 ⟨vs,H1,I1,r1,q1⟩=>?_) hs rfl))
 obtain ⟨j,e,q1,q2,q⟩:=q1
 subst e
 cases r1 with
 | cons r rr =>
  cases rr
  obtain ⟨t,rfl⟩:=r
  exact call_range_1 (ND I1 (by exact V7 _) (by exact V7 _) q1 q2 (by simpa using q))
def Uj (wi:TI) (g:TG) (tb:TS):TS:=λD σ H=>wi σ H λJ H1=>∃ W:Nat->Nat->St->Hp->Prop,(∃ m,W 0 m σ H1)/\∀ i m σ H,W i m σ H ->
 (J.stop i H/\D.nx σ H)∨(J.go i H/\∃ N:St->Hp->Prop,(∀ σ' H',N σ' H'->∃ m',m' < m/\W (i+1) m' σ' H')/\∀ x H',J.Ql i H x H'->g x σ H' λσ2 H2=>tb { D with nx:=N,ct:=N,bk:=D.nx } σ2 H2)
def Fp (fp:List Addr) (h:Heap):List (Addr × Obj):=fp.filterMap λb=>(h.get? b).map λo=>(b,o)
theorem zT {fp:List Addr} {h:Heap} {b:Addr} {o:Obj} (hb:b∈fp) (e:h.get? b=some o):(b,o)∈Fp fp h:=List.mem_filterMap.mpr ⟨b,hb,by rw [e];rfl⟩
theorem Nm {fp:List Addr} {h:Heap} {p:Addr × Obj} (hp:p∈Fp fp h):p.1∈fp/\h.get? p.1=some p.2:=by
 obtain ⟨b,hb,e⟩:=List.mem_filterMap.mp hp
 cases q:h.get? b with
 | none=>rw [q] at e;cases e
 | some o =>
  rw [q] at e
  have e':(b,o)=p:=Option.some.inj e
  subst e'
  exact ⟨hb,q⟩
theorem Inv.pinned {pins:List (Addr × Obj)} {σ:St} {H:Hp} {s:Shared} {fp:List Addr} (I:Inv X pins σ H s) (hf:∀ b∈fp,FQ X pins H b) (ho:∀ b∈fp,∃ o,s.heap.get? b=some o/\∀ v,o.data≠.cell v):Inv X (pins++Fp fp s.heap) σ H s :=
 I.LW λp hp=>(Wi.mp hp).elim (λz=>I.pin p (Wv _ z)) λz=>by
  obtain ⟨hb,e⟩:=Nm z
  obtain ⟨f0,f1,f2,_⟩:=hf p.1 hb
  obtain ⟨o,e',d⟩:=ho p.1 hb
  rw [e] at e';cases e'
  exact ⟨e,f0,f1,f2,d⟩
theorem Inv.AU {pins pl:List (Addr × Obj)} {σ:St} {H:Hp} {s:Shared} (I:Inv X (pins++pl) σ H s):Inv X pins σ H s:=I.LW λp hp=>I.pin p (Wv _ (List.mem_append_left _ hp))
theorem Kw {iter:Expr} {body:List Stmt} {wi:TI} {g:TG} {tb:TS} {pos:Pos} (hp:PassesOwn (model X.prog X.w) X.A X.env X.xe) (hc:X.calm=true) (hi:PI X tg iter wi) (hg:PG X tg g) (hb:Mx X body tb)
  (hs:∀ x,foldedSetIterable iter X.env x=pure x:=by intro _;rfl):PS X (.For tg iter body [] pos) (Uj wi g tb):=by
 intro pins s σ H D I h
 refine wpAny_For (dN (hi pins s σ H _ I h) λv s1 h1=>dN h1 λitv s2 h2=>?_) hs
 obtain ⟨it,fp,tn,J,H2,e,I2,T,st2,f2,W,⟨m0,w0⟩,turn⟩:=h2
 subst e
 have stat:∀ {H':Hp},(∀ b∈fp,H' b=none)->∀ b∈fp,FQ X pins H' b:=λhn b hb=>⟨hn b hb,(f2 b hb).2⟩
 refine codeAny_forLoop_any (λn s'=>∃ i σ' H',Inv X pins σ' H' s'/\tn i s'.heap/\(∀ b∈fp,H' b=none)/\W i n σ' H') ?_ m0 ⟨0,σ,H2,I2,st2,λb hb=>(f2 b hb).1,w0⟩
 rintro n s3 ⟨i,σ3,H3,I3,st3,fr3,w3⟩
 rcases turn i n σ3 H3 w3 with ⟨stop,qn⟩ | ⟨go,N,hN,step⟩
 ·refine wpAny_passesOwn hp (dN (T.done X rfl rfl rfl hc i pins s3 σ3 H3 X.xe I3 (stat fr3) st3 stop) λr s4 ⟨hr,I4⟩=>?_)
  subst hr
  exact wpAny_execs_nil ⟨σ3,H3,I4,qn⟩
 ·refine wpAny_passesOwn hp (dN (T.item X rfl rfl rfl hc i pins s3 σ3 H3 X.xe I3 (stat fr3) st3 go) λr s4 ⟨u,hr,h4⟩=>?_)
  subst hr
  refine wpAny_passesOwn hp (dN h4 λ_ s5 ⟨x,H5,I5,r5,y5,st5,fr5⟩=>?_)
  have I5':=I5.pinned (stat fr5) (T.obj _ _ st5)
  refine wpAny_passesOwn hp (dN (hg _ s5 σ3 H5 x u _ I5' r5 (step x H5 y5)) λ_ s6 ⟨σ6,H6,I6,q6⟩=>?_)
  refine wpAny_passesOwn hp (dN (hb _ s6 σ6 H6 _ I6 q6) λf s7 q7=>?_)
  have again:∀ {σ7:St} {H7:Hp},Inv X (pins++Fp fp s5.heap) σ7 H7 s7->N σ7 H7->∃ m,m < n/\∃ i σ' H',Inv X pins σ' H' s7/\tn i s7.heap/\(∀ b∈fp,H' b=none)/\W i m σ' H':=λ{σ7 H7} I7 n7=>by
   obtain ⟨m',hm,w7⟩:=hN σ7 H7 n7
   refine ⟨m',hm,i+1,σ7,H7,I7.AU,T.keep _ _ _ st5 λb hb o e=>(I7.pin (b,o) (Wv _ (Wv _ (zT hb e)))).1,λb hb=>?_,w7⟩
   obtain ⟨o,e,d⟩:=T.obj _ _ st5 b hb
   exact (I7.pin (b,o) (Wv _ (Wv _ (zT hb e)))).2.1
  cases f with
  | next=>obtain ⟨σ7,H7,I7,n7⟩:=q7;exact again I7 n7
  | cont=>obtain ⟨σ7,H7,I7,n7⟩:=q7;exact again I7 n7
  | brk=>obtain ⟨σ7,H7,I7,q7⟩:=q7;exact ⟨σ7,H7,I7.AU,q7⟩
  | ret v=>obtain ⟨x7,σ7,H7,I7,r7,q7⟩:=q7;exact ⟨x7,σ7,H7,I7.AU,r7,q7⟩
end
theorem Fi {K:UR} {a:Addr} {xs:List V} {g:TG} {tb:TS} {D:Ends} {σ:St} {H:Hp} (Pv:Nat->St->Hp->Prop) (h0:Pv 0 σ H) (hl:∀ i σ H,i<=xs.length->Pv i σ H->bc K H a xs)
  (hs:∀ i x σ H,xs[i]?=some x->Pv i σ H->g x σ H λσ2 H2=>tb { D with nx:=Pv (i+1),ct:=Pv (i+1),bk:=D.nx } σ2 H2) (hd:∀ σ H,Pv xs.length σ H->D.nx σ H) :
  ∃ W:Nat->Nat->St->Hp->Prop,(∃ m,W 0 m σ H)/\∀ i m σ H,W i m σ H ->
   ((QF K a).stop i H/\D.nx σ H)∨((QF K a).go i H/\∃ N:St->Hp->Prop,(∀ σ' H',N σ' H'->∃ m',m' < m/\W (i+1) m' σ' H')/\∀ x H',(QF K a).Ql i H x H'->g x σ H' λσ2 H2=>tb { D with nx:=N,ct:=N,bk:=D.nx } σ2 H2):=by
 refine ⟨λi m σ H=>m=xs.length - i/\i<=xs.length/\Pv i σ H,⟨xs.length,by simp,Vt _,h0⟩,?_⟩
 rintro i m σ H ⟨rfl,hi,p⟩
 have q:=hl i σ H hi p
 by_cases hlt:i < xs.length
 ·refine .inr ⟨⟨xs,xs[i],q,by simp [hlt]⟩,Pv (i+1),λσ' H' p'=>⟨xs.length - (i+1),by lia,rfl,hlt,p'⟩,λx H' y=>?_⟩
  obtain ⟨e,y⟩:=y
  subst e
  exact hs i x σ _ (y xs q) p
 ·have e:i=xs.length:=by lia
  subst e
  exact .inl ⟨⟨xs,q,U1 _⟩,hd σ H p⟩
theorem JU {c:TT} {tb:TS} {D:Ends} {σ:St} {H:Hp} (Pv:St->Hp->Prop) (μ:St->Hp->Nat) (h0:Pv σ H)
  (hs:∀ σ H,Pv σ H->c σ H λb H1=>if b=true then tb { D with nx:=λσ' H'=>Pv σ' H'/\μ σ' H' < μ σ H,ct:=λσ' H'=>Pv σ' H'/\μ σ' H' < μ σ H,bk:=D.nx } σ H1 else D.nx σ H1)
  (mono:∀ σ H Q Q',(∀ b H1,Q b H1->Q' b H1)->c σ H Q->c σ H Q'):OJ c tb D σ H:=by
 refine ⟨λm σ H=>m=μ σ H/\Pv σ H,⟨_,rfl,h0⟩,?_⟩
 rintro m σ H ⟨rfl,p⟩
 refine mono σ H _ _ (λb H1 q=>?_) (hs σ H p)
 cases b with
 | true=>exact ⟨_,λσ' H' ⟨p',l⟩=>⟨_,l,rfl,p'⟩,q⟩
 | false=>exact q
end L2
namespace L2
open PySem PySem.Spec PyProof.Rows
abbrev R2:=V->V->Hp->VK->Prop
def zA (X:Cx) (f:Value->Value->Sem Value) (r:R2):Prop :=
 ∀ (pins:List (Addr × Obj)) (s:Shared) (σ:St) (H:Hp) (x y:V) (v u:Value) (Q:VK),Inv X pins σ H s->RelV x v->RelV y u->r x y H Q ->
  wpAny (model X.prog X.w) X.A (f v u) (EP X pins σ Q) X.xe s
def Uo (X:Cx) (f:Value->Sem Value) (r:V->Hp->VK->Prop):Prop :=
 ∀ (pins:List (Addr × Obj)) (s:Shared) (σ:St) (H:Hp) (x:V) (v:Value) (Q:VK),Inv X pins σ H s->RelV x v->r x H Q ->
  wpAny (model X.prog X.w) X.A (f v) (EP X pins σ Q) X.xe s
def m6 (X:Cx) (f:Value) (r:List V->Hp->VK->Prop):Prop :=
 ∀ (pins:List (Addr × Obj)) (s:Shared) (σ:St) (H:Hp) (xs:List V) (us:List Value) (Q:VK),Inv X pins σ H s->Vals xs us->r xs H Q ->
  wpAny (model X.prog X.w) X.A (call f us) (EP X pins σ Q) X.xe s
def Uk (X:Cx) (r:V->Hp->(Bool->Hp->Prop)->Prop):Prop :=
 ∀ (pins:List (Addr × Obj)) (s:Shared) (σ:St) (H:Hp) (x:V) (v:Value) (Q:Bool->Hp->Prop),Inv X pins σ H s->RelV x v->r x H Q ->
  wpAny (model X.prog X.w) X.A (truthy v) (TP X pins σ Q) X.xe s
def TF (r:R2) (ta tb:TE):TE:=λσ H Q=>ta σ H λx H1=>tb σ H1 λy H2=>r x y H2 Q
def UH (r:V->Hp->VK->Prop) (ta:TE):TE:=λσ H Q=>ta σ H λx H1=>r x H1 Q
def rI (C:Int->Int->Prop) (g:Int->Int->V):R2:=λx y H Q=>∃ i j,x=.int i/\y=.int j/\C i j/\Q (g i j) H
def OR (g:Int->Int->V):R2:=λx y H Q=>∃ i j,x=.int i/\y=.int j/\Q (g i j) H
def rU (g:Int->V):V->Hp->VK->Prop:=λx H Q=>∃ i,x=.int i/\Q (g i) H
section
variable {X:Cx} {a b c:Expr} {ta tb tc:TE} {pos:Pos}
theorem Q7 (ha:PE X a ta) (hb:PE X b tb) {pins:List (Addr × Obj)} {s:Shared} {σ:St} {H:Hp} {R:V->V->Hp->Prop} (I:Inv X pins σ H s)
  (h:ta σ H λx H1=>tb σ H1 λy H2=>R x y H2) {Q:Value->Shared->Prop} {f:Value->Value->Sem Value}
  (hf:∀ v u s2 x y H2,Inv X pins σ H2 s2->RelV x v->RelV y u->R x y H2->wpAny (model X.prog X.w) X.A (f v u) Q X.xe s2) :
  wpAny (model X.prog X.w) X.A (eval a X.env) (λv s₁=>wpAny (model X.prog X.w) X.A (eval b X.env) (λu s₂=>wpAny (model X.prog X.w) X.A (f v u) Q X.xe s₂) X.xe s₁) X.xe s:=by
 refine dN (ha pins s σ H _ I h) λv s1 ⟨x,H1,I1,r1,q1⟩=>?_
 refine dN (hb pins s1 σ H1 _ I1 q1) λu s2 ⟨y,H2,I2,r2,q2⟩=>?_
 exact hf v u s2 x y H2 I2 r1 r2 q2
theorem b5 {op:Operator} {r:R2} (ho:zA X (binaryOp op) r) (ha:PE X a ta) (hb:PE X b tb):PE X (.BinOp a op b pos) (TF r ta tb):=by
 intro pins s σ H Q I h
 exact wpAny_BinOp (Q7 ha hb I h λv u s2 x y H2 I2 rx ry q=>ho pins s2 σ H2 x y v u Q I2 rx ry q)
theorem QB {op:UnaryOp} {r:V->Hp->VK->Prop} (ho:Uo X (unaryOp op) r) (ha:PE X a ta):PE X (.UnaryOp op a pos) (UH r ta):=by
 intro pins s σ H Q I h
 exact UnaryOp_ (dN (ha pins s σ H _ I h) λv s1 ⟨x,H1,I1,r1,q1⟩=>ho pins s1 σ H1 x v Q I1 r1 q1)
theorem T2 {f:Value->Value->Sem Value} {C:Int->Int->Prop} {g:Int->Int->Int}
  (rule:∀ (i j:Int) (t u:Tok) (s:Shared) (Q:Value->Shared->Prop) (E:Value->Shared->Prop),C i j->Q (.int (g i j) s.toks) { s with toks:=s.toks+1 }->wpAny (model X.prog X.w) X.A (f (.int i t) (.int j u)) Q E s) :
  zA X f (rI C λi j=>.int (g i j)):=by
 intro pins s σ H x y v u Q I rx ry h
 obtain ⟨i,j,rfl,rfl,hc,q⟩:=h
 obtain ⟨t,rfl⟩:=rx
 obtain ⟨t',rfl⟩:=ry
 exact rule i j t t' s _ _ hc ⟨.int (g i j),H,I.tok _,⟨_,rfl⟩,q⟩
theorem Tt {f:Value->Value->Sem Value} {g:Int->Int->Int}
  (rule:∀ (i j:Int) (t u:Tok) (s:Shared) (Q:Value->Shared->Prop) (E:Value->Shared->Prop),Q (.int (g i j) s.toks) { s with toks:=s.toks+1 }->wpAny (model X.prog X.w) X.A (f (.int i t) (.int j u)) Q E s) :
  zA X f (OR λi j=>.int (g i j)):=by
 intro pins s σ H x y v u Q I rx ry h
 obtain ⟨i,j,rfl,rfl,q⟩:=h
 obtain ⟨t,rfl⟩:=rx
 obtain ⟨t',rfl⟩:=ry
 exact rule i j t t' s _ _ ⟨.int (g i j),H,I.tok _,⟨_,rfl⟩,q⟩
theorem RC {f:Value->Value->Sem Value} {g:Int->Int->Bool}
  (rule:∀ (i j:Int) (t u:Tok) (s:Shared) (Q:Value->Shared->Prop) (E:Value->Shared->Prop),Q (.bool (g i j)) s->wpAny (model X.prog X.w) X.A (f (.int i t) (.int j u)) Q E s) :
  zA X f (OR λi j=>.bl (g i j)):=by
 intro pins s σ H x y v u Q I rx ry h
 obtain ⟨i,j,rfl,rfl,q⟩:=h
 obtain ⟨t,rfl⟩:=rx
 obtain ⟨t',rfl⟩:=ry
 exact rule i j t t' s _ _ ⟨.bl (g i j),H,I,rfl,q⟩
def Um (i j:Int):Prop:=0 < j/\j < 1073741824
def QI (i j:Int):Prop:=(-(2 ^ 64) < i/\i < 2 ^ 64)∨(-(2 ^ 64) < j/\j < 2 ^ 64)
theorem QI.ok {i j:Int} (h:QI i j):IntMulOk i j:=by
 rcases h with ⟨h1,h2⟩ | ⟨h1,h2⟩
 ·exact .of_left (intBits_le_64 h1 h2)
 ·exact .of_right (intBits_le_64 h1 h2)
theorem zZ:zA X (binaryOp .Add) (OR λi j=>.int (i+j)):=Tt λ_ _ _ _ _ _ _ q=>add_int q
theorem HJ:zA X (binaryOp .Sub) (OR λi j=>.int (i - j)):=Tt λ_ _ _ _ _ _ _ q=>sub_int q
theorem RY:zA X (binaryOp .Mult) (rI QI λi j=>.int (i * j)):=T2 λ_ _ _ _ _ _ _ hc q=>mul_int q hc.ok
theorem Bk:zA X (binaryOp .FloorDiv) (rI Um λi j=>.int (i / j)):=T2 λi j _ _ _ _ _ hc q=>by
 have h1:(0:Int) < j:=hc.1
 have h2:j < 1073741824:=hc.2
 exact floordiv_int (by lia) (by rw [Int.fdiv_eq_ediv_of_nonneg i (by lia)];exact q) (.inl (PyProof.noPylong_small (by lia)))
theorem tF:zA X (binaryOp .Mod) (rI (λ_ j=>0 < j) λi j=>.int (i % j)):=T2 λi j _ _ _ _ _ hc q=>by
 have h1:(0:Int) < j:=hc
 exact mod_int' (by lia) (by rw [Int.fmod_eq_emod_of_nonneg i (by lia)];exact q)
theorem UG {f:Value->Sem Value} {g:Int->Int}
  (rule:∀ (i:Int) (t:Tok) (s:Shared) (Q:Value->Shared->Prop) (E:Value->Shared->Prop),Q (.int (g i) s.toks) { s with toks:=s.toks+1 }->wpAny (model X.prog X.w) X.A (f (.int i t)) Q E s) :
  Uo X f (rU λi=>.int (g i)):=by
 intro pins s σ H x v Q I rx h
 obtain ⟨i,rfl,q⟩:=h
 obtain ⟨t,rfl⟩:=rx
 exact rule i t s _ _ ⟨.int (g i),H,I.tok _,⟨_,rfl⟩,q⟩
theorem NM:Uo X (unaryOp .USub) (rU λi=>.int (-i)):=UG λ_ _ _ _ _ q=>neg_int q
end
noncomputable def So:V->V->Bool
 | .dF,.dF=>true | .dF,.int _=>true | .int _,.dF=>true | .dF,.bl _=>true | .bl _,.dF=>true | .dF,.str _=>true | .str _,.dF=>true
 | .int _,.int _=>true | .bl _,.bl _=>true | .str _,.str _=>true | .IH _,.IH _=>true
 | .int _,.str _=>true | .str _,.int _=>true | .bl _,.str _=>true | .str _,.bl _=>true
 | _,_=>false
def UC:R2:=λx y H Q=>So x y=true/\Q (.bl (decide (x=y))) H
def UE:R2:=λx y H Q=>So x y=true/\Q (.bl (!decide (x=y))) H
theorem Li {i j:Int}:decide (V.int i=V.int j)=(i == j):=by
 rw [Bool.eq_iff_iff]
 simp
theorem Om {i j:Bool}:decide (V.bl i=V.bl j)=(i == j):=by
 rw [Bool.eq_iff_iff]
 simp
theorem LP {i j:Str}:decide (V.str i=V.str j)=(i == j):=by
 rw [Bool.eq_iff_iff]
 simp
theorem Le {i j:Array UInt8}:decide (V.IH i=V.IH j)=(i.toList == j.toList):=by
 rw [Bool.eq_iff_iff]
 cases i
 cases j
 simp
section
variable {X:Cx} {a b c:Expr} {ta tb tc:TE} {pos:Pos}
theorem ck {pins:List (Addr × Obj)} {σ:St} {H:Hp} {s:Shared} {Q:VK} {k k':Bool} (I:Inv X pins σ H s) (q:Q (.bl k) H) (e:k=k'):EP X pins σ Q (.bool k') s:=by
 subst e
 exact ⟨.bl k,H,I,rfl,q⟩
theorem ua:zA X (compareOp .Eq) UC:=by
 intro pins s σ H x y v u Q I rx ry h
 obtain ⟨hs,q⟩:=h
 cases x with
 | dF =>
  cases rx
  cases y with
  | dF=>cases ry;exact PySem.EqNone.eq_none_none (ck I q (by simp))
  | bl j=>cases ry;exact PySem.EqNone.eq_none_bool (ck I q (by simp))
  | int j=>obtain ⟨t',rfl⟩:=ry;exact PySem.EqNone.eq_none_int (ck I q (by simp))
  | str j=>obtain ⟨t',rfl⟩:=ry;exact PySem.EqNone.eq_none_str (ck I q (by simp))
  | _=>exact absurd (show false=true from hs) Vo
 | bl i =>
  cases rx
  cases y with
  | dF=>cases ry;exact PySem.EqNone.eq_bool_none (ck I q (by simp))
  | bl j=>cases ry;exact eq_bool (ck I q Om)
  | str j=>obtain ⟨t',rfl⟩:=ry;exact PySem.EqMixed.eq_bool_str (ck I q (by simp))
  | _=>exact absurd (show false=true from hs) Vo
 | int i =>
  obtain ⟨t,rfl⟩:=rx
  cases y with
  | dF=>cases ry;exact PySem.EqNone.eq_int_none (ck I q (by simp))
  | int j=>obtain ⟨t',rfl⟩:=ry;exact eq_int (ck I q Li)
  | str j=>obtain ⟨t',rfl⟩:=ry;exact PySem.EqMixed.eq_int_str (ck I q (by simp))
  | _=>exact absurd (show false=true from hs) Vo
 | str i =>
  obtain ⟨t,rfl⟩:=rx
  cases y with
  | dF=>cases ry;exact PySem.EqNone.eq_str_none (ck I q (by simp))
  | bl j=>cases ry;exact PySem.EqMixed.eq_str_bool (ck I q (by simp))
  | int j=>obtain ⟨t',rfl⟩:=ry;exact PySem.EqMixed.eq_str_int (ck I q (by simp))
  | str j=>obtain ⟨t',rfl⟩:=ry;exact eq_str (ck I q LP)
  | _=>exact absurd (show false=true from hs) Vo
 | IH i =>
  obtain ⟨t,rfl⟩:=rx
  cases y with
  | IH j=>obtain ⟨t',rfl⟩:=ry;exact PySem.W.eq_bytes (ck I q Le)
  | _=>exact absurd (show false=true from hs) Vo
 | _=>cases y<;>exact absurd (show false=true from hs) Vo
theorem Fy:zA X (compareOp .NotEq) UE:=by
 intro pins s σ H x y v u Q I rx ry h
 obtain ⟨hs,q⟩:=h
 cases x with
 | dF =>
  cases rx
  cases y with
  | dF=>cases ry;exact PySem.EqNone.ne_none_none (ck I q (by simp))
  | bl j=>cases ry;exact PySem.EqNone.ne_none_bool (ck I q (by simp))
  | int j=>obtain ⟨t',rfl⟩:=ry;exact PySem.EqNone.ne_none_int (ck I q (by simp))
  | str j=>obtain ⟨t',rfl⟩:=ry;exact PySem.EqNone.ne_none_str (ck I q (by simp))
  | _=>exact absurd (show false=true from hs) Vo
 | bl i =>
  cases rx
  cases y with
  | dF=>cases ry;exact PySem.EqNone.ne_bool_none (ck I q (by simp))
  | bl j=>cases ry;exact ne_bool (ck I q (congrArg not Om))
  | str j=>obtain ⟨t',rfl⟩:=ry;exact PySem.EqMixed.ne_bool_str (ck I q (by simp))
  | _=>exact absurd (show false=true from hs) Vo
 | int i =>
  obtain ⟨t,rfl⟩:=rx
  cases y with
  | dF=>cases ry;exact PySem.EqNone.ne_int_none (ck I q (by simp))
  | int j=>obtain ⟨t',rfl⟩:=ry;exact ne_int (ck I q (congrArg not Li))
  | str j=>obtain ⟨t',rfl⟩:=ry;exact PySem.EqMixed.ne_int_str (ck I q (by simp))
  | _=>exact absurd (show false=true from hs) Vo
 | str i =>
  obtain ⟨t,rfl⟩:=rx
  cases y with
  | dF=>cases ry;exact PySem.EqNone.ne_str_none (ck I q (by simp))
  | bl j=>cases ry;exact PySem.EqMixed.ne_str_bool (ck I q (by simp))
  | int j=>obtain ⟨t',rfl⟩:=ry;exact PySem.EqMixed.ne_str_int (ck I q (by simp))
  | str j=>obtain ⟨t',rfl⟩:=ry;exact ne_str (ck I q (congrArg not LP))
  | _=>exact absurd (show false=true from hs) Vo
 | IH i =>
  obtain ⟨t,rfl⟩:=rx
  cases y with
  | IH j=>obtain ⟨t',rfl⟩:=ry;exact PySem.W.ne_bytes (ck I q (congrArg not Le))
  | _=>exact absurd (show false=true from hs) Vo
 | _=>cases y<;>exact absurd (show false=true from hs) Vo
theorem J8:zA X (compareOp .Lt) (OR λi j=>.bl (decide (i < j))):=RC λ_ _ _ _ _ _ _ q=>lt_int q
theorem lA:zA X (compareOp .LtE) (OR λi j=>.bl (decide (i<=j))):=RC λ_ _ _ _ _ _ _ q=>le_int q
theorem LJ:zA X (compareOp .GtE) (OR λi j=>.bl (decide (j<=i))):=RC λ_ _ _ _ _ _ _ q=>ge_int q
theorem vi:zA X (compareOp .Is) (λx y H Q=>y=.dF/\Q (.bl (decide (x=.dF))) H):=by
 intro pins s σ H x y v u Q I rx ry h
 obtain ⟨rfl,q⟩:=h
 cases ry
 refine is_none_gen (ck I q ?_)
 cases x<;>first
  | (cases rx;rfl)
  | (obtain ⟨t,rfl⟩:=rx;rfl)
theorem K4:zA X (compareOp .IsNot) (λx y H Q=>y=.dF/\Q (.bl (!decide (x=.dF))) H):=by
 intro pins s σ H x y v u Q I rx ry h
 obtain ⟨rfl,q⟩:=h
 cases ry
 refine isnot_none_gen (ck I q ?_)
 cases x<;>first
  | (cases rx;rfl)
  | (obtain ⟨t,rfl⟩:=rx;rfl)
theorem bo (b:Expr) {op:CmpOp} (h:op≠.In:=by decide) (h2:op≠.NotIn:=by decide):behindInMarks op b=false:=by
 have e1:(op == CmpOp.In)=false:=by cases op<;>first | rfl | exact absurd rfl h
 have e2:(op == CmpOp.NotIn)=false:=by cases op<;>first | rfl | exact absurd rfl h2
 cases b<;>simp [behindInMarks,e1,e2]
theorem nP {op:CmpOp} {r:R2} (ho:zA X (compareOp op) r) (ha:PE X a ta) (hb:PE X b tb) (hm:behindInMarks op b=false):PE X (.Compare a [op] [b] pos) (TF r ta tb):=by
 intro pins s σ H Q I h
 exact wpAny_Compare1 (Q7 ha hb I h λv u s2 x y H2 I2 rx ry q=>ho pins s2 σ H2 x y v u Q I2 rx ry q) hm
def QA (t:TE):TT:=λσ H Q=>t σ H λx H'=>∃ k,x=.bl k/\Q k H'
theorem a8 {op:CmpOp} {r:R2} (ho:zA X (compareOp op) r) (ha:PE X a ta) (hb:PE X b tb) (hm:behindInMarks op b=false):PT X (.Compare a [op] [b] pos) (QA (TF r ta tb)):=by
 intro pins s σ H Q I h
 refine wpAny_isTrue_Compare1 (dN (ha pins s σ H _ I h) λv s1 ⟨x,H1,I1,r1,q1⟩=>dN (hb pins s1 σ H1 _ I1 q1) λu s2 ⟨y,H2,I2,r2,q2⟩ =>
  dN (ho pins s2 σ H2 x y v u _ I2 r1 r2 q2) λc s3 ⟨z,H3,I3,r3,k,e,q3⟩=>?_) hm
 subst e
 cases r3
 exact wpAny_truthy_bool ⟨H3,I3,q3⟩
def OF (r r':R2) (ta tb tc:TE):TE:=λσ H Q=>ta σ H λx H1=>tb σ H1 λy H2=>r x y H2 λz H3=>∃ k,z=.bl k /\
 (if k=true then tc σ H3 λw' H4=>r' y w' H4 Q else Q (.bl false) H3)
theorem vW {op op':CmpOp} {r r':R2} (ho:zA X (compareOp op) r) (ho':zA X (compareOp op') r') (ha:PE X a ta) (hb:PE X b tb) (hc:PE X c tc)
  (hm:lastMarks [op,op'] [b,c]=false:=by with_unfolding_all rfl):PE X (.Compare a [op,op'] [b,c] pos) (OF r r' ta tb tc):=by
 intro pins s σ H Q I h
 refine Compare_chain (dN (ha pins s σ H _ I h) λv s1 ⟨x,H1,I1,r1,q1⟩=>chain_link (dN (hb pins s1 σ H1 _ I1 q1) λu s2 ⟨y,H2,I2,r2,q2⟩ =>
  dN (ho pins s2 σ H2 x y v u _ I2 r1 r2 q2) λd s3 ⟨z,H3,I3,r3,k,e,q3⟩=>?_)) hm
 subst e
 cases r3
 refine wpAny_truthy_bool ?_
 cases k with
 | false=>exact ite_ff ⟨.bl false,H3,I3,rfl,q3⟩
 | true=>exact ite_tt (chain_last (dN (hc pins s3 σ H3 _ I3 q3) λw' s4 ⟨z',H4,I4,r4,q4⟩=>ho' pins s4 σ H4 y z' u w' Q I4 r2 r4 q4))
theorem y4 {op op':CmpOp} {r r':R2} (ho:zA X (compareOp op) r) (ho':zA X (compareOp op') r') (ha:PE X a ta) (hb:PE X b tb) (hc:PE X c tc)
  (hm:lastMarks [op,op'] [b,c]=false:=by with_unfolding_all rfl):PT X (.Compare a [op,op'] [b,c] pos) (QA (OF r r' ta tb tc)):=by
 intro pins s σ H Q I h
 refine isTrue_chain (dN (ha pins s σ H _ I h) λv s1 ⟨x,H1,I1,r1,q1⟩=>test_link (dN (hb pins s1 σ H1 _ I1 q1) λu s2 ⟨y,H2,I2,r2,q2⟩ =>
  dN (ho pins s2 σ H2 x y v u _ I2 r1 r2 q2) λd s3 ⟨z,H3,I3,r3,k,e,q3⟩=>?_)) hm
 subst e
 cases r3
 refine wpAny_truthy_bool ?_
 cases k with
 | false =>
  obtain ⟨k',e',q'⟩:=q3
  cases e'
  exact ite_ff ⟨H3,I3,q'⟩
 | true =>
  refine ite_tt (test_last (dN (hc pins s3 σ H3 _ I3 q3) λw' s4 ⟨z',H4,I4,r4,q4⟩=>dN (ho' pins s4 σ H4 y z' u w' _ I4 r2 r4 q4) λd' s5 ⟨z2,H5,I5,r5,k2,e2,q5⟩=>?_))
  subst e2
  cases r5
  exact wpAny_truthy_bool ⟨H5,I5,q5⟩
def Ru (K:UR) (x:V) (H:Hp) (k:Bool):Prop :=
 match x with
 | .dF=>k=false
 | .bl b=>k=b
 | .int i=>k=(i != 0)
 | .str y=>y.length<=sizeLine/\k=((y.length:Int) != 0)
 | .IH y=>y.size<=sizeLine/\k=((y.size:Int) != 0)
 | .ref p=>(∃ xs,bc K H p xs/\k=!xs.isEmpty)∨(∃ xs,gg K H p xs/\k=!xs.isEmpty)∨∃ kvs,H p=some (.dK kvs)/\k=!kvs.isEmpty
 | _=>False
theorem Kk {κ:Type} {kvs:List (κ × V)} {vs:List (κ × Value)} (r:KV kvs vs):(!vs.isEmpty)=!kvs.isEmpty:=by
 cases r<;>rfl
theorem Ex {xs:List V} {its:List Value} (r:Vals xs its):(!its.toArray.isEmpty)=!xs.isEmpty:=by
 cases r<;>simp
theorem EM:(sizeLine:Nat) < 2 ^ 63:=by rw [sizeLine_eq];decide
theorem QW:Uk X (λx H Q=>∃ k,Ru X.K x H k/\Q k H):=by
 intro pins s σ H x v Q I rx h
 obtain ⟨k,e,q⟩:=h
 have hl:=EM
 have hs:sizeLine=16777216:=sizeLine_eq
 cases x with
 | dF =>
  cases rx
  have e':k=false:=e
  subst e'
  exact truthy_none ⟨H,I,q⟩
 | bl b =>
  cases rx
  have e':k=b:=e
  subst e'
  exact wpAny_truthy_bool ⟨H,I,q⟩
 | int i =>
  obtain ⟨t,rfl⟩:=rx
  have e':k=(i != 0):=e
  subst e'
  exact PySem.P.truthy_int ⟨H,I,q⟩
 | str y =>
  obtain ⟨t,rfl⟩:=rx
  obtain ⟨hy,e'⟩:y.length<=sizeLine/\k=((y.length:Int) != 0):=e
  subst e'
  exact PySem.P.truthy_str (by lia) ⟨H,I.tok _,q⟩
 | IH y =>
  obtain ⟨t,rfl⟩:=rx
  obtain ⟨hy,e'⟩:y.size<=sizeLine/\k=((y.size:Int) != 0):=e
  subst e'
  exact PySem.W.truthy_bytes (by lia) ⟨H,I.tok _,q⟩
 | ref p =>
  cases rx
  have e':(∃ xs,bc X.K H p xs/\k=!xs.isEmpty)∨(∃ xs,gg X.K H p xs/\k=!xs.isEmpty)∨∃ kvs,H p=some (.dK kvs)/\k=!kvs.isEmpty:=e
  rcases e' with ⟨xs,hx,e'⟩ | ⟨xs,hx,e'⟩ | ⟨kvs,hx,e'⟩
  ·subst e'
   obtain ⟨its,r,pl,hz⟩:=I.list hx
   have hlen:=r.length
   exact wpAny_truthy_list pl.isList (by simp only [Vf];omega) ⟨H,I.tok _,by rw [Ex r];exact q⟩
  ·subst e'
   obtain ⟨its,r,pl,hz⟩:=I.tuple hx
   have hlen:=r.length
   exact truthy_tuple pl (by simp only [Vf];omega) ⟨H,I.tok _,by rw [Ex r];exact q⟩
  ·subst e'
   obtain ⟨hz,hS,vs,r,m⟩:kvs.length<=sizeLine/\(p == sysModules)=false/\∃ vs,KV kvs vs/\s.heap.DictOf (aY X.prog X.w) p vs:=I.dv p _ hx
   have hlen:kvs.length=vs.length:=Paired.length r
   exact wpAny_truthy_dict hS m (by omega) ⟨H,I.tok _,by rw [Kk r];exact q⟩
 | _=>exact (show False from e).elim
theorem Oo (ha:PE X a ta) (he:∀ whole,isTrue a X.env whole=(do let v <- whole;standAt a.pos;holding [v] (truthy v))) :
  PT X a (λσ H Q=>ta σ H λx H'=>∃ k,Ru X.K x H' k/\Q k H'):=by
 intro pins s σ H Q I h
 exact isTrue_plain (dN (ha pins s σ H _ I h) λv s1 ⟨x,H1,I1,r1,q1⟩=>QW pins s1 σ H1 x v Q I1 r1 q1) (he _)
theorem vals1 {x:V} {us:List Value} (r:Vals [x] us):∃ u,us=[u]/\RelV x u:=by
 cases r with
 | cons r1 r2=>cases r2;exact ⟨_,rfl,r1⟩
theorem vals2 {x y:V} {us:List Value} (r:Vals [x,y] us):∃ u w',us=[u,w']/\RelV x u/\RelV y w':=by
 cases r with
 | cons r1 r2 =>
  cases r2 with
  | cons r3 r4=>cases r4;exact ⟨_,_,rfl,r1,r3⟩
end
end L2
namespace L2
open PySem PySem.Spec PyProof.Rows
structure KY (h:Heap) (x dx C:Addr) (mA:Str->Option Value):Prop where
 obj:h.get? x=some (Wt C dx)
 ns:h.Ns1 dx mA
 ne:dx≠x
theorem Me {h:Heap} {dx:Addr} {mA:Str->Option Value} (n:h.Ns1 dx mA):∃ od,h.get? dx=some od/\∀ name,PySem.W.lookIn name od=some (mA name):=by
 obtain ⟨o,es,ep,ho,hd,hk,_,hm⟩:=n
 refine ⟨o,ho,λname=>?_⟩
 have e:=hm name
 unfold nsFind findBy at e
 rw [<- Array.find?_toList] at e
 unfold PySem.W.lookIn
 rw [hd]
 dsimp only
 split
 ·rename_i y q
  rw [q] at e
  exact congrArg some e
 ·rename_i q
  rw [q] at e
  have a:es.toList.any (·.refKey)=false:=by
   rw [List.any_eq_false]
   intro y hy
   obtain ⟨z,t,hkey⟩:=hk y (Array.mem_toList_iff.mp hy)
   simp [DictEntry.refKey,hkey]
  have a':¬ es.toList.any (·.refKey)=true:=by rw [a];exact Vo
  rw [if_neg a']
  exact congrArg some e
theorem KY.look {h:Heap} {x dx C:Addr} {mA:Str->Option Value} (I:KY h x dx C mA):∃ od,PySem.W.InstAt h x (Wt C dx) C (some od)/\∀ name,PySem.W.lookIn name od=some (mA name) :=
 let ⟨od,ho,hl⟩:=Me I.ns
 ⟨od,⟨I.obj,rfl,rfl,ho⟩,hl⟩
section
variable {prog:Program} {w:World} {A:Around} {E:Value->Shared->Prop} {s:Shared} {K:UR} {x dx C f:Addr} {mA:Str->Option Value} {name:Str} {v:Value}
theorem get_map {expr:Bool} {Q:Value->Shared->Prop} (X:K.In s.heap) (I:KY s.heap x dx C mA) (hg:Xe K C name=true) (hh:PySem.W.hasDictIn K C=true)
  (ha:VX K (.ref C) name=some none) (hv:mA name=some v) (hv':PySem.W.handedIn v=true) (h:Q v { s with toks:=s.toks+1 }) :
  wpAny (model prog w) A (getAttr (.ref x) name expr) Q E s:=by
 obtain ⟨od,J,hl⟩:=I.look
 exact PySem.W.get_value X J (PySem.W.plainGet_of hg).1 (PySem.W.findObj_own hh ha rfl (by rw [hl,hv])) hv' h
theorem NI {pl:Sem Bool} {Q:Value × List Value->Shared->Prop} (X:K.In s.heap) (I:KY s.heap x dx C mA) (hg:Xe K C name=true)
  (hf:VX K (.ref C) name=some (some (.ref f))) (ht:PySem.W.isFn K (.ref f)=true) (hv:mA name=none) (h:Q (.ref f,[.ref x]) s) :
  wpAny (model prog w) A (getMethod (.ref x) name pl) Q E s:=by
 obtain ⟨od,J,hl⟩:=I.look
 exact PySem.W.method_fn X J (PySem.W.plainGet_of hg).1 (PySem.W.plainGet_of hg).2 hf (beq_iff_eq.mp ht) (by show (PySem.W.lookIn name od).map (·.isSome)=some false;rw [hl,hv];rfl) h
theorem P1 {ns:List Str} {Q:Unit->Shared->Prop} (X:K.In s.heap) (I:KY s.heap x dx C mA)
  (hs:VX K (.ref C) "__setattr__"=some (some (.builtin "object.__setattr__"))) (hp:PySem.W.plainOver K C=true) (ht:PySem.W.takerIn K C name=some none) (hh:PySem.W.hasDictIn K C=true)
  (hw:PySem.Within mA ns) (hsz:ns.length<=sizeLine)
  (h:∀ h',KY h' x dx C (λy=>if y=name then some v else mA y)->Heap.SameBut dx s.heap h'->Q () { s with heap:=h',toks:=s.toks+2 }) :
  wpAny (model prog w) A (setAttr (.ref x) name v) Q E s:=by
 obtain ⟨od,J,hl⟩:=I.look
 refine PySem.W.set_plain X J hs (PySem.W.osa_open (s:={ s with toks:=s.toks+1 }) (r:=none) X J hp ht λb=>?_)
 obtain ⟨cd,hc,hd'⟩:=PySem.W.any_some hh
 have hx:s.heap.get? x=some ⟨.ref C,some dx,.plain,#[]⟩:=I.obj
 refine wpAny_bind (wpAny_pure (wpAny_bind (wpAny_bind (wpAny_loadPart hx (wpAny_bind (PySem.W.Looks.here (s:={ s with toks:=s.toks+1 }) (PySem.W.looks_clsIn X hc) ?_))))))
 rw [hd']
 refine wpAny_pure (a:=some dx) (wpAny_bind (wpAny_pure (wpAny_bind ?_)))
 refine wpAny_nsSet1 (s:={ s with toks:=s.toks+1 }) I.ns λh' hn2 hs2=>?_
 obtain ⟨oD,esD,epD,hoD,hdD,hcD⟩:=hn2.count (PySem.Within.cons name v hw)
 refine wpAny_bind (wpAny_lookBehind hoD (by rw [hdD];exact pastItsLine_dict (U8 hcD (by rw [Vj];lia))) ?_)
 exact wpAny_pure (h _ ⟨(hs2.2 _ (Ne.symm I.ne)).trans I.obj,hn2,I.ne⟩ hs2)
theorem Pl {R:Result->Shared->Prop} {vs:List Value} {kw:List (Str × Value)} (X:K.In s.heap) (hm:PySem.W.makesIn K C=true)
  (hi:VX K (.ref C) "__init__"=some (some (.ref f))) (hf:PySem.W.typeIn K (.ref f)=some (.type "function"))
  (h:codeAny (model prog w) (A.under (.builtin "type.__call__" ⟨.ref C::vs,kw⟩)) (.call (.ref f) ⟨.ref (s.heap.objs.size+1)::vs,kw⟩) (PySem.W.InitBack (s.heap.objs.size+1) R)
   { s with heap:=(s.heap.push Wm).push (Wt C s.heap.objs.size) }) :
  codeAny (model prog w) A (.call (.ref C) ⟨vs,kw⟩) R s:=by
 obtain ⟨hh,g,d,t,os⟩:=s
 exact PySem.W.make_core (PySem.W.makes_of X hm) (PySem.W.looks_findIn X hi) (λself=>PySem.W.bind_fn X self hf) (.inl rfl) h
end
def aZ (f:Str) (v:V):List (Str × V)->List (Str × V)
 | []=>[(f,v)]
 | (g,x)::r=>if g=f then (g,v)::r else (g,x)::aZ f v r
theorem C7 (f g:Str) (v:V):∀ fs:List (Str × V),(aZ f v fs).lookup g=if g=f then some v else fs.lookup g
 | []=>by
  show Ww g [(f,v)]=_
  by_cases h:g=f
  ·have hb:(g == f)=true:=beq_iff_eq.mpr h
   simp only [Ww,hb,if_pos h]
  ·have hb:(g == f)=false:=beq_eq_false_iff_ne.mpr h
   simp only [Ww,hb,if_neg h]
 | (k,x)::r=>by
  have ih:=C7 f g v r
  rw [show aZ f v ((k,x)::r)=(if k=f then (k,v)::r else (k,x)::aZ f v r) from rfl]
  by_cases hk:k=f
  ·rw [if_pos hk]
   by_cases h:g=k
   ·have hb:(g == k)=true:=beq_iff_eq.mpr h
    simp only [Ww,hb,if_pos (h.trans hk)]
   ·have hb:(g == k)=false:=beq_eq_false_iff_ne.mpr h
    simp only [Ww,hb,if_neg (λe:g=f=>h (e.trans hk.symm))]
  ·rw [if_neg hk]
   by_cases h:g=k
   ·have hb:(g == k)=true:=beq_iff_eq.mpr h
    simp only [Ww,hb,if_neg (λe:g=f=>hk (h.symm.trans e))]
   ·have hb:(g == k)=false:=beq_eq_false_iff_ne.mpr h
    simp only [Ww,hb]
    exact ih
theorem Cs (f:Str) (v:V):∀ fs:List (Str × V),f∈(aZ f v fs).map (·.1)/\∀ g,g∈fs.map (·.1)->g∈(aZ f v fs).map (·.1)
 | []=>⟨by simp [aZ],λg h=>by simp at h⟩
 | (k,x)::r=>by
  obtain ⟨i1,i2⟩:=Cs f v r
  rw [show aZ f v ((k,x)::r)=(if k=f then (k,v)::r else (k,x)::aZ f v r) from rfl]
  by_cases hk:k=f
  ·rw [if_pos hk]
   subst hk
   exact ⟨by simp,λg h=>by simpa using h⟩
  ·rw [if_neg hk]
   refine ⟨?_,λg h=>?_⟩
   ·rw [Vc]
    exact Vl _ i1
   ·rw [Vc] at h ⊢
    rcases U4.mp h with e | e
    ·exact U4.mpr (.inl e)
    ·exact Vl _ (i2 g e)
theorem Dh (f:Str) (v:V):∀ fs:List (Str × V),(aZ f v fs).length<=fs.length+1
 | []=>by simp [aZ]
 | (k,x)::r=>by
  have ih:=Dh f v r
  rw [show aZ f v ((k,x)::r)=(if k=f then (k,v)::r else (k,x)::aZ f v r) from rfl]
  by_cases hk:k=f
  ·rw [if_pos hk,Vj,Vj];exact V8 _ _
  ·rw [if_neg hk,Vj,Vj];lia
theorem vP.some_of {v:V} {o:Option Value} (r:vP (some v) o):∃ u,o=some u/\RelV v u:=by
 cases o with
 | none=>exact (show False from r).elim
 | some u=>exact ⟨u,rfl,r⟩
theorem vP.none_of {o:Option Value} (r:vP none o):o=none:=by
 cases o with
 | none=>rfl
 | some u=>exact (show False from r).elim
theorem Mi {v:V} {u:Value} (r:RelV v u):PySem.W.handedIn u=true:=by
 cases v with
 | dF=>cases (show u=Value.none from r);rfl
 | bl b=>cases (show u=Value.bool b from r);rfl
 | int i=>obtain ⟨t,e⟩:=(show ∃ t,u=Value.int i t from r);cases e;rfl
 | str x=>obtain ⟨t,e⟩:=(show ∃ t,u=Value.str x t from r);cases e;rfl
 | IH b=>obtain ⟨t,e⟩:=(show ∃ t,u=Value.bytes b t from r);cases e;rfl
 | TN b=>obtain ⟨t,e⟩:=(show ∃ t,u=Value.float b t from r);cases e;rfl
 | ref a=>cases (show u=Value.ref a from r);rfl
 | ty n=>cases (show u=Value.type n from r);rfl
section
variable {P:Program} {w:World} {H H':Hp} {h h':Heap} {a C dx:Addr} {fs fs':List (Str × V)}
theorem Ir (dv:ym P w H h) (e:H a=some (.ins C dx fs)):∃ mA,KY h a dx C mA/\(∀ f,vP (fs.lookup f) (mA f))/\PySem.Within mA (fs.map (·.1))/\fs.length<=1000/\H dx=some (.own a):=by
 obtain ⟨d,z,ne,ob,mA,n,r,q⟩:=(show i4 P w H h a (.ins C dx fs) from dv a _ e)
 exact ⟨mA,⟨ob,n,ne⟩,r,q,z,d⟩
end
structure zr (K:UR) (C:Addr):Prop where
 pg:Xe K C Str.empty=true
 hd:PySem.W.hasDictIn K C=true
 po:PySem.W.plainOver K C=true
 sa:VX K (.ref C) "__setattr__"=some (some (.builtin "object.__setattr__"))
theorem zr.get {K:UR} {C:Addr} (c:zr K C) (f:Str):Xe K C f=true:=c.pg
def aU (K:UR) (C:Addr) (f:Str):Prop:=VX K (.ref C) f=some none
theorem aU.SD {K:UR} {C:Addr} {f:Str} (n:aU K C f):PySem.W.takerIn K C f=some none:=by
 unfold PySem.W.takerIn
 rw [show VX K (.ref C) f=some none from n]
 rfl
structure Meth (K:UR) (C:Addr) (m:Str) (f:Addr):Prop where
 at_:VX K (.ref C) m=some (some (.ref f))
 fn:PySem.W.isFn K (.ref f)=true
 kp:Wd K (.ref f)=true
section
variable {X:Cx} {pins:List (Addr × Obj)} {σ:St} {H:Hp} {s:Shared} {a C dx:Addr} {fs:List (Str × V)} {f:Str} {v:V} {A:Around} {E:Value->Shared->Prop}
theorem Eg {b:Bool} {Q:Value->Shared->Prop} (I:Inv X pins σ H s) (e:H a=some (.ins C dx fs)) (c:zr X.K C) (n:aU X.K C f) (l:fs.lookup f=some v)
  (h:∀ u s',Inv X pins σ H s'->RelV v u->Q u s'):wpAny (model X.prog X.w) A (getAttr (.ref a) f b) Q E s:=by
 obtain ⟨mA,O,r,_,_,_⟩:=Ir I.dv e
 obtain ⟨u,hu,ru⟩:=vP.some_of (v:=v) (o:=mA f) (by rw [<- l];exact r f)
 exact get_map I.Jp O (c.get f) c.hd n hu (Mi ru) (h u _ (I.tok _) ru)
theorem E7 {m:Str} {g:Addr} {pl:Sem Bool} {Q:Value × List Value->Shared->Prop} (I:Inv X pins σ H s) (e:H a=some (.ins C dx fs)) (c:zr X.K C) (k:Meth X.K C m g) (l:fs.lookup m=none)
  (h:Q (.ref g,[.ref a]) s):wpAny (model X.prog X.w) A (getMethod (.ref a) m pl) Q E s:=by
 obtain ⟨mA,O,r,_,_,_⟩:=Ir I.dv e
 have hn:mA m=none:=vP.none_of (by rw [<- l];exact r m)
 exact NI I.Jp O (c.get m) k.at_ k.fn hn h
theorem Ee {y:V} {u:Value} {Q:Unit->Shared->Prop} (I:Inv X pins σ H s) (e:H a=some (.ins C dx fs)) (c:zr X.K C) (n:aU X.K C f) (hl:fs.length < 1000) (ry:RelV y u)
  (h:∀ s',Inv X pins σ (upd H a (.ins C dx (aZ f y fs))) s'->Q () s'):wpAny (model X.prog X.w) A (setAttr (.ref a) f u) Q E s:=by
 obtain ⟨mA,O,r,wi,_,ho⟩:=Ir I.dv e
 have hz:(fs.map (·.1)).length<=sizeLine:=by rw [UT,sizeLine_eq];lia
 refine P1 I.Jp O c.sa c.po n.SD c.hd wi hz λh' O' sb=>h _ ?_
 have hd:∃ o,h'.get? dx=some o:=let ⟨o,_,_,e',_⟩:=O'.ns;⟨o,e'⟩
 refine I.write (x:=a) (e:=dx) (by rw [e];exact True.intro) (.inr ho) (λb q hb z=>(sb.2 b hb).trans z) hd ?_
 refine ⟨by rw [ak O.ne];exact ho,?_,O.ne,O'.obj,_,O'.ns,λg=>?_,λg hg=>?_⟩
 ·have:=Dh f y fs;exact U8 ‹_› ‹_›
 ·show vP ((aZ f y fs).lookup g) (if g=f then some u else mA g)
  rw [C7]
  by_cases q:g=f
  ·rw [if_pos q,if_pos q];exact ry
  ·rw [if_neg q,if_neg q];exact r g
 ·by_cases q:g=f
  ·rw [q];exact (Cs f y fs).1
  ·refine (Cs f y fs).2 g (wi g λz=>hg ?_)
   show (if g=f then some u else mA g)=none
   rw [if_neg q];exact z
theorem Inv.made (I:Inv X pins σ H s):Inv X pins σ (upd (upd H s.heap.objs.size (.own (s.heap.objs.size+1))) (s.heap.objs.size+1) (.ins C s.heap.objs.size []))
  { s with heap:=(s.heap.push Wm).push (Wt C s.heap.objs.size) }:=by
 have e1:(s.heap.push Wm).get? s.heap.objs.size=some Wm:=Heap.get?_push_size s.heap rfl
 have e2:((s.heap.push Wm).push (Wt C s.heap.objs.size)).get? (s.heap.objs.size+1)=some (Wt C s.heap.objs.size):=by
  have:=Heap.get?_push_size (s.heap.push Wm) (o:=Wt C s.heap.objs.size) rfl
  rwa [Heap.size_push] at this
 have e3:(s.heap.push Wm).Ns s.heap.objs.size (λ_=>none):=⟨Wm,#[],_,e1,rfl,(λe he=>absurd he (by simp)),λ_=>rfl⟩
 have I1:=I.laid (a:=s.heap.objs.size) (o:=.own (s.heap.objs.size+1)) (h':=s.heap.push Wm) (t':=s.toks) (λb u q=>Heap.get?_push_of_some _ q) (U1 _) ⟨_,e1⟩
 refine I1.laid (a:=s.heap.objs.size+1) (o:=.ins C s.heap.objs.size []) (t':=s.toks) (λb u q=>Heap.get?_push_of_some _ q) (Nat.le_of_eq (Heap.size_push _ _)) ?_
 have ne:s.heap.objs.size≠s.heap.objs.size+1:=Vh (Nat.lt_succ_self _)
 refine ⟨by rw [ak ne,ae],Vt _,ne,e2,λ_=>none,(Heap.Ns1.of_empty e3).at λo q=>Heap.get?_push_of_some _ q,λ_=>True.intro,λy hy=>absurd rfl hy⟩
theorem Pu {prog:Program} {w:World} {env:Env} {e:Expr} {f:Str} {pos:Pos} {s:Shared} {Q:Value->Shared->Prop} (hb:attributeBase e f env (eval e env)=eval e env)
  (h:wpAny (model prog w) A (eval e env) (λo s₁=>wpAny (model prog w) A (getAttr o f true) Q E s₁) E s):wpAny (model prog w) A (eval (.Attribute e f pos) env) Q E s :=
 Attribute_any_ h (by rw [arm_eval_Attribute,hb])
end
def Sn (K:UR) (ta:TE) (f:Str):TE:=λσ H Q=>ta σ H λx H1=>∃ a C dx fs v,x=.ref a/\H1 a=some (.ins C dx fs)/\zr K C/\aU K C f/\fs.lookup f=some v/\Q v H1
def Tf (K:UR) (ta tv:TE) (f:Str):TS:=λD σ H=>tv σ H λy H1=>ta σ H1 λx H2=>∃ a C dx fs,x=.ref a/\H2 a=some (.ins C dx fs)/\zr K C/\aU K C f/\fs.length < 1000 /\
 D.nx σ (upd H2 a (.ins C dx (aZ f y fs)))
def O4 (X:Cx) (op:Operator) (rd:V->V->Hp->VK->Prop):Prop :=
 ∀ (pins:List (Addr × Obj)) (s:Shared) (σ:St) (H:Hp) (x y:V) (u v:Value) (Q:VK),Inv X pins σ H s->RelV x u->RelV y v->rd x y H Q->wpAny (model X.prog X.w) X.A (inplaceOp op u v) (EP X pins σ Q) X.xe s
def LK (K:UR) (ta tv:TE) (rd:V->V->Hp->VK->Prop) (f:Str):TS:=λD σ H=>ta σ H λx H1=>∃ a C dx fs v,x=.ref a/\H1 a=some (.ins C dx fs)/\zr K C/\aU K C f/\fs.lookup f=some v /\
 tv σ H1 λy H2=>rd v y H2 λz H3=>∃ dx' fs',H3 a=some (.ins C dx' fs')/\fs'.length < 1000/\D.nx σ (upd H3 a (.ins C dx' (aZ f z fs')))
section
variable {X:Cx} {o e value:Expr} {f:Str} {pos pos' tpos:Pos} {ta tv:TE}
theorem RX (he:PE X e ta) (hb:attributeBase e f X.env (eval e X.env)=eval e X.env):PE X (.Attribute e f pos) (Sn X.K ta f):=by
 intro pins s σ H Q I h
 refine Pu hb (dN (he pins s σ H _ I h) λu s1 ⟨x,H1,I1,rx,a,C,dx,fs,v,ex,ea,c,n,l,q⟩=>?_)
 subst ex
 obtain rfl:u=Value.ref a:=rx
 exact Eg I1 ea c n l λu' s2 I2 ru=>⟨v,H1,I2,ru,q⟩
theorem Rf (ha:PE X o ta) (hv:PE X value tv) (hs:swapsWith value (some (.Attribute o f pos')) pos.line X.env=pure false):PS X (.Assign [.Attribute o f pos'] value pos) (Tf X.K ta tv f):=by
 intro pins s σ H D I h
 refine plainObj_wpAny_Assign_Attribute (dN (hv pins s σ H _ I h) λu s1 ⟨y,H1,I1,ry,q⟩=>dN (ha pins s1 σ H1 _ I1 q) λov s2 ⟨x,H2,I2,rx,a,C,dx,fs,ex,ea,c,n,l,q2⟩=>?_) hs
 subst ex
 obtain rfl:ov=Value.ref a:=rx
 exact Ee I2 ea c n l ry λs3 I3=>⟨σ,_,I3,q2⟩
theorem MT {op:Operator} {rd:V->V->Hp->VK->Prop} (ha:PE X o ta) (hv:PE X value tv) (hop:O4 X op rd):PS X (.AugAssign (.Attribute o f tpos) op value pos) (LK X.K ta tv rd f):=by
 intro pins s σ H D I h
 refine wpAny_AugAssign_AttributeAny (dN (ha pins s σ H _ I h) λov s1 ⟨x,H1,I1,rx,a,C,dx,fs,v,ex,ea,c,n,l,q⟩=>?_)
 subst ex
 obtain rfl:ov=Value.ref a:=rx
 refine Eg I1 ea c n l λu s2 I2 ru=>dN (hv pins s2 σ H1 _ I2 q) λw3 s3 ⟨y,H2,I3,ry,q3⟩=>dN (hop pins s3 σ H2 v y u w3 _ I3 ru ry q3) λw4 s4 ⟨z,H3,I4,rz,dx',fs',ea',l',q4⟩=>?_
 exact Ee I4 ea' c n l' rz λs5 I5=>⟨σ,_,I5,q4⟩
def TQ:V->V->Hp->VK->Prop:=λx y H Q=>∃ i j,x=.int i/\y=.int j/\Q (.int (i+j)) H
def Uc:V->V->Hp->VK->Prop:=λx y H Q=>∃ i j,x=.int i/\y=.int j/\Q (.int (i - j)) H
theorem uN:O4 X .Add TQ:=by
 rintro pins s σ H x y u v Q I rx ry ⟨i,j,rfl,rfl,q⟩
 obtain ⟨t,rfl⟩:=(show ∃ t,u=Value.int i t from rx)
 obtain ⟨t',rfl⟩:=(show ∃ t',v=Value.int j t' from ry)
 exact PyProof.Rows.iadd_int ⟨.int (i+j),H,I.tok _,⟨_,rfl⟩,q⟩
theorem RQ:O4 X .Sub Uc:=by
 rintro pins s σ H x y u v Q I rx ry ⟨i,j,rfl,rfl,q⟩
 obtain ⟨t,rfl⟩:=(show ∃ t,u=Value.int i t from rx)
 obtain ⟨t',rfl⟩:=(show ∃ t',v=Value.int j t' from ry)
 exact PyProof.Rows.isub_int ⟨.int (i - j),H,I.tok _,⟨_,rfl⟩,q⟩
end
end L2
namespace L2
open PySem PySem.Spec PyProof.Rows
structure my (k:Nat) (A:Around):Prop where
 hd:A.handled=none
 dp:A.depth+3 * k+5 < recursionLimit
 un:A.units+16 * k+200 < cLine
theorem my.mono {j k:Nat} {A:Around} (r:my k A) (h:j<=k):my j A:=⟨r.hd,by have:=r.dp;lia,by have:=r.un;lia⟩
theorem my.deeper {k:Nat} {A:Around} (r:my (k+1) A) (env:Env):my k (A.deeper env) :=
 ⟨r.hd,by have:=r.dp;show A.depth+1+3 * k+5 < _;lia,by have:=r.un;show A.units+3+16 * k+200 < _;lia⟩
theorem Kq {A:Around} {C:Addr} {us:List Value} {kw:List (Str × Value)}:(A.under (.builtin "type.__call__" ⟨.ref C::us,kw⟩)).depth=A.depth+1:=by
 first | rfl | simp [Around.under,Code.weight,Code.isCreation,Code.isGuard,Code.isCaller,Code.frames,Code.isFrame,guardIds]
theorem KD {A:Around} {C:Addr} {us:List Value} {kw:List (Str × Value)}:(A.under (.builtin "type.__call__" ⟨.ref C::us,kw⟩)).units=A.units+1:=by
 first | rfl | simp [Around.under,Code.cUnits,Code.frames,Code.isFrame]
theorem my.make {k:Nat} {A:Around} (r:my (k+1) A) (C:Addr) (us:List Value) (kw:List (Str × Value)):my k (A.under (.builtin "type.__call__" ⟨.ref C::us,kw⟩)) :=
 ⟨r.hd,by have:=r.dp;rw [Kq];lia,by have:=r.un;rw [KD];lia⟩
theorem my.depth {k:Nat} {A:Around} (r:my k A):A.depth < recursionLimit:=by have:=r.dp;lia
theorem my.units {k:Nat} {A:Around} (r:my k A):A.units+64 < cLine:=by have:=r.un;lia
def Nu:TA:=λ_ H Q=>Q [] H
def Sj (ta:TE) (tr:TA):TA:=λσ H Q=>ta σ H λx H1=>tr σ H1 λxs H2=>Q (x::xs) H2
section
variable {X:Cx} {e:Expr} {es:List Expr} {te:TE} {t:TA} {pos:Pos}
theorem aj:PA X [] Nu:=λ_ _ _ _ H Q I h=>Calls.spliced_nil ⟨[],H,I,.nil,h⟩
theorem aa (ha:PE X e te) (hr:PA X es t) (hs:starEach (e::es) X.env=(false,eval e X.env)::starEach es X.env:=by rfl):PA X (e::es) (Sj te t):=by
 intro pos pins s σ H Q I h
 rw [hs]
 show wpAny _ _ (spliced ((false,eval e X.env)::backTo pos (starEach es X.env))) _ _ s
 refine Calls.spliced_cons (dN (ha pins s σ H _ I h) λu s1 ⟨x,H1,I1,r1,q1⟩=>?_)
 exact dN (hr pos pins s1 σ H1 _ I1 q1) λus s2 ⟨xs,H2,I2,r2,q2⟩=>⟨x::xs,H2,I2,.cons r1 r2,q2⟩
def Uq (t:TA):TE:=λσ H Q=>t σ H λxs H1=>xs.length<=sizeLine/\∀ p,H1 p=none->Q (.ref p) (upd H1 p (.tup xs))
def Ul (t:TA):TE:=λσ H Q=>t σ H λxs H1=>xs.length<=sizeLine/\∀ p,H1 p=none->Q (.ref p) (upd H1 p (.lst xs))
theorem wU {x1} (h:PA X es t):PE X (.Tuple es x1 pos) (Uq t):=by
 intro pins s σ H Q I hq
 refine wpAny_Tuple_spliced (dN (h pos pins s σ H _ I hq) λus s1 ⟨xs,H1,I1,r,z,q⟩=>⟨by rw [<- r.length];exact z,?_⟩)
 have hf:H1 s1.heap.objs.size=none:=I1.dv.fresh (U1 _)
 refine ⟨.ref s1.heap.objs.size,upd H1 s1.heap.objs.size (.tup xs),I1.laid (t':=s1.toks) (λb u e=>Heap.get?_push_of_some _ e) (U1 _) ?_,rfl,q _ hf⟩
 exact ⟨z,us,r,⟨_,Heap.get?_push_size _ rfl,rfl,_,rfl⟩⟩
theorem aS (h:PA X es t):PE X (.List es pos) (Ul t):=by
 intro pins s σ H Q I hq
 refine wpAny_List_spliced (dN (h pos pins s σ H _ I hq) λus s1 ⟨xs,H1,I1,r,z,q⟩=>⟨by rw [<- r.length];exact z,?_⟩)
 have hf:H1 s1.heap.objs.size=none:=I1.dv.fresh (U1 _)
 refine ⟨.ref s1.heap.objs.size,upd H1 s1.heap.objs.size (.lst xs),I1.laid (t':=s1.toks) (λb u e=>Heap.get?_push_of_some _ e) (U1 _) ?_,rfl,q _ hf⟩
 exact ⟨z,us,0,r,Heap.get?_push_size _ rfl⟩
end
abbrev Sp:=List V->Hp->VK->XK->Prop
abbrev Np:=List Env->Hp->Shared->XK->Value->Shared->Prop
structure Ks (P:Program) (w:World) (K:UR) (mg:Str->Option Value) (base:Heap) (A:Around) (outer:List Env) (s:Shared) (H:Hp):Prop where
 frames:A.frames=some outer
 mod:Mod K mg base
 bs:∀ b o,base.get? b=some o->s.heap.get? b=some o/\H b=none
 Pr:base.objs.size<=s.heap.objs.size
 DB:s.heap.FunFrames base outer
 QZ:∀ b∈OX outer,H b=none
 dv:ym P w H s.heap
 bare:AllBare s.gens
def CE (outer:List Env) (P:Program) (w:World) (H:Hp) (s:Shared) (Q:VK) (u:Value) (s':Shared):Prop :=
 ∃ v H',s'.os=s.os/\AllBare s'.gens/\Un (OX outer) [] H H' s.heap s'.heap/\ym P w H' s'.heap/\RelV v u/\Q v H'
def CR (CX:Np) (outer:List Env) (P:Program) (w:World) (H:Hp) (s:Shared) (Q:VK) (E:XK) (r:Result) (s':Shared):Prop :=
 match r with
 | .ok (.ret u)=>CE outer P w H s Q u s'
 | .ok _=>False
 | .error e=>CX outer H s E e s'
structure a7 (P:Program) (w:World) (K:UR) (mg:Str->Option Value) (base:Heap) (CX:Np) (k:Nat) (f:Addr) (fd:FuncData) (ps:List Str) (sp:Sp):Prop where
 len:∀ vs H Q E,sp vs H Q E->vs.length=ps.length
 run:∀ (A:Around) (outer:List Env) (s:Shared) (H:Hp) (args:Args) (us:List Value) (vs:List V) (Q:VK) (E:XK),my k A->Ks P w K mg base A outer s H->BindsTo s fd args (ps.zip us)->Vals vs us->sp vs H Q E ->
  codeAny (model P w) A (.call (.ref f) args) (CR CX outer P w H s Q E) s
theorem Ks.make {P:Program} {w:World} {K:UR} {mg:Str->Option Value} {base:Heap} {A:Around} {outer:List Env} {s:Shared} {H:Hp} (e:Ks P w K mg base A outer s H) (C:Addr) (us:List Value) (kw:List (Str × Value)) :
  Ks P w K mg base (A.under (.builtin "type.__call__" ⟨.ref C::us,kw⟩)) outer s H:=⟨by first | exact e.frames | (simpa [Around.under,Code.envs,Code.isFrame,pushEnvs] using e.frames),e.mod,e.bs,e.Pr,e.DB,e.QZ,e.dv,e.bare⟩
section
variable {X:Cx} {pins:List (Addr × Obj)} {σ:St} {H:Hp} {s s':Shared}
theorem Inv.Sg (I:Inv X pins σ H s):Ks X.prog X.w X.K X.mg X.base X.A X.stack s H :=
 ⟨I.ok.frames,I.ok.mod,I.bs,U8 I.ok.Pr I.sz,I.stack,I.K8,I.dv,I.bare⟩
theorem Inv.after {Q:VK} {u:Value} (I:Inv X pins σ H s) (h:CE X.stack X.prog X.w H s Q u s'):EP X pins σ Q u s':=by
 obtain ⟨v,H',os,bare,un,dv,r,q⟩:=h
 obtain ⟨hh,g,d,t,os'⟩:=s'
 obtain rfl:os'=s.os:=os
 exact ⟨v,H',I.call (h':=hh) (g':=g) (d':=d) (t':=t) (ch:=[]) un dv bare (λb z=>absurd z (by simp)),r,q⟩
end
def Ts (sp:Sp) (dvs:List V) (E:XK) (t:TA):TE:=λσ H Q=>t σ H λvs H1=>sp (vs++dvs) H1 Q E
def LD (C:Addr) (m:Str) (sp:Sp) (dvs:List V) (E:XK) (ta:TE) (t:TA):TE:=λσ H Q=>ta σ H λx H1=>∃ a dx fs,x=.ref a/\H1 a=some (.ins C dx fs)/\fs.lookup m=none /\
 t σ H1 λvs H2=>sp (x::(vs++dvs)) H2 Q E
def QD (C:Addr) (sp:Sp) (dvs:List V) (E:XK) (t:TA):TE:=λσ H Q=>t σ H λvs H1=>∀ x dx,H1 x=none->H1 dx=none->dx≠x ->
 sp (.ref x::(vs++dvs)) (upd (upd H1 dx (.own x)) x (.ins C dx [])) (λv H2=>v=.dF/\Q (.ref x) H2) E
def Binds (K:UR) (fd:FuncData) (ps:List Str) (ds:List Value):Prop :=
 ∀ (s:Shared) (us:List Value),K.In s.heap->(us++ds).length=ps.length->BindsTo s fd ⟨us,[]⟩ (ps.zip (us++ds))
theorem Binds.all {K:UR} {fd:FuncData} {ps:List Str} (h:∀ us:List Value,us.length=ps.length->bindArgs fd ⟨us,[]⟩=pure (ps.zip us)):Binds K fd ps []:=λs us _ hl=>by
 rw [Wx] at hl ⊢
 exact .of_eq (h us hl)
def Passes (CX:Np) (X:Cx) (E:XK):Prop:=∀ (pins:List (Addr × Obj)) (σ:St) (H:Hp) (s:Shared) (e:Value) (s':Shared),Inv X pins σ H s->CX X.stack H s E e s'->X.xe e s'
section
variable {X:Cx} {CX:Np} {k:Nat} {f C:Addr} {fd:FuncData} {ps:List Str} {sp:Sp} {dvs:List V} {ds:List Value} {E:XK} {x m:Str} {p pos apos:Pos} {e o:Expr} {es:List Expr} {ta:TE} {t:TA}
theorem G7 {pins:List (Addr × Obj)} {σ:St} {H:Hp} {s:Shared} {Q:VK} {us:List Value} {vs:List V} (F:a7 X.prog X.w X.K X.mg X.base CX k f fd ps sp) (hr:my k X.A) (hb:Binds X.K fd ps ds) (hd:Vals dvs ds) (hx:Passes CX X E)
  (I:Inv X pins σ H s) (r:Vals vs us) (h:sp (vs++dvs) H Q E):wpAny (model X.prog X.w) X.A (call (.ref f) us) (EP X pins σ Q) X.xe s:=by
 have r2:Vals (vs++dvs) (us++ds):=r.append hd
 have hl:(us++ds).length=ps.length:=by rw [<- r2.length];exact F.len _ _ _ _ h
 refine wpAny_call (codeAny_mono (F.run X.A X.stack s H ⟨us,[]⟩ (us++ds) (vs++dvs) Q E hr I.Sg (hb s us I.Jp hl) r2 h) λr s' hq=>?_)
 cases r with
 | error e=>exact hx pins σ H s e s' I hq
 | ok fl =>
  cases fl with
  | ret u=>exact I.after hq
  | next=>exact False.elim hq
  | brk=>exact False.elim hq
  | cont=>exact False.elim hq
theorem bC (F:a7 X.prog X.w X.K X.mg X.base CX k f fd ps sp) (hr:my k X.A) (hg:Gl X x) (hm:X.mg x=some (.ref f)) (hk:Wd X.K (.ref f)=true) (hb:Binds X.K fd ps ds) (hd:Vals dvs ds) (hx:Passes CX X E)
  (ha:PA X (e::es) t) (hdb:(x == ("__debug__":Str))=false:=by decide) (he:starEach (e::es) X.env=(false,eval e X.env)::starEach es X.env:=by rfl) (hpl:(backTo pos (starEach es X.env)).any (·.1)=false:=by rfl) :
  PE X (.Call (.Name x p) (e::es) [] pos) (Ts sp dvs E t):=by
 intro pins s σ H Q I h
 refine wpAny_Call_Name_kw (Eb I hg hm ?_ hdb)
 refine PySem.W.callWith_K (h₀:=X.base) I.ok.mod.Pn hk (dN (ha pos pins s σ H _ I h) λus s1 ⟨vs,H1,I1,r,q⟩=>⟨I1.Jp,?_⟩) he hpl
 exact G7 F hr hb hd hx I1 r q
theorem aI {pl:Sem Bool} (he:PE X o ta) (c:zr X.K C) (hm:Meth X.K C m f) (F:a7 X.prog X.w X.K X.mg X.base CX k f fd ps sp) (hr:my k X.A) (hb:Binds X.K fd ps ds) (hd:Vals dvs ds) (hx:Passes CX X E) (ha:PA X (e::es) t)
  (hst:starEach (e::es) X.env=(false,eval e X.env)::starEach es X.env:=by rfl) (hpl:(backTo pos (starEach es X.env)).any (·.1)=false:=by rfl)
  (ht:eval (.Call (.Attribute o m apos) (e::es) [] pos) X.env=(do
   let ov <- eval o X.env
   standAt apos.atName
   let (f,first) <- holding [ov] (getMethod ov m pl)
   callWith pos f first (backTo pos (starEach (e::es) X.env)) (backToKw pos (keywordEach [] X.env))):=by rfl) :
  PE X (.Call (.Attribute o m apos) (e::es) [] pos) (LD C m sp dvs E ta t):=by
 intro pins s σ H Q I h
 refine PySem.W.methodCall_KW (pl:=pl) (dN (he pins s σ H _ I h) λu s1 ⟨x,H1,I1,rx,a,dx,fs,ex,ea,l,q⟩=>?_) ht
 subst ex
 obtain rfl:u=Value.ref a:=rx
 refine E7 I1 ea c hm l ?_
 refine PySem.W.callWith_K (first:=[.ref a]) (h₀:=X.base) I.ok.mod.Pn hm.kp (dN (ha pos pins s1 σ H1 _ I1 q) λus s2 ⟨vs,H2,I2,r,q2⟩=>⟨I2.Jp,?_⟩) hst hpl
 exact G7 (us:=.ref a::us) (vs:=.ref a::vs) F hr hb hd hx I2 (.cons rfl r) q2
theorem b0 {pl:Sem Bool} (he:PE X o ta) (c:zr X.K C) (hm:Meth X.K C m f) (F:a7 X.prog X.w X.K X.mg X.base CX k f fd ps sp) (hr:my k X.A) (hb:Binds X.K fd ps ds) (hd:Vals dvs ds) (hx:Passes CX X E)
  (ht:eval (.Call (.Attribute o m apos) [] [] pos) X.env=(do
   let ov <- eval o X.env
   standAt apos.atName
   let (f,first) <- holding [ov] (getMethod ov m pl)
   callWith pos f first (backTo pos (starEach [] X.env)) (backToKw pos (keywordEach [] X.env))):=by rfl) :
  PE X (.Call (.Attribute o m apos) [] [] pos) (LD C m sp dvs E ta Nu):=by
 intro pins s σ H Q I h
 refine PySem.W.methodCall_KW (pl:=pl) (dN (he pins s σ H _ I h) λu s1 ⟨x,H1,I1,rx,a,dx,fs,ex,ea,l,q⟩=>?_) ht
 subst ex
 obtain rfl:u=Value.ref a:=rx
 refine E7 I1 ea c hm l ?_
 exact PySem.W.callWith_K0 (first:=[.ref a]) I1.Jp hm.kp (G7 (us:=[.ref a]) (vs:=[.ref a]) F hr hb hd hx I1 (.cons rfl .nil) q)
structure Mk (K:UR) (C f:Addr):Prop where
 makes:PySem.W.makesIn K C=true
 init:VX K (.ref C) "__init__"=some (some (.ref f))
 fn:PySem.W.isFn K (.ref f)=true
 kp:Wd K (.ref C)=true
theorem JM {pins:List (Addr × Obj)} {σ:St} {H:Hp} {s:Shared} {Q:VK} {us:List Value} {vs:List V} (M:Mk X.K C f) (F:a7 X.prog X.w X.K X.mg X.base CX k f fd ps sp) (hr:my (k+1) X.A) (hb:Binds X.K fd ps ds) (hd:Vals dvs ds)
  (hx:Passes CX X E) (I:Inv X pins σ H s) (r:Vals vs us)
  (h:∀ x dx,H x=none->H dx=none->dx≠x->sp (.ref x::(vs++dvs)) (upd (upd H dx (.own x)) x (.ins C dx [])) (λv H2=>v=.dF/\Q (.ref x) H2) E) :
  wpAny (model X.prog X.w) X.A (call (.ref C) us) (EP X pins σ Q) X.xe s:=by
 have hq:=h (s.heap.objs.size+1) s.heap.objs.size (I.dv.fresh (Vz _)) (I.dv.fresh (U1 _)) (Vh (Nat.lt_succ_self _))
 have I2:=Inv.made (C:=C) I
 have r2:Vals (V.ref (s.heap.objs.size+1)::(vs++dvs)) (Value.ref (s.heap.objs.size+1)::(us++ds)):=.cons rfl (r.append hd)
 have hl:(Value.ref (s.heap.objs.size+1)::us++ds).length=ps.length:=by
  have e:=r2.length
  rw [F.len _ _ _ _ hq] at e
  exact e.symm
 refine wpAny_call (Pl (f:=f) I.Jp M.makes M.init (beq_iff_eq.mp M.fn) (codeAny_mono (F.run _ X.stack _ _ ⟨Value.ref (s.heap.objs.size+1)::us,[]⟩ (Value.ref (s.heap.objs.size+1)::(us++ds)) _ _ E (hr.make C us [])
  (I2.Sg.make C us []) (hb _ (Value.ref (s.heap.objs.size+1)::us) I2.Jp hl) r2 hq) λr s' hq'=>?_))
 cases r with
 | error e=>exact hx pins σ _ _ e s' I2 hq'
 | ok fl =>
  cases fl with
  | ret u =>
   obtain ⟨v,H',I3,rv,ev,q3⟩:=I2.after hq'
   subst ev
   exact ⟨rv,⟨V.ref (s.heap.objs.size+1),H',I3,rfl,q3⟩⟩
  | next=>exact False.elim hq'
  | brk=>exact False.elim hq'
  | cont=>exact False.elim hq'
theorem rE (M:Mk X.K C f) (F:a7 X.prog X.w X.K X.mg X.base CX k f fd ps sp) (hr:my (k+1) X.A) (hg:Gl X x) (hm:X.mg x=some (.ref C)) (hb:Binds X.K fd ps ds) (hd:Vals dvs ds) (hx:Passes CX X E)
  (ha:PA X (e::es) t) (hdb:(x == ("__debug__":Str))=false:=by decide) (he:starEach (e::es) X.env=(false,eval e X.env)::starEach es X.env:=by rfl) (hpl:(backTo pos (starEach es X.env)).any (·.1)=false:=by rfl) :
  PE X (.Call (.Name x p) (e::es) [] pos) (QD C sp dvs E t):=by
 intro pins s σ H Q I h
 refine wpAny_Call_Name_kw (Eb I hg hm ?_ hdb)
 refine PySem.W.callWith_K (h₀:=X.base) I.ok.mod.Pn M.kp (dN (ha pos pins s σ H _ I h) λus s1 ⟨vs,H1,I1,r,q⟩=>⟨I1.Jp,?_⟩) he hpl
 exact JM M F hr hb hd hx I1 r q
theorem Fo (M:Mk X.K C f) (F:a7 X.prog X.w X.K X.mg X.base CX k f fd ps sp) (hr:my (k+1) X.A) (hg:Gl X x) (hm:X.mg x=some (.ref C)) (hb:Binds X.K fd ps ds) (hd:Vals dvs ds) (hx:Passes CX X E)
  (hdb:(x == ("__debug__":Str))=false:=by decide):PE X (.Call (.Name x p) [] [] pos) (QD C sp dvs E Nu):=by
 intro pins s σ H Q I h
 refine wpAny_Call_Name_kw (Eb I hg hm ?_ hdb)
 exact PySem.W.callWith_K0 I.Jp M.kp (JM (us:=[]) M F hr hb hd hx I .nil h)
end
structure aA (N P:List Str) (sc:Scope):Prop where
 kind:sc.kind=.function
 co:sc.isCoroutine=false
 gen:sc.isGenerator=false
 nd:N.Nodup
 pre:N.take P.length=P
 par:∀ x∈P,sc.names.lookup x=some .local∨sc.names.lookup x=some .cell
 RI:∀ y∈sc.names,y.2≠.free
theorem GU {kindOf:Str->Option NameKind} {x:Str}:∀ {binds:List (Str × Value)} {m:Str->Option Value},(∀ v,(x,v) ∉ binds)->bindL kindOf binds m x=m x
 | [],_,_=>rfl
 | (n,v)::r,m,h=>by
  unfold bindL
  rw [GU λw hw=>h w (Vl _ hw)]
  split
  ·have:x≠n:=by rintro rfl;exact h v Vi
   simp [this]
  ·rfl
theorem GC {kindOf:Str->Option NameKind} {x:Str}:∀ {binds:List (Str × Value)} {m:Str->Option Value},(∀ v,(x,v) ∉ binds)->bindC kindOf binds m x=m x
 | [],_,_=>rfl
 | (n,v)::r,m,h=>by
  unfold bindC
  rw [GC λw hw=>h w (Vl _ hw)]
  split
  ·rfl
  ·have:x≠n:=by rintro rfl;exact h v Vi
   simp [this]
theorem Gj {kindOf:Str->Option NameKind} {x:Str} {v:Value}:∀ {P:List Str} {vs:List Value} {i:Nat} {m:Str->Option Value},P.Nodup->P[i]?=some x->vs[i]?=some v->kindOf x=some .local ->
  bindL kindOf (P.zip vs) m x=some v
 | [],_,_,_,_,h,_,_=>by simp at h
 | _::_,[],_,_,_,_,h,_=>by simp at h
 | p::P,w::vs,0,m,nd,h1,h2,hk=>by
  simp at h1 h2;subst h1;subst h2
  show bindL kindOf ((p,w)::P.zip vs) m p=_
  unfold bindL
  rw [GU λv hv=>(V9.mp nd).1 (List.of_mem_zip hv).1,if_pos hk]
  simp
 | p::P,w::vs,i+1,m,nd,h1,h2,hk=>by
  show bindL kindOf ((p,w)::P.zip vs) m x=_
  unfold bindL
  exact Gj (i:=i) (V9.mp nd).2 (by simpa using h1) (by simpa using h2) hk
theorem Gn {kindOf:Str->Option NameKind} {x:Str} {v:Value}:∀ {P:List Str} {vs:List Value} {i:Nat} {m:Str->Option Value},P.Nodup->P[i]?=some x->vs[i]?=some v->kindOf x≠some .local ->
  bindC kindOf (P.zip vs) m x=some v
 | [],_,_,_,_,h,_,_=>by simp at h
 | _::_,[],_,_,_,_,h,_=>by simp at h
 | p::P,w::vs,0,m,nd,h1,h2,hk=>by
  simp at h1 h2;subst h1;subst h2
  show bindC kindOf ((p,w)::P.zip vs) m p=_
  unfold bindC
  rw [GC λv hv=>(V9.mp nd).1 (List.of_mem_zip hv).1,if_neg hk]
  simp
 | p::P,w::vs,i+1,m,nd,h1,h2,hk=>by
  show bindC kindOf ((p,w)::P.zip vs) m x=_
  unfold bindC
  exact Gn (i:=i) (V9.mp nd).2 (by simpa using h1) (by simpa using h2) hk
def start (N:List Str) (vs:List V):St:=vs.map some++WJ (N.length - vs.length) none
noncomputable def MV (CX:Np) (P:Program) (w:World) (K:UR) (mg:Str->Option Value) (base:Heap) (N:List Str) (qual:Str) (scope:Scope) (f:Addr) (cd:Value) (A:Around) (outer:List Env) (s:Shared) (H:Hp) (E:XK):Cx where
 prog:=P
 w:=w
 K:=K
 mg:=mg
 base:=base
 A:=A.deeper (envOfC qual scope s.heap.objs.size f cd)
 N:=N
 Gs:=s
 RT:=H
 env:=envOfC qual scope s.heap.objs.size f cd
 outer:=outer
 stack:=envOfC qual scope s.heap.objs.size f cd::outer
 ex:=[]
 calm:=true
 fn:=λ_=>true
 pn:=[]
 xe:=λe s'=>wpAny (model P w) (A.deeper (envOfC qual scope s.heap.objs.size f cd)) (leaving (envOfC qual scope s.heap.objs.size f cd) e) (λ_ s''=>CX outer H s E e s'') (λe' s''=>CX outer H s E e' s'') s'
theorem IS {sc:Scope} {n:Nat} {x:Str} (h:sc.names.lookup x=some .cell):∃ c,(cellsFrom n sc.names []).lookup x=some c:=by
 have q:=PySem.W.cellsFrom_some sc.names n [] (.inl h)
 exact Option.isSome_iff_exists.mp q
theorem Md {CX:Np} {P:Program} {w:World} {K:UR} {mg:Str->Option Value} {base:Heap} {N ps:List Str} {qual:Str} {scope:Scope} {f:Addr} {cd:Value} {A:Around} {outer:List Env} {s s1:Shared} {H:Hp} {E:XK} {us:List Value} {vs:List V}
  (S:aA N ps scope) (hd:A.handled=none) (e0:Ks P w K mg base A outer s H) (hl:vs.length=ps.length) (r:Vals vs us)
  (x:InCallC s s.heap.objs.size (bindL (envOfC qual scope s.heap.objs.size f cd).kindOf (ps.zip us) λ_=>none) (cellsFrom (s.heap.objs.size+1) scope.names []) (bindC (envOfC qual scope s.heap.objs.size f cd).kindOf (ps.zip us) λ_=>none) s1) :
  Inv (MV CX P w K mg base N qual scope f cd A outer s H E) [] (start N vs) H s1:=by
 have hpl:ps.length<=N.length:=by have:=congrArg List.length S.pre;rw [Vr] at this;lia
 obtain ⟨h1,tk,rfl,hk⟩:=x.done
 have noA:∀ b:Addr,b ∉ (MV CX P w K mg base N qual scope f cd A outer s H E).ex:=λb z=>absurd (show b∈([]:List Addr) from z) (by simp)
 refine ⟨⟨e0.mod,S.kind,rfl,rfl,U1 _,λy z c h1 h2=>?_,λy hy=>?_,λy c _ h=>?_,λ_=>hd,Around.frames_deeper e0.frames,.inr ⟨rfl,rfl⟩,λb z=>absurd z (noA b),e0.bs,e0.Pr,λb _ _=>noA b,λb z=>absurd z (noA b),e0.DB,e0.QZ⟩,
  rfl,e0.bare,Un.kept hk,⟨_,x.toInCall.ns,λi y v h1 h2 h3=>?_⟩,λy c h=>⟨_,x.cell y c h⟩,e0.dv.fresh (U1 _),λy c h=>?_,λp hp=>absurd (show p∈([]:List (Addr × Obj)) from hp) (by simp),e0.dv.kept hk,?_⟩
 ·exact name_of_addr x.apart (VO h1) (VO h2)
 ·have hy:scope.names.lookup y=some .cell∨scope.names.lookup y=some .free:=hy
  rcases hy with hy | hy
  ·exact IS hy
  ·exact absurd rfl (S.RI _ (VO hy))
 ·exact VN (x.above y c (VO h))
 ·have hi:i < vs.length:=by
   unfold start at h2
   by_cases hi:i < vs.length
   ·exact hi
   ·rw [WK (by simpa using hi)] at h2
    rw [List.getElem?_replicate] at h2
    split at h2<;>cases h2
  have ha:vs[i]?=some v:=by
   unfold start at h2
   rw [W2 (by simpa using hi),Vw] at h2
   cases e:vs[i]? with
   | none=>rw [e] at h2;cases h2
   | some a=>rw [e] at h2;cases h2;rfl
  obtain ⟨u,hu,rv⟩:=r.get ha
  have hp:ps[i]?=some y:=by
   rw [<- S.pre,Xg (by lia)];exact h1
  have ndP:ps.Nodup:=by rw [<- S.pre];exact S.nd.sublist (List.take_sublist _ _)
  refine ⟨u,rv,?_⟩
  rcases S.par y (Vx hp) with k | k
  ·exact .inl ⟨k,Gj ndP hp hu k⟩
  ·obtain ⟨c,e⟩:=IS (n:=s.heap.objs.size+1) k
   refine .inr ⟨.inl k,c,e,?_⟩
   have q:=x.cell y c e
   rw [Gn ndP hp hu (by show scope.names.lookup y≠_;rw [k];decide)] at q
   exact q
 ·exact e0.dv.fresh (VN (x.above y c (VO h)))
 ·unfold start
  show _=N.length
  rw [VD,UT,WL]
  lia
theorem Tj {CX:Np} {P:Program} {w:World} {K:UR} {mg:Str->Option Value} {base:Heap} {k:Nat} {f:Addr} {name qual:Str} {params:Arguments} {body:List Stmt} {scope:Scope} {dV kV doc pm cdv ct oc:Value} {an od:Option Addr}
  {osl:Array (Option Value)} {N ps:List Str} {sp:Sp} (lk:K.lookup f=some ⟨oc,od,.func (Wa name qual params body scope dV kV doc pm an cdv ct),osl⟩) (hcd:W3 K cdv qual=true) (S:aA N ps scope)
  (len:∀ vs H Q E,sp vs H Q E->vs.length=ps.length)
  (hbody:∀ (A:Around) (outer:List Env) (s:Shared) (H:Hp) (vs:List V) (Q:VK) (E:XK),my k (A.deeper (envOfC qual scope s.heap.objs.size f cdv))->sp vs H Q E ->
   ∃ t,Mx (MV CX P w K mg base N qual scope f cdv A outer s H E) body t/\t { nx:=λ_ H'=>Q .dF H',rt:=Q } (start N vs) H) :
  a7 P w K mg base CX (k+1) f (Wa name qual params body scope dV kV doc pm an cdv ct) ps sp:=by
 refine ⟨len,λA outer s H args us vs Q E hr e0 hb r hsp=>?_⟩
 have hl:=len _ _ _ _ hsp
 have KX:K.In s.heap:=e0.mod.Pn.keeps λb o e=>(e0.bs b o e).1
 have lim:s.heap.NoLimit:=e0.mod.nolimit.keeps λb o e=>(e0.bs b o e).1
 have hkind:∀ y∈ps.zip us,scope.names.lookup y.1=some .local∨(scope.names.lookup y.1=some .cell/\((cellsFrom (s.heap.objs.size+1) scope.names []).lookup y.1).isSome=true):=λ⟨n,v⟩ hy=>by
  rcases S.par n (List.of_mem_zip hy).1 with q | q
  ·exact .inl q
  ·exact .inr ⟨q,PySem.W.cellsFrom_some _ _ _ (.inl q)⟩
 refine codeAny_call_function hr.depth (KX _ _ lk) rfl S.co S.gen rfl (PySem.W.codeRec_of KX hcd) (hb _ _ _ _ ?_)
 refine wpAny_newFunctionEnv_cells S.kind hkind λenv he s1 x=>?_
 subst he
 refine ⟨lim.keeps x.toInCall.keep,codeAny_func ?_⟩
 obtain ⟨t,ht,hq⟩:=hbody A outer s H vs Q E (hr.deeper _) hsp
 have I:Inv (MV CX P w K mg base N qual scope f cdv A outer s H E) [] (start N vs) H s1:=Md S hr.hd e0 hl r x
 refine wpAny_mono (ht [] s1 (start N vs) H _ I hq) (λfl s' hs=>?_) λe s' hs=>hs
 have fin:∀ {σ':St} {H':Hp} {v:V} {u:Value},Inv (MV CX P w K mg base N qual scope f cdv A outer s H E) [] σ' H' s'->RelV v u->Q v H'->CE outer P w H s Q u s' :=
  λ{σ' H' v u} J rv q=>⟨v,H',J.os,J.bare,J.base,J.dv,rv,q⟩
 cases fl with
 | ret u =>
  obtain ⟨v,σ',H',J,rv,q⟩:=hs
  exact fin J rv q
 | next =>
  obtain ⟨σ',H',J,q⟩:=hs
  exact fin (v:=V.dF) (u:=Value.none) J rfl q
 | brk =>
  obtain ⟨_,_,_,q⟩:=hs
  exact False.elim q
 | cont =>
  obtain ⟨_,_,_,q⟩:=hs
  exact False.elim q
end L2
namespace L2
open PySem PySem.Spec PyProof.Rows
section
variable {X:Cx} {x:Str} {p pos:Pos} {e:Expr} {es:List Expr} {t:TA} {id T:String} {r:List V->Hp->VK->Prop}
def Uz (r:List V->Hp->VK->Prop) (t:TA):TE:=λσ H Q=>t σ H λvs H1=>r vs H1 Q
theorem aT (hc:m6 X (.builtin id) r) (hg:Gl X x) (hm:X.mg x=none) (hv:bootBuiltins x=some (.builtin id)) (ha:PA X (e::es) t) (hn:x≠"__name__":=by decide) (hdb:(x == ("__debug__":Str))=false:=by decide)
  (he:starEach (e::es) X.env=(false,eval e X.env)::starEach es X.env:=by rfl) (hpl:(backTo pos (starEach es X.env)).any (·.1)=false:=by rfl):PE X (.Call (.Name x p) (e::es) [] pos) (Uz r t):=by
 intro pins s σ H Q I h
 refine wpAny_Call_Name_kw (Hh I hg hm hv ?_ hn hdb)
 exact PyProof.Rows.callWith_builtin1 (dN (ha pos pins s σ H _ I h) λus s1 ⟨vs,H1,I1,r1,q1⟩=>hc pins s1 σ H1 vs us Q I1 r1 q1) he hpl
theorem gb (hc:m6 X (.type T) r) (hg:Gl X x) (hm:X.mg x=none) (hv:bootBuiltins x=some (.type T)) (ha:PA X (e::es) t) (hn:x≠"__name__":=by decide) (hdb:(x == ("__debug__":Str))=false:=by decide)
  (he:starEach (e::es) X.env=(false,eval e X.env)::starEach es X.env:=by rfl) (hpl:(backTo pos (starEach es X.env)).any (·.1)=false:=by rfl):PE X (.Call (.Name x p) (e::es) [] pos) (Uz r t):=by
 intro pins s σ H Q I h
 refine wpAny_Call_Name_kw (Hh I hg hm hv ?_ hn hdb)
 exact PyProof.Rows.callWith_type1 (dN (ha pos pins s σ H _ I h) λus s1 ⟨vs,H1,I1,r1,q1⟩=>hc pins s1 σ H1 vs us Q I1 r1 q1) he hpl
end
end L2
namespace HT
open PySem PyProof.Rows
section
variable {prog:Program} {w:World} {A:Around} {E:Value->Shared->Prop} {s:Shared}
def p7 (n d:Nat):Option Int->Nat
 | none=>d
 | some v=>if v < 0 then (v+(n:Int)).toNat else min v.toNat n
theorem DW (n d k:Nat):p7 n d (some (k:Int))=min k n:=by
 show (if (k:Int) < 0 then ((k:Int)+(n:Int)).toNat else min (k:Int).toNat n)=min k n
 rw [if_neg (by lia),WM]
theorem QX (n d:Nat) (hd:d<=n) (o:Option Int):p7 n d o<=n:=by
 cases o with
 | none=>exact hd
 | some v =>
  show (if v < 0 then (v+(n:Int)).toNat else min v.toNat n)<=n
  by_cases hv:v < 0
  ·rw [if_pos hv];lia
  ·rw [if_neg hv];exact Nat.min_le_right _ _
theorem Lz (v:Int) (n d:Nat):(if v < 0 then max (v+(n:Int)) 0 else min v (n:Int))=((p7 n d (some v):Nat):Int):=by
 show (if v < 0 then max (v+(n:Int)) 0 else min v (n:Int))=(((if v < 0 then (v+(n:Int)).toNat else min v.toNat n):Nat):Int)
 by_cases hv:v < 0
 ·simp only [if_pos hv];lia
 ·simp only [if_neg hv];lia
theorem KG (lo hi:Option Int) (n:Nat):Builtin.Slice.sliceAdjust lo hi 1 (n:Int)=(((p7 n 0 lo:Nat):Int),((p7 n n hi:Nat):Int)):=by
 have h1:¬ ((1:Int) < 0):=by lia
 unfold Builtin.Slice.sliceAdjust
 simp only [h1,if_false]
 refine Prod.ext ?_ ?_
 ·cases lo with
  | none=>rfl
  | some v=>exact Lz v n 0
 ·cases hi with
  | none=>rfl
  | some v=>exact Lz v n n
theorem KR (i j:Nat):Builtin.Slice.slicePlaces (i:Int) (j:Int) 1=j - i:=by
 unfold Builtin.Slice.slicePlaces
 have h1:(1:Int) > 0:=by exact V7 _
 simp only [h1,if_true,Int.ediv_one]
 split<;>lia
theorem Fn {v:Value} {o:Option Int} {Q:Option Int->Shared->Prop} (p:IsPart v o) (h:Q o s):wpAny (model prog w) A (Builtin.Slice.slicePartIndex v) Q E s:=by
 cases p with
 | none=>exact slicePart_none h
 | int i t=>exact slicePart_int h
theorem Ce {sl:Addr} {vl vu:Value} {lo hi:Option Int} {n:Nat} {Q:Int × Int × Nat->Shared->Prop} (hs:s.heap.IsSliceOf sl vl vu .none) (pl:IsPart vl lo) (pu:IsPart vu hi)
  (h:Q (((p7 n 0 lo:Nat):Int),1,p7 n n hi - p7 n 0 lo) s):wpAny (model prog w) A (Builtin.Slice.sliceApplied (.ref sl) (pure (n:Int))) Q E s:=by
 obtain ⟨os,hos,hcs,hds⟩:=id hs
 unfold Builtin.Slice.sliceApplied Builtin.Slice.sliceFields
 refine wpAny_bind (wpAny_bind (wpAny_field hos hds (x:=vl) rfl (wpAny_bind (wpAny_field hos hds (x:=vu) rfl (wpAny_bind (wpAny_field hos hds (x:=.none) rfl (wpAny_pure ?_)))))))
 refine wpAny_bind (slicePart_none ?_)
 show wpAny _ _ (if ((1:Int) == 0)=true then _ else _) _ _ s
 rw [if_neg (by decide)]
 refine wpAny_bind (Fn pl (wpAny_bind (Fn pu (wpAny_bind (wpAny_pure ?_)))))
 show wpAny _ _ (match Builtin.Slice.sliceAdjust lo hi 1 (n:Int) with | (lo,hi)=>pure (lo,(1:Int),Builtin.Slice.slicePlaces lo hi 1)) _ _ s
 rw [KG lo hi n]
 show wpAny _ _ (pure (((p7 n 0 lo:Nat):Int),(1:Int),Builtin.Slice.slicePlaces ((p7 n 0 lo:Nat):Int) ((p7 n n hi:Nat):Int) 1)) _ _ s
 rw [KR]
 exact wpAny_pure h
theorem NZ (xs:Array Value) (i k:Nat):((List.range k).filterMap λ(m:Nat)=>xs[((i:Int)+(m:Int) * 1).toNat]?).toArray=((xs.toList.drop i).take k).toArray:=by
 have e:(λ(m:Nat)=>xs[((i:Int)+(m:Int) * 1).toNat]?)=λm=>xs[i+m]?:=by
  funext m
  have:((i:Int)+(m:Int) * 1).toNat=i+m:=by lia
  rw [this]
 rw [e]
 have:=pick_run xs i k
 rw [List.filterMap_map] at this
 have e2:((λx=>xs[x]?) ∘ λx=>i+x)=λm=>xs[i+m]?:=rfl
 rw [e2] at this
 rw [this]
theorem AY {t sl:Addr} {items:Array Value} {vl vu:Value} {lo hi:Option Int} {Q:Value->Shared->Prop} (ht:IsTup s.heap t items) (hs:s.heap.IsSliceOf sl vl vu .none) (pl:IsPart vl lo) (pu:IsPart vu hi)
  (hw:¬ (p7 items.size 0 lo=0/\p7 items.size items.size hi=items.size))
  (h:Q (.ref s.heap.objs.size) { s with heap:=s.heap.push { cls:=.type "tuple",data:=.seq ((items.toList.drop (p7 items.size 0 lo)).take (p7 items.size items.size hi - p7 items.size 0 lo)).toArray } })
  (hsz:items.size<=sizeLine):wpAny (model prog w) A (getItem (.ref t) (.ref sl)) Q E s:=by
 have htake:sizeOk (.seq ((items.toList.drop (p7 items.size 0 lo)).take (p7 items.size items.size hi - p7 items.size 0 lo)).toArray):=by
  show ((items.toList.drop (p7 items.size 0 lo)).take (p7 items.size items.size hi - p7 items.size 0 lo)).toArray.size<=sizeLine
  rw [Vf,Vr,W4,Array.length_toList]
  lia
 have hj:p7 items.size items.size hi<=items.size:=QX _ _ (U1 _) hi
 obtain ⟨os,hos,hcs,hds⟩:=id hs
 have hTs:s.TypeIs (.ref sl) "slice":=⟨os,hos,hcs⟩
 unfold getItem
 try with_reducible refine wpAny_holding ?_
 first | refine wpAny_bind (wpAny_pure ?_) | skip
 refine wpAny_bind (wpAny_sequenceKey ht.typeIs (by decide) ?_)
 refine wpAny_bind (wpAny_callSpecial?_slot (name:=Str.ofString "__getitem__") ht.typeIs PyProof.Rows.slot_tuple_getitem
  (wpAny_call_entry PyProof.Rows.slot_tuple_getitem ht.typeIs entry_tuple_getitem ?_ (args_tuple_getitem _ _)))
 show wpAny _ _ (Builtin.Tuple.tupleItemsOf (.ref t) >>= _) _ _ s
 refine wpAny_bind (tupleItemsOf_ ht ?_)
 refine wpAny_bind (wpAny_typeOf hTs ?_)
 rw [if_pos (by decide)]
 refine wpAny_bind (Ce hs pl pu ?_)
 have hno:¬ ((((p7 items.size 0 lo:Nat):Int) == 0&&(1:Int) == 1&&(p7 items.size items.size hi - p7 items.size 0 lo) == items.size)=true):=by
  intro q
  rw [U6,U6] at q
  have q1:((p7 items.size 0 lo:Nat):Int)=0:=eq_of_beq q.1.1
  have q2:p7 items.size items.size hi - p7 items.size 0 lo=items.size:=eq_of_beq q.2
  exact hw ⟨by lia,by lia⟩
 show wpAny _ _ (if (((p7 items.size 0 lo:Nat):Int) == 0&&(1:Int) == 1&&(p7 items.size items.size hi - p7 items.size 0 lo) == items.size)=true then _ else _) _ _ s
 rw [if_neg hno,NZ]
 first
  | exact wpAny_bind (m:=Builtin.Tuple.tupleExact _) (wpAny_newObj_type (wpAny_pure ⟨_,rfl,wpAny_pure h⟩) htake)
  | exact wpAny_bind (m:=Builtin.Tuple.tupleExact _) (wpAny_newObj_type (wpAny_bind (wpAny_pure (wpAny_pure ⟨_,rfl,wpAny_pure h⟩))) htake)
  | exact wpAny_bind (wpAny_bind (m:=Builtin.Tuple.tupleExact _) (wpAny_newObj_type (wpAny_pure (wpAny_pure ⟨_,rfl,wpAny_pure h⟩)) htake))
  | exact wpAny_bind (wpAny_bind (m:=Builtin.Tuple.tupleExact _) (wpAny_newObj_type (wpAny_pure ⟨_,rfl,wpAny_pure h⟩) htake))
end
end HT
namespace L2
open PySem PySem.Spec PyProof.Rows
abbrev TO:=St->Hp->(Option Int->Hp->Prop)->Prop
def PO (X:Cx) (e:Option Expr) (t:TO):Prop :=
 ∀ (pins:List (Addr × Obj)) (s:Shared) (σ:St) (H:Hp) (Q:Option Int->Hp->Prop),Inv X pins σ H s->t σ H Q ->
  wpAny (model X.prog X.w) X.A (evalPart e X.env) (λu s'=>∃ o H',Inv X pins σ H' s'/\IsPart u o/\Q o H') X.xe s
def P5:TO:=λ_ H Q=>Q none H
def SY (t:TE):TO:=λσ H Q=>t σ H λx H1=>∃ i,x=.int i/\Q (some i) H1
section
variable {X:Cx} {e:Expr} {te:TE} {lo hi:Option Expr} {tl th:TO} {pos p2:Pos}
theorem L9:PO X none P5:=by
 intro pins s σ H Q I h
 rw [evalPart_none]
 exact wpAny_pure ⟨none,H,I,.none,h⟩
theorem zw (h:PE X e te):PO X (some e) (SY te):=by
 intro pins s σ H Q I hw
 rw [evalPart_some]
 refine dN (h pins s σ H _ I hw) λu s1 ⟨x,H1,I1,r1,q1⟩=>?_
 obtain ⟨i,rfl,q⟩:=q1
 obtain ⟨t,rfl⟩:=r1
 exact ⟨some i,H1,I1,.int i t,q⟩
def SS (X:Cx) (r:V->Option Int->Option Int->Hp->VK->Prop):Prop :=
 ∀ (pins:List (Addr × Obj)) (s:Shared) (σ:St) (H:Hp) (x:V) (v vl vu:Value) (lo hi:Option Int) (sl:Addr) (Q:VK),Inv X pins σ H s->RelV x v->s.heap.IsSliceOf sl vl vu .none->IsPart vl lo->IsPart vu hi->r x lo hi H Q ->
  ∃ T id,typeLookup (.type T) "__getitem__"=pure (some (.builtin id))/\s.TypeIs v T/\wpAny (model X.prog X.w) X.A (getItem v (.ref sl)) (EP X pins σ Q) X.xe s
def UJ (r:V->Option Int->Option Int->Hp->VK->Prop) (te:TE) (tl th:TO):TE:=λσ H Q=>te σ H λx H1=>tl σ H1 λl H2=>th σ H2 λu H3=>r x l u H3 Q
theorem AW {r:V->Option Int->Option Int->Hp->VK->Prop} (hr:SS X r) (he:PE X e te) (hl:PO X lo tl) (hu:PO X hi th):PE X (.Subscript e (.Slice lo hi none p2) pos) (UJ r te tl th):=by
 intro pins s σ H Q I h
 refine Subscript_ (dN (he pins s σ H _ I h) λv s1 ⟨x,H1,I1,r1,q1⟩=>?_)
 refine wpAny_Slice (dN (hl pins s1 σ H1 _ I1 q1) λvl s2 ⟨l,H2,I2,pl,q2⟩=>dN (hu pins s2 σ H2 _ I2 q2) λvu s3 ⟨u,H3,I3,pu,q3⟩=>?_)
 rw [evalPart_none]
 refine wpAny_pure ?_
 have I4:Inv X pins σ H3 { s3 with heap:=s3.heap.push { cls:=.type "slice",data:=.fields #[vl,vu,.none] } }:=I3.kept (t':=s3.toks) λb ob q=>Heap.get?_push_of_some _ q
 obtain ⟨T,id,hT,ht,hg⟩:=hr pins { s3 with heap:=s3.heap.push { cls:=.type "slice",data:=.fields #[vl,vu,.none] } } σ H3 x v vl vu l u s3.heap.objs.size Q I4 r1 (Heap.IsSliceOf.new ..) pl pu q3
 show wpAny (model X.prog X.w) X.A (subscriptTail e (.Slice lo hi none p2) v (.ref s3.heap.objs.size)) (EP X pins σ Q) X.xe { s3 with heap:=s3.heap.push { cls:=.type "slice",data:=.fields #[vl,vu,.none] } }
 exact tail_any (ops:=[.ref s3.heap.objs.size,v]) ht hT hg (by with_unfolding_all rfl)
def zQ (xs:List V) (lo hi:Option Int):List V:=(xs.drop (HT.p7 xs.length 0 lo)).take (HT.p7 xs.length xs.length hi - HT.p7 xs.length 0 lo)
theorem C6 (xs:List V) (lo hi:Option Int):(zQ xs lo hi).length<=xs.length:=by
 unfold zQ
 rw [Vr,W4]
 lia
def Sv (K:UR):V->Option Int->Option Int->Hp->VK->Prop:=λx lo hi H Q=>∃ a xs,x=.ref a/\gg K H a xs /\
 ¬ (HT.p7 xs.length 0 lo=0/\HT.p7 xs.length xs.length hi=xs.length)/\∀ p,H p=none->Q (.ref p) (upd H p (.tup (zQ xs lo hi)))
theorem Rq:SS X (Sv X.K):=by
 intro pins s σ H x v vl vu lo hi sl Q I rx hs pl pu h
 obtain ⟨a,xs,rfl,hx,hw,q⟩:=h
 cases rx
 obtain ⟨its,r,ht,hz⟩:=I.tuple hx
 have hlen:its.toArray.size=xs.length:=by rw [Vf];exact r.length.symm
 refine ⟨"tuple",_,PyProof.Rows.slot_tuple_getitem.lookup,ht.typeIs,?_⟩
 refine HT.AY ht hs pl pu (by rw [hlen];exact hw) ?_ (by rw [hlen];exact hz)
 rw [hlen]
 refine ⟨.ref s.heap.objs.size,_,I.laid (t':=s.toks) (o:=.tup (zQ xs lo hi)) (λb ob q=>Heap.get?_push_of_some _ q) (U1 _) ?_,rfl,q _ (I.dv.fresh (U1 _))⟩
 exact ⟨U8 (C6 xs lo hi) hz,_,(r.drop (HT.p7 xs.length 0 lo)).take (HT.p7 xs.length xs.length hi - HT.p7 xs.length 0 lo),IsTup.new _ _⟩
end
end L2
namespace L2
open PySem PySem.Spec PyProof.Rows
def Pp (n:Nat) (i:Int):Option Nat:=if 0<=i then (if i < n then some i.toNat else none) else if -(n:Int)<=i then some (i+n).toNat else none
def J9 {α:Type} (xs:List α) (i:Int):Option α:=(Pp xs.length i).bind λj=>xs[j]?
theorem Lj {n:Nat} {i:Int} {j:Nat} (h:Pp n i=some j):seqIndex? i n=some j/\j < n/\-(n:Int)<=i/\i < n:=by
 unfold Pp at h
 by_cases h0:0<=i
 ·rw [if_pos h0] at h
  by_cases h1:i < n
  ·rw [if_pos h1] at h
   have e:i.toNat=j:=Option.some.inj h
   exact ⟨by rw [seqIndex_of h0 h1,e],by lia,by lia,h1⟩
  ·rw [if_neg h1] at h;cases h
 ·rw [if_neg h0] at h
  by_cases h1:-(n:Int)<=i
  ·rw [if_pos h1] at h
   have e:(i+n).toNat=j:=Option.some.inj h
   exact ⟨by rw [seqIndex_neg (by lia) h1,e],by lia,h1,by lia⟩
  ·rw [if_neg h1] at h;cases h
theorem LY {α:Type} {xs:List α} {i:Int} {v:α} (h:J9 xs i=some v):∃ j,seqIndex? i xs.length=some j/\xs[j]?=some v/\j < xs.length/\-(xs.length:Int)<=i/\i < xs.length:=by
 unfold J9 at h
 cases e:Pp xs.length i with
 | none=>rw [e] at h;cases h
 | some j =>
  rw [e] at h
  obtain ⟨h1,h2,h3,h4⟩:=Lj e
  exact ⟨j,h1,h,h2,h3,h4⟩
theorem Px {α:Type} {xs:List α} {j:Nat} {v:α} (h:xs[j]?=some v):J9 xs (j:Int)=some v:=by
 have hj:j < xs.length:=(Vn.mp h).1
 have e:Pp xs.length (j:Int)=some j:=by
  unfold Pp
  rw [if_pos (by exact V7 _),if_pos (by lia)];simp
 unfold J9;rw [e];exact h
def PQ (b:Expr):Prop:=∀ o i,subscripted b false o i=operate [o,i] (getItem o i)
def SA (X:Cx) (r:R2):Prop :=
 ∀ (value slice:Expr) (pins:List (Addr × Obj)) (s:Shared) (σ:St) (H:Hp) (x y:V) (v u:Value) (Q:VK),Inv X pins σ H s->RelV x v->RelV y u->r x y H Q ->
  subscripted slice false v u=operate [v,u] (getItem v u)->wpAny (model X.prog X.w) X.A (subscriptTail value slice v u) (EP X pins σ Q) X.xe s
def Q3 (X:Cx) (id:String) (r:V->List V->Hp->VK->Prop):Prop :=
 ∀ (pins:List (Addr × Obj)) (s:Shared) (σ:St) (H:Hp) (x:V) (xs:List V) (v:Value) (us:List Value) (Q:VK),Inv X pins σ H s->RelV x v->Vals xs us->r x xs H Q ->
  wpAny (model X.prog X.w) X.A (call (.builtin id) (v::us)) (EP X pins σ Q) X.xe s
section
variable {X:Cx} {a b:Expr} {ta tb:TE} {pos:Pos}
theorem aJ {r:R2} (hr:SA X r) (ha:PE X a ta) (hb:PE X b tb) (hs:PQ b):PE X (.Subscript a b pos) (TF r ta tb):=by
 intro pins s σ H Q I h
 exact Subscript_ (Q7 ha hb I h λv u s2 x y H2 I2 rx ry q=>hr a b pins s2 σ H2 x y v u Q I2 rx ry q (hs _ _))
def Sz (K:UR):R2:=λx y H Q=>∃ p xs i v,x=.ref p/\y=.int i/\bc K H p xs/\J9 xs i=some v/\Q v H
def SM (K:UR):R2:=λx y H Q=>∃ p xs i v,x=.ref p/\y=.int i/\gg K H p xs/\J9 xs i=some v/\Q v H
theorem PH:SA X (Sz X.K):=by
 intro value slice pins s σ H x y v u Q I rx ry h hs
 obtain ⟨p,xs,i,z,rfl,rfl,hq,he,q⟩:=h
 cases rx
 obtain ⟨t,rfl⟩:=ry
 obtain ⟨its,r,pl,hz⟩:=I.list hq
 obtain ⟨j,h1,h2,h3,h4,h5⟩:=LY he
 obtain ⟨w,ew,rw'⟩:=r.get h2
 have hl:=r.length
 have hn:=EM
 have fin:EP X pins σ Q w s:=⟨z,H,I,rw',q⟩
 by_cases h0:0<=i
 ·have hj:i.toNat=j:=by
   rw [seqIndex_of h0 h5] at h1
   exact Option.some.inj h1
  exact item_listR pl.isList h0 (by lia) (by rw [hj];simpa using ew) fin hs
 ·have hj:(i+(its.toArray.size:Int)).toNat=j:=by
   rw [seqIndex_neg (by lia) h4] at h1
   rw [Vf,<- hl]
   exact Option.some.inj h1
  exact subscriptTail_builtinR (x:=w) pl.isList.typeIs slot_list_getitem.lookup
   (wpAny_getItem_list_neg (Q:=λr s'=>r=w/\EP X pins σ Q r s') pl.isList (by lia) (by rw [Vf]<;>lia) (by lia) (by rw [hj];simpa using ew) ⟨rfl,fin⟩) hs
theorem QT:SA X (SM X.K):=by
 intro value slice pins s σ H x y v u Q I rx ry h hs
 obtain ⟨p,xs,i,z,rfl,rfl,hq,he,q⟩:=h
 cases rx
 obtain ⟨t,rfl⟩:=ry
 obtain ⟨its,r,pl,hz⟩:=I.tuple hq
 obtain ⟨j,h1,h2,h3,h4,h5⟩:=LY he
 obtain ⟨w,ew,rw'⟩:=r.get h2
 have hl:=r.length
 have hn:=EM
 have fin:EP X pins σ Q w s:=⟨z,H,I,rw',q⟩
 exact subscriptTail_builtinR (x:=w) pl.typeIs slot_tuple_getitem.lookup
  (getItem_tuple (j:=j) (Q:=λr s'=>r=w/\EP X pins σ Q r s') pl (by lia) (by lia) (by rw [Vf,<- hl];exact h1) (by simpa using ew) ⟨rfl,fin⟩) hs
theorem KJ (its:List Value) (n j:Nat) (u:Value):Obj.mapSeq (·.setIfInBounds j u) { cls:=.type "list",data:=.seq its.toArray n }={ cls:=.type "list",data:=.seq (its.set j u).toArray n }:=by
 simp [Obj.mapSeq]
theorem Inv.lst {pins:List (Addr × Obj)} {σ:St} {H:Hp} {s:Shared} {p:Addr} {xs:List V} (I:Inv X pins σ H s) (h:H p=some (.lst xs)) :
  ∃ (its:List Value) (n:Nat),Vals xs its/\s.heap.get? p=some { cls:=.type "list",data:=.seq its.toArray n }/\xs.length<=sizeLine:=by
 obtain ⟨z,its,n,r,e⟩:=I.dv p _ h
 exact ⟨its,n,r,e,z⟩
theorem Inv.R0 {pins:List (Addr × Obj)} {σ:St} {H:Hp} {s:Shared} {p:Addr} {xs ys:List V} {its its':List Value} {n n':Nat} {f:Obj->Obj} (I:Inv X pins σ H s) (h:H p=some (.lst xs))
  (ho:s.heap.get? p=some { cls:=.type "list",data:=.seq its.toArray n }) (hf:f { cls:=.type "list",data:=.seq its.toArray n }={ cls:=.type "list",data:=.seq its'.toArray n' }) (r:Vals ys its') (hz:ys.length<=sizeLine) (t:Nat) :
  Inv X pins σ (upd H p (.lst ys)) { s with heap:=s.heap.update p f,toks:=t }:=by
 have e:(s.heap.update p f).get? p=some { cls:=.type "list",data:=.seq its'.toArray n' }:=by
  rw [Heap.get?_update_self f ho (by rw [hf]<;>rfl),hf]
 refine I.write (x:=p) (e:=p) (by rw [h];trivial) (.inl rfl) (λb u hb q=>(Heap.get?_update_other _ _ (Ne.symm hb)).trans q) ⟨_,e⟩ ?_
 exact ⟨hz,its',n',r,e⟩
def Te:V->V->V->Hp->(Hp->Prop)->Prop:=λo i v H Q=>∃ p xs k j,o=.ref p/\i=.int k/\H p=some (.lst xs)/\Pp xs.length k=some j/\Q (upd H p (.lst (xs.set j v)))
theorem set_list:Sf X Te:=by
 intro pins s σ H o i v ov iv u Q I ro ri rv h
 obtain ⟨p,xs,k,j,rfl,rfl,hp,hj,q⟩:=h
 cases ro
 obtain ⟨t,rfl⟩:=ri
 obtain ⟨its,n,r,ho,hz⟩:=I.lst hp
 obtain ⟨h1,h2,h3,h4⟩:=Lj hj
 have hl:=r.length
 have hn:=EM
 have I':Inv X pins σ (upd H p (.lst (xs.set j v))) { s with heap:=s.heap.update p (Obj.mapSeq (·.setIfInBounds j u)) } :=
  I.R0 hp ho (KJ its n j u) (r.set rv j) (by rw [Vs];exact hz) s.toks
 by_cases h0:0<=k
 ·have hk:k.toNat=j:=by
   rw [seqIndex_of h0 h4] at h1
   exact Option.some.inj h1
  exact PySem.W.ki_setAt ho h0 (by lia) (by rw [Vf,<- hl];exact h4) (by rw [hk];exact ⟨_,I',q⟩)
 ·have hk:(k+(its.toArray.size:Int)).toNat=j:=by
   rw [seqIndex_neg (by lia) h3] at h1
   rw [Vf,<- hl]
   exact Option.some.inj h1
  exact PySem.W.ki_setBack ho (by lia) (by rw [Vf,<- hl];exact h3) (by lia) (by rw [hk];exact ⟨_,I',q⟩)
theorem Hk (lo hi:Option Int) (n:Nat):(sliceBounds lo hi none n).1=((HT.p7 n 0 lo:Nat):Int)/\(sliceBounds lo hi none n).2.1=((HT.p7 n n hi:Nat):Int)/\(sliceBounds lo hi none n).2.2=1:=by
 refine ⟨?_,?_,rfl⟩
 ·cases lo with
  | none=>simp [sliceBounds,HT.p7]
  | some i =>
   simp only [sliceBounds,HT.p7,Option.getD_none,show (1:Int) > 0 by decide,if_true]
   by_cases h:i < 0
   ·simp only [h,if_true]<;>lia
   ·simp only [h,if_false]<;>lia
 ·cases hi with
  | none=>simp [sliceBounds,HT.p7]
  | some i =>
   simp only [sliceBounds,HT.p7,Option.getD_none,show (1:Int) > 0 by decide,if_true]
   by_cases h:i < 0
   ·simp only [h,if_true]<;>lia
   ·simp only [h,if_false]<;>lia
theorem FR (its:List Value) (lo hi:Option Int):slicePick its.toArray lo hi none=((its.drop (HT.p7 its.length 0 lo)).take (HT.p7 its.length its.length hi - HT.p7 its.length 0 lo)).toArray:=by
 obtain ⟨h1,h2,h3⟩:=Hk lo hi its.toArray.size
 unfold slicePick
 rw [h1,h2,h3]
 simp only [sliceRange_one,pick_run,Vf]<;>rfl
def Sw (K:UR):V->Option Int->Option Int->Hp->VK->Prop:=λx lo hi H Q=>∃ a xs,x=.ref a/\bc K H a xs/\∀ p,H p=none->Q (.ref p) (upd H p (.lst (zQ xs lo hi)))
theorem P2:SS X (Sw X.K):=by
 intro pins s σ H x v vl vu lo hi sl Q I rx hs pl pu h
 obtain ⟨a,xs,rfl,hx,q⟩:=h
 cases rx
 obtain ⟨its,r,ht,hz⟩:=I.list hx
 have hlen:=r.length
 refine ⟨"list",_,slot_list_getitem.lookup,ht.isList.typeIs,?_⟩
 refine wpAny_getItem_list_slice ht.isList hs pl pu .none (by simp) ?_ (by rw [Vf]<;>lia)
 rw [FR,<- hlen]
 refine ⟨.ref s.heap.objs.size,_,I.laid (t':=s.toks) (o:=.lst (zQ xs lo hi)) (λb ob q=>Heap.get?_push_of_some _ q) (U1 _) ?_,rfl,q _ (I.dv.fresh (U1 _))⟩
 exact ⟨U8 (C6 xs lo hi) hz,_,0,(r.drop (HT.p7 xs.length 0 lo)).take (HT.p7 xs.length xs.length hi - HT.p7 xs.length 0 lo),Heap.get?_push_size _ rfl⟩
def BD:V->Bool
 | .dF=>true
 | .bl _=>true
 | .int _=>true
 | .str _=>true
 | _=>false
noncomputable def N8:V->V->Bool
 | .dF,.dF=>true
 | .bl a,.bl b=>a == b
 | .bl a,.int b=>(if a then 1 else 0) == b
 | .int a,.bl b=>a == (if b then 1 else 0)
 | .int a,.int b=>a == b
 | .str a,.str b=>a == b
 | _,_=>false
theorem RJ {A:Around} {s:Shared} {y x:V} {u v:Value} (ry:RelV y u) (rx:RelV x v) (fy:BD y=true) (fx:BD x=true):SeqAt.EqAt A s u v (N8 y x):=by
 cases y with
 | dF =>
  cases ry
  cases x with
  | dF=>cases rx;exact SeqAt.EqAt.same _
  | bl b=>cases rx;exact SeqAt.EqAt.none_bool b
  | int b=>obtain ⟨t,rfl⟩:=rx;exact SeqAt.EqAt.none_int b t
  | str b=>obtain ⟨t,rfl⟩:=rx;exact SeqAt.EqAt.none_str b t
  | _=>exact absurd (show false=true from fx) Vo
 | bl a =>
  cases ry
  cases x with
  | dF=>cases rx;exact SeqAt.EqAt.bool_none a
  | bl b=>cases rx;exact SeqAt.EqAt.bool_bool a b
  | int b=>obtain ⟨t,rfl⟩:=rx;exact SeqAt.EqAt.bool_int a b t
  | str b=>obtain ⟨t,rfl⟩:=rx;exact SeqAt.EqAt.bool_str a b t
  | _=>exact absurd (show false=true from fx) Vo
 | int a =>
  obtain ⟨t',rfl⟩:=ry
  cases x with
  | dF=>cases rx;exact SeqAt.EqAt.int_none a t'
  | bl b=>cases rx;exact SeqAt.EqAt.int_bool a t' b
  | int b=>obtain ⟨t,rfl⟩:=rx;exact SeqAt.EqAt.int_int a t' b t
  | str b=>obtain ⟨t,rfl⟩:=rx;exact SeqAt.EqAt.int_str a t' b t
  | _=>exact absurd (show false=true from fx) Vo
 | str a =>
  obtain ⟨t',rfl⟩:=ry
  cases x with
  | dF=>cases rx;exact SeqAt.EqAt.str_none a t'
  | bl b=>cases rx;exact SeqAt.EqAt.str_bool a t' b
  | int b=>obtain ⟨t,rfl⟩:=rx;exact SeqAt.EqAt.str_int a t' b t
  | str b=>obtain ⟨t,rfl⟩:=rx;exact SeqAt.EqAt.str_str a t' b t
  | _=>exact absurd (show false=true from fx) Vo
 | _=>exact absurd (show false=true from fy) Vo
def Kn (x:V) (u:Value):Bool:=match u with
 | .none=>N8 .dF x
 | .bool b=>N8 (.bl b) x
 | .int i _=>N8 (.int i) x
 | .str z _=>N8 (.str z) x
 | _=>false
theorem OW {x y:V} {u:Value} (r:RelV y u) (f:BD y=true):Kn x u=N8 y x:=by
 cases y with
 | dF=>cases r;rfl
 | bl b=>cases r;rfl
 | int i=>obtain ⟨t,rfl⟩:=r;rfl
 | str z=>obtain ⟨t,rfl⟩:=r;rfl
 | _=>exact absurd (show false=true from f) Vo
theorem BM {x:V}:∀ {xs:List V} {us:List Value},Vals xs us->xs.all BD=true->us.any (Kn x)=xs.any λy=>N8 y x
 | _,_,.nil,_=>rfl
 | y::xs,u::us,.cons r t,f=>by
  rw [W5,U6] at f
  rw [VP,VP,OW r f.1,BM t f.2]
theorem yw {A:Around} {s:Shared} {x:V} {v:Value} (rx:RelV x v) (fx:BD x=true):∀ {xs:List V} {us:List Value},Vals xs us->xs.all BD=true->∀ u∈us,SeqAt.EqAt A s u v (Kn x u)
 | _,_,.nil,_=>λu hu=>by cases hu
 | y::xs,u::us,.cons r t,f=>λu' hu=>by
  rw [W5,U6] at f
  rcases U4.mp hu with rfl | hu
  ·rw [OW r f.1];exact RJ r rx f.1 fx
  ·exact yw rx fx t f.2 u' hu
def Lm (x:V) (xs:List V):Bool:=xs.any λy=>N8 y x
def Tx (K:UR) (neg:Bool):R2:=λx y H Q=>∃ p xs,y=.ref p/\(bc K H p xs∨gg K H p xs)/\BD x=true/\xs.all BD=true/\Q (.bl (if neg then !Lm x xs else Lm x xs)) H
theorem Nc:zA X (compareOp .In) (Tx X.K false):=by
 intro pins s σ H x y v u Q I rx ry h
 obtain ⟨p,xs,rfl,hq,fx,fs,q⟩:=h
 cases ry
 rcases hq with hq | hq
 ·obtain ⟨its,r,pl,hz⟩:=I.list hq
  refine SeqAt.in_listAt (Kn x) pl.isList (λw hw=>yw rx fx r fs w (by simpa using hw)) ⟨.bl _,H,I,rfl,?_⟩
  rw [show its.toArray.any (Kn x)=its.any (Kn x) by simp,BM r fs]
  exact q
 ·obtain ⟨its,r,pl,hz⟩:=I.tuple hq
  refine SeqAt.in_tupleAt (Kn x) pl (λw hw=>yw rx fx r fs w (by simpa using hw)) ⟨.bl _,H,I,rfl,?_⟩
  rw [show its.toArray.any (Kn x)=its.any (Kn x) by simp,BM r fs]
  exact q
theorem G8:zA X (compareOp .NotIn) (Tx X.K true):=by
 intro pins s σ H x y v u Q I rx ry h
 obtain ⟨p,xs,rfl,hq,fx,fs,q⟩:=h
 cases ry
 rcases hq with hq | hq
 ·obtain ⟨its,r,pl,hz⟩:=I.list hq
  refine SeqAt.notIn_listAt (Kn x) pl.isList (λw hw=>yw rx fx r fs w (by simpa using hw)) ⟨.bl _,H,I,rfl,?_⟩
  rw [show its.toArray.any (Kn x)=its.any (Kn x) by simp,BM r fs]
  exact q
 ·obtain ⟨its,r,pl,hz⟩:=I.tuple hq
  refine SeqAt.notIn_tupleAt (Kn x) pl (λw hw=>yw rx fx r fs w (by simpa using hw)) ⟨.bl _,H,I,rfl,?_⟩
  rw [show its.toArray.any (Kn x)=its.any (Kn x) by simp,BM r fs]
  exact q
theorem Iz:m6 X (.builtin "len") (λxs H Q=>∃ p ys,xs=[.ref p]/\(bc X.K H p ys∨gg X.K H p ys)/\Q (.int ys.length) H):=by
 intro pins s σ H xs us Q I r h
 obtain ⟨p,ys,rfl,hq,q⟩:=h
 obtain ⟨u,rfl,rx⟩:=vals1 r
 cases rx
 have hn:=EM
 rcases hq with hq | hq
 ·obtain ⟨its,r',pl,hz⟩:=I.list hq
  have hlen:=r'.length
  exact Calls.call_len_list pl.isList (by simp only [Vf]<;>omega) ⟨.int ys.length,H,I.tok _,⟨s.toks+1,by rw [Vf,hlen]⟩,q⟩
 ·obtain ⟨its,r',pl,hz⟩:=I.tuple hq
  have hlen:=r'.length
  exact len_tuple pl (by simp only [Vf]<;>omega) ⟨.int ys.length,H,I.tok _,⟨s.toks+1,by rw [Vf,hlen]⟩,q⟩
theorem G3:m6 X (.type "list") (λxs H Q=>∃ p ys,xs=[.ref p]/\(bc X.K H p ys∨gg X.K H p ys)/\∀ l,H l=none->Q (.ref l) (upd H l (.lst ys))):=by
 intro pins s σ H xs us Q I r h
 obtain ⟨p,ys,rfl,hq,q⟩:=h
 obtain ⟨u,rfl,rx⟩:=vals1 r
 cases rx
 have fin:∀ (its:List Value),Vals ys its->ys.length<=sizeLine->∀ (h':Heap) (c':Nat),(∀ b o',s.heap.get? b=some o'->h'.get? b=some o') ->
   h'.get? s.heap.objs.size=some { cls:=.type "list",dict:=none,data:=.seq its.toArray c',slots:=#[] }->EP X pins σ Q (.ref s.heap.objs.size) { s with heap:=h' }:=λits r' hz h' c' kp e =>
  ⟨.ref s.heap.objs.size,_,I.laid (t':=s.toks) kp (U1 _) (show i4 X.prog X.w _ h' _ (.lst ys) from ⟨hz,its,c',r',e⟩),rfl,q _ (I.dv.fresh (U1 _))⟩
 rcases hq with hq | hq
 ·obtain ⟨its,r',pl,hz⟩:=I.list hq
  have hlen:=r'.length
  obtain ⟨o,ho,hc,n,hd⟩:=pl.isList
  exact call_list_seq p (.inl rfl) ho hc hd (λh' c' kp e=>fin its r' hz h' c' kp e) (by simp only [Vf]<;>lia)
 ·obtain ⟨its,r',pl,hz⟩:=I.tuple hq
  have hlen:=r'.length
  obtain ⟨o,ho,hc,n,hd⟩:=pl
  exact call_list_seq p (.inr rfl) ho hc hd (λh' c' kp e=>fin its r' hz h' c' kp e) (by simp only [Vf]<;>lia)
theorem FU:m6 X (.type "tuple") (λxs H Q=>∃ p ys,xs=[.ref p]/\((bc X.K H p ys/\∀ l,H l=none->Q (.ref l) (upd H l (.tup ys)))∨(gg X.K H p ys/\Q (.ref p) H))):=by
 intro pins s σ H xs us Q I r h
 obtain ⟨p,ys,rfl,h⟩:=h
 obtain ⟨u,rfl,rx⟩:=vals1 r
 cases rx
 rcases h with ⟨hq,q⟩ | ⟨hq,q⟩
 ·obtain ⟨its,r',pl,hz⟩:=I.list hq
  have hlen:=r'.length
  refine call_tuple_list pl.isList (λh' kp=>?_) (by simp only [Vf]<;>lia)
  have I1:Inv X pins σ H { s with heap:=h' }:=I.kept (t':=s.toks) kp
  have I2:Inv X pins σ (upd H h'.objs.size (.tup ys)) { s with heap:=h'.push { cls:=.type "tuple",data:=.seq its.toArray } } :=
   I1.laid (t':=s.toks) (λb o e=>Heap.get?_push_of_some _ e) (U1 _) (show i4 X.prog X.w _ _ _ (.tup ys) from ⟨hz,its,r',IsTup.new _ _⟩)
  exact ⟨.ref h'.objs.size,_,I2,rfl,q _ (I1.dv.fresh (U1 _))⟩
 ·obtain ⟨its,r',pl,hz⟩:=I.tuple hq
  exact call_tuple_same pl ⟨.ref p,H,I,rfl,q⟩
def Ux (K:UR) (T:String) (x:V) (H:Hp):Prop:=match x with
 | .str _=>T="str"
 | .int _=>T="int"
 | .ref p=>(T="list"/\∃ xs,bc K H p xs)∨(T="tuple"/\∃ o,K.lookup p=some o/\o.cls=.type "tuple"/\o.dict=none) ∨
   (T="dict"/\((∃ kvs,H p=some (.dK kvs))∨∃ kvs,H p=some (.dT kvs)))∨(T="set"/\∃ S n,H p=some (.set S n))
 | _=>False
theorem Rg {pins:List (Addr × Obj)} {σ:St} {H:Hp} {s:Shared} {T:String} {x:V} {v:Value} (I:Inv X pins σ H s) (r:RelV x v) (ty:Ux X.K T x H) :
  s.TypeIs v T/\∀ a,v=.ref a->∃ ob,s.heap.get? a=some ob/\ob.dict=none:=by
 cases x with
 | str z =>
  obtain ⟨t,rfl⟩:=r
  cases (show T="str" from ty)
  exact ⟨typeIs_str s z t,λ_ e=>nomatch e⟩
 | int i =>
  obtain ⟨t,rfl⟩:=r
  cases (show T="int" from ty)
  exact ⟨typeIs_int s i t,λ_ e=>nomatch e⟩
 | ref p =>
  cases r
  rcases ty with ⟨rfl,xs,hq⟩ | ⟨rfl,o,hk,hc,hd⟩ | ⟨rfl,hk⟩ | ⟨rfl,S,n,hk⟩
  ·obtain ⟨its,_,pl,_⟩:=I.list hq
   refine ⟨pl.isList.typeIs,λa e=>?_⟩
   cases e
   obtain ⟨o,n,e,c,hd,_⟩:=pl
   exact ⟨o,e,hd⟩
  ·refine ⟨⟨o,I.Jp p o hk,hc⟩,λa e=>?_⟩
   cases e
   exact ⟨o,I.Jp _ o hk,hd⟩
  ·have z:∃ o,s.heap.get? p=some o/\o.ExactDict:=by
    rcases hk with ⟨kvs,hk⟩ | ⟨kvs,hk⟩
    ·obtain ⟨_,_,_,_,o,_,_,e,ex,_⟩:=I.dv p _ hk
     exact ⟨o,e,ex⟩
    ·obtain ⟨_,_,_,_,o,_,_,e,ex,_⟩:=I.dv p _ hk
     exact ⟨o,e,ex⟩
   obtain ⟨o,e,ex⟩:=z
   refine ⟨⟨o,e,ex.1⟩,λa e2=>?_⟩
   cases e2
   exact ⟨o,e,ex.2.1⟩
  ·obtain ⟨o,_,_,_,e,ex,_⟩:=I.dv p _ hk
   refine ⟨⟨o,e,ex.1⟩,λa e2=>?_⟩
   cases e2
   exact ⟨o,e,ex.2.1⟩
 | _=>exact False.elim ty
def Uw (K:UR) (T:String) (r:V->List V->Hp->VK->Prop) (to:TE) (t:TA):TE:=λσ H Q=>to σ H λx H1=>Ux K T x H1/\t σ H1 λxs H2=>r x xs H2 Q
variable {o e:Expr} {es:List Expr} {to:TE} {t:TA} {name:Str} {apos cpos:Pos} {T id:String} {r:V->List V->Hp->VK->Prop}
theorem SH (pa:PlainAttrs T) (slot:Slot T name id) (hty:typeOf (.builtin id)=pure (.type "method_descriptor")) (hm:Q3 X id r) (ho:PE X o to) (ha:PA X (e::es) t)
  (hbase:attributeBase o name X.env (eval o X.env)=eval o X.env:=by rfl)
  (hfew:((backTo cpos (starEach (e::es) X.env)).all (λx=>!x.1)&&(backToKw cpos (keywordEach [] X.env)).all (λx=>x.1.isSome)
   && decide ((e::es).length+([]:List Keyword).length+(if ([]:List Keyword).isEmpty then 0 else 1) < 30))=true:=by rfl)
  (hline:(apos.endLine == cpos.line)=true:=by rfl) (hs:starEach (e::es) X.env=(false,eval e X.env)::starEach es X.env:=by rfl) (hplain:(backTo cpos (starEach es X.env)).any (·.1)=false:=by rfl) :
  PE X (.Call (.Attribute o name apos) (e::es) [] cpos) (Uw X.K T r to t):=by
 intro pins s σ H Q I h
 refine wpAny_Call_method_late hbase hfew hline rfl (dN (ho pins s σ H _ I h) λv s1 ⟨x,H1,I1,r1,ty,q1⟩=>?_)
 obtain ⟨h1,h2⟩:=Rg I1 r1 ty
 refine ⟨T,id,pa,slot,hty,h1,h2,?_⟩
 have hA:=ha cpos pins s1 σ H1 _ I1 q1
 rw [hs] at hA ⊢
 refine Calls.callWith_builtin (by show (false || (backTo cpos (starEach es X.env)).any (·.1))=false;rw [hplain]<;>rfl) (Calls.evalArgs_plain ?_)
 exact dN hA λus s2 ⟨vs,H2,I2,r2,q2⟩=>hm pins s2 σ H2 x vs v us Q I2 r1 r2 q2
end
end L2
namespace L2
open PySem PySem.Spec PyProof.Rows
def UB (X:Cx) (id:String) (r:V->List V->Hp->VK->Prop):Prop :=
 ∀ (pins:List (Addr × Obj)) (s:Shared) (σ:St) (H:Hp) (x:V) (xs:List V) (v:Value) (us:List Value) (Q:VK),Inv X pins σ H s->RelV x v->Vals xs us->r x xs H Q ->
  wpAny (model X.prog X.w) X.A (call (.builtin id) (v::us)) (EP X pins σ Q) X.xe s
theorem Vals.one:∀ {x:V} {us:List Value},Vals [x] us->∃ u,us=[u]/\RelV x u
 | _,_,.cons r .nil=>⟨_,rfl,r⟩
theorem Vals.two:∀ {x y:V} {us:List Value},Vals [x,y] us->∃ u v,us=[u,v]/\RelV x u/\RelV y v
 | _,_,_,.cons r (.cons q .nil)=>⟨_,_,rfl,r,q⟩
section
variable {X:Cx} {pins:List (Addr × Obj)} {σ:St} {H:Hp} {s:Shared} {l b:Addr} {xs ys zs:List V}
theorem Inv.Ta {its its':List Value} {n:Nat} {f:Array Value->Array Value} {t':Nat} (I:Inv X pins σ H s) (hH:H l=some (.lst xs))
  (e:s.heap.get? l=some { cls:=.type "list",data:=.seq its.toArray n }) (hf:f its.toArray=its'.toArray) (hv:Vals ys its') (hz:ys.length<=sizeLine) :
  Inv X pins σ (upd H l (.lst ys)) { s with heap:=s.heap.update l (Obj.mapSeq f),toks:=t' }:=by
 have q:=PySem.IsL.update e f
 rw [hf] at q
 refine I.write (x:=l) (e:=l) (by rw [hH];exact trivial) (.inl rfl) (λb' u hb hu=>(Heap.get?_update_other s.heap (Obj.mapSeq f) (Ne.symm hb)).trans hu) ⟨_,q⟩ ?_
 exact ⟨hz,its',_,hv,q⟩
theorem Inv.Ug {its:List Value} {t':Nat} (I:Inv X pins σ H s) (hv:Vals ys its) (hz:ys.length<=sizeLine) :
  Inv X pins σ (upd H s.heap.objs.size (.lst ys)) { s with heap:=s.heap.push { cls:=.type "list",data:=.seq its.toArray },toks:=t' } :=
 I.laid (λ_ _ q=>Heap.get?_push_of_some _ q) (U1 _) ⟨hz,its,0,hv,Heap.get?_push_size _ rfl⟩
theorem Inv.fresh (I:Inv X pins σ H s):H s.heap.objs.size=none:=I.dv.fresh (U1 _)
theorem Inv.Oh (I:Inv X pins σ H s) (hH:H l=some (.lst xs)):xs.length<=sizeLine/\∃ (its:List Value) (n:Nat),Vals xs its/\xs.length=its.length/\s.heap.get? l=some { cls:=.type "list",data:=.seq its.toArray n }:=by
 obtain ⟨z,its,n,r,e⟩:=I.dv l _ hH
 exact ⟨z,its,n,r,r.length,e⟩
theorem NR {n:Nat} (h:n<=sizeLine):Builtin.List.listTooLong n=false:=by
 unfold Builtin.List.listTooLong
 exact decide_eq_false (by exact We.mpr ‹_›)
end
section
variable {X:Cx}
def Qh:V->List V->Hp->VK->Prop:=λx vs H Q=>∃ l xs y,x=.ref l/\vs=[y]/\H l=some (.lst xs)/\xs.length < sizeLine/\Q .dF (upd H l (.lst (xs++[y])))
theorem BU:UB X "list.append" Qh:=by
 intro pins s σ H x vs v us Q I rx rv h
 obtain ⟨l,xs,y,rfl,rfl,hH,hz,q⟩:=h
 cases rx
 obtain ⟨u,rfl,ru⟩:=rv.one
 obtain ⟨z,its,n,r,hl,e⟩:=I.Oh hH
 refine call_meets F.slot_list_append ⟨_,e,rfl⟩ F.entry_list_append (F.args_list_append_2 _ _) (PySem.list_append l its.toArray n u (by rw [Vf];lia)) ⟨e,?_⟩
 refine ⟨.dF,_,I.Ta (its':=its++[u]) hH e (by simp) (r.append (.cons ru .nil)) ?_,rfl,q⟩
 rw [VD,List.length_singleton]
 assumption
def PZ:V->List V->Hp->VK->Prop:=λx vs H Q=>∃ l b xs zs,x=.ref l/\vs=[.ref b]/\H l=some (.lst xs)/\H b=some (.lst zs)/\xs.length+zs.length<=sizeLine/\Q .dF (upd H l (.lst (xs++zs)))
theorem CB:UB X "list.extend" PZ:=by
 intro pins s σ H x vs v us Q I rx rv h
 obtain ⟨l,b,xs,zs,rfl,rfl,hH,hB,hz,q⟩:=h
 cases rx
 obtain ⟨u,rfl,ru⟩:=rv.one
 cases ru
 obtain ⟨z,its,n,r,hl,e⟩:=I.Oh hH
 obtain ⟨z2,its2,n2,r2,hl2,e2⟩:=I.Oh hB
 have hsz:its.toArray.size+its2.toArray.size<=sizeLine:=by rw [Vf,Vf];lia
 have hlong:¬ (!its.toArray.isEmpty&&Builtin.List.listTooLong (its.toArray.size+its2.toArray.size))=true:=by
  rw [NR hsz,Bool.and_false]
  exact Vo
 refine call_meets F.slot_list_extend ⟨_,e,rfl⟩ F.entry_list_extend (F.args_list_extend_2 _ _)
  (AutoSeq1.list_extend_list_list_0 l its.toArray n b its2.toArray n2 hlong (by rw [Vf];lia) (by lia)) ⟨e,e2,?_⟩
 refine ⟨.dF,_,I.Ta (its':=its++its2) hH e (by simp) (r.append r2) ?_,rfl,q⟩
 rw [VD]
 assumption
def TR:R2:=λx y H Q=>∃ l b xs zs,x=.ref l/\y=.ref b/\H l=some (.lst xs)/\H b=some (.lst zs)/\xs.length+zs.length<=sizeLine/\∀ p,H p=none->Q (.ref p) (upd H p (.lst (xs++zs)))
theorem lZ:zA X (binaryOp .Add) TR:=by
 intro pins s σ H x y v u Q I rx ry h
 obtain ⟨l,b,xs,zs,rfl,rfl,hH,hB,hz,q⟩:=h
 cases rx
 cases ry
 obtain ⟨z,its,n,r,hl,e⟩:=I.Oh hH
 obtain ⟨z2,its2,n2,r2,hl2,e2⟩:=I.Oh hB
 refine PySem.P.add_list e e2 ?_ (by rw [Vf,Vf];lia)
 have ea:its.toArray++its2.toArray=(its++its2).toArray:=by simp
 rw [ea]
 exact ⟨.ref _,_,I.Ug (t':=s.toks) (r.append r2) (by rw [VD];assumption),rfl,q _ I.fresh⟩
end
section
variable {prog:Program} {w:World} {A:Around} {E:Value->Shared->Prop} {s:Shared}
set_option maxRecDepth 100000 in
end
end L2
namespace L2
open PySem PySem.Spec PyProof.Rows
theorem Vals.ints:∀ {ns:List Int} {us:List Value},Vals (ns.map V.int) us->IntsAre us ns
 | [],us,h=>by
  rw [Wy] at h
  cases h
  exact IntsAre.nil
 | n::ns,us,h=>by
  rw [Vc] at h
  cases h with
  | cons r t =>
   obtain ⟨k,rfl⟩:=r
   exact IntsAre.cons n k (Vals.ints t)
theorem Vals.T5:∀ {bs:List Bool} {us:List Value},Vals (bs.map V.bl) us->us=bs.map Value.bool
 | [],us,h=>by
  rw [Wy] at h
  cases h
  rfl
 | b::bs,us,h=>by
  rw [Vc] at h
  cases h with
  | cons r t =>
   cases r
   rw [Vals.T5 t,Vc]
theorem Vals.JF {a:Addr} {us:List Value} (r:Vals [V.ref a] us):us=[Value.ref a]:=by
 cases r with
 | cons r t =>
  cases t
  cases r
  rfl
section
variable {prog:Program} {w:World} {A:Around} {E:Value->Shared->Prop} {s:Shared} {l:Addr} {its:List Value} {ns:List Int} {Q:Value->Shared->Prop}
theorem PB (hh:A.handled=none) (hl:s.heap.IsList l its.toArray) (hi:IntsAre its ns)
  (h:∀ h' tk t',(∀ b o,s.heap.get? b=some o->h'.get? b=some o)->Q (.int ns.sum t') { s with heap:=h',toks:=tk }):wpAny (model prog w) A (call (.builtin "sum") [.ref l]) Q E s:=by
 obtain ⟨xs,e⟩:=hi.allInts.items
 have hn:numsOf (intItems xs).toList=ns:=by rw [<- e];exact hi.numsOf
 rw [nums_intItems] at hn
 rw [e] at hl
 refine PySem.sum_intListG hh hl λh' tk t' hk=>?_
 have:=h h' tk t' hk
 rw [preSum_eq,List.take_of_length_le (by simp),hn];exact this
end
section
variable {X:Cx}
def Th (K:UR):List V->Hp->VK->Prop:=λvs H Q=>∃ (a:Addr) (ns:List Int),vs=[V.ref a]/\bc K H a (ns.map V.int)/\Q (.int ns.sum) H
theorem RG (hc:X.calm=true):m6 X (.builtin "sum") (Th X.K):=by
 intro pins s σ H vs us Q I r h
 obtain ⟨a,ns,rfl,hs,q⟩:=h
 obtain ⟨its,rv,hl,_⟩:=I.list hs
 rw [Vals.JF r]
 exact PB (I.ok.hd hc) hl.isList rv.ints λh' tk t' hk=>⟨.int _,H,I.kept hk,⟨_,rfl⟩,q⟩
end
theorem Jm {prog:Program} {w:World} {A:Around} {E:Value->Shared->Prop} {s:Shared} {l:Addr} {items:Array Value} {Q:Value->Shared->Prop} (hl:s.heap.IsList l items)
  (h:∀ s₂:Shared,s₂={ s with heap:=s.heap.push { cls:=.type "list_iterator",data:=.fields #[.ref l,.int 0 0] } } ->
   (s₂.heap.IsListIter s.heap.objs.size l 0/\s₂.heap.IsList l items)->l≠s.heap.objs.size->Q (.ref s.heap.objs.size) s₂):wpAny (model prog w) A (pyIter (.ref l)) Q E s:=by
 have hlt:l < s.heap.objs.size:=by obtain ⟨_,e,_⟩:=hl;exact Heap.lt_size e
 exact wpAny_pyIter_list hl (h _ rfl ⟨⟨_,Heap.get?_push_size _ rfl,rfl,rfl⟩,hl.push _⟩ (Vh hlt))
theorem CW {prog:Program} {w:World} {A:Around} {bs:List Bool} {its:List Value} (e:its=bs.map Value.bool) :
  TruthOf prog w A (λi v=>its.toArray[i]?=some v) (λi=>bs.getD i false):=λi v s Q E hv hq=>by
 have hv':its[i]?=some v:=by simpa using hv
 rw [e,Vw] at hv'
 obtain ⟨b,hb,rfl⟩:=Option.map_eq_some_iff.mp hv'
 have hg:bs.getD i false=b:=by rw [VY,hb]<;>rfl
 have hq':Q (bs.getD i false) s:=hq
 rw [hg] at hq'
 exact wpAny_truthy_bool hq'
theorem any_range:∀ bs:List Bool,(List.range bs.length).any (λi=>bs.getD i false)=bs.any id
 | []=>rfl
 | b::bs=>by
  rw [Vj,List.range_succ_eq_map,VP,Wn,VP,<- any_range bs]
  all_goals rfl
theorem all_range:∀ bs:List Bool,(List.range bs.length).all (λi=>bs.getD i false)=bs.all id
 | []=>rfl
 | b::bs=>by
  rw [Vj,List.range_succ_eq_map,W5,List.all_map,W5,<- all_range bs]
  all_goals rfl
section
variable {X:Cx}
def Tu (K:UR):List V->Hp->VK->Prop:=λvs H Q=>∃ (a:Addr) (bs:List Bool),vs=[V.ref a]/\bc K H a (bs.map V.bl)/\Q (.bl (bs.any id)) H
def Se (K:UR):List V->Hp->VK->Prop:=λvs H Q=>∃ (a:Addr) (bs:List Bool),vs=[V.ref a]/\bc K H a (bs.map V.bl)/\Q (.bl (bs.all id)) H
theorem QM (hc:X.calm=true):m6 X (.builtin "any") (Tu X.K):=by
 intro pins s σ H vs us Q I r h
 obtain ⟨a,bs,rfl,hs,q⟩:=h
 obtain ⟨its,rv,hl,_⟩:=I.list hs
 rw [Vals.JF r]
 have hb:=rv.T5
 refine call_any_walk (Jm hl.isList λs₂ e2 st hne=>?_)
 subst e2
 refine ⟨_,_,_,_,_,_,_,rfl,Walks.list (A:=X.A.in1) (I.ok.hd hc) _ a hne its.toArray,st,CW hb,λh' tk hk=>?_⟩
 refine ⟨.bl _,H,I.kept λb o eo=>hk b o (λhmem=>?_) (Heap.get?_push_of_some _ eo),?_,q⟩
 ·rcases U4.mp hmem with e1 | hmem
  ·exact absurd (e1 ▸ Heap.lt_size eo) (VT _)
  ·cases hmem
 ·show Value.bool _=Value.bool _
  rw [<- any_range,hb,Vf,UT]
theorem Rt (hc:X.calm=true):m6 X (.builtin "all") (Se X.K):=by
 intro pins s σ H vs us Q I r h
 obtain ⟨a,bs,rfl,hs,q⟩:=h
 obtain ⟨its,rv,hl,_⟩:=I.list hs
 rw [Vals.JF r]
 have hb:=rv.T5
 refine call_all_walk (Jm hl.isList λs₂ e2 st hne=>?_)
 subst e2
 refine ⟨_,_,_,_,_,_,_,rfl,Walks.list (A:=X.A.in1) (I.ok.hd hc) _ a hne its.toArray,st,CW hb,λh' tk hk=>?_⟩
 refine ⟨.bl _,H,I.kept λb o eo=>hk b o (λhmem=>?_) (Heap.get?_push_of_some _ eo),?_,q⟩
 ·rcases U4.mp hmem with e1 | hmem
  ·exact absurd (e1 ▸ Heap.lt_size eo) (VT _)
  ·cases hmem
 ·show Value.bool _=Value.bool _
  rw [<- all_range,hb,Vf,UT]
end
mutual
inductive Dp (K:UR) (H:Hp):V->PyData->Prop
 | dF:Dp K H .dF .none
 | bl (b:Bool):Dp K H (.bl b) (.bool b)
 | int (i:Int):Dp K H (.int i) (.int i)
 | str (x:Str):Dp K H (.str x) (.str x)
 | lst {a:Addr} {xs:List V} {ds:List PyData}:bc K H a xs->zM K H xs ds->Dp K H (.ref a) (.list ds)
 | tup {a:Addr} {xs:List V} {ds:List PyData}:gg K H a xs->zM K H xs ds->Dp K H (.ref a) (.tuple ds)
inductive zM (K:UR) (H:Hp):List V->List PyData->Prop
 | nil:zM K H [] []
 | cons {v:V} {vs:List V} {d:PyData} {ds:List PyData}:Dp K H v d->zM K H vs ds->zM K H (v::vs) (d::ds)
end
section
variable {X:Cx} {pins:List (Addr × Obj)} {σ:St} {H:Hp} {s:Shared}
mutual
theorem Dp.reads (I:Inv X pins σ H s):∀ (d:PyData) (v:V) (u:Value),Dp X.K H v d->RelV v u->∃ as,Reads s.heap u d as
 | .none,_,_,h,r=>by
  cases h
  cases r
  exact ⟨_,Reads.none⟩
 | .bool b,_,_,h,r=>by
  cases h
  cases r
  exact ⟨_,Reads.bool b⟩
 | .int i,_,_,h,r=>by
  cases h
  obtain ⟨t,rfl⟩:=r
  exact ⟨_,Reads.int i t⟩
 | .str x,_,_,h,r=>by
  cases h
  obtain ⟨t,rfl⟩:=r
  exact ⟨_,Reads.str x t⟩
 | .list ds,_,_,h,r=>by
  cases h with
  | lst hs ha =>
   cases r
   obtain ⟨its,rv,⟨o,n,ho,hc,_,hd⟩,_⟩:=I.list hs
   obtain ⟨as,hr⟩:=Dp.readsAll I ds _ its ha rv
   exact ⟨_,Reads.list ho hc hd hr⟩
 | .tuple ds,_,_,h,r=>by
  cases h with
  | tup hs ha =>
   cases r
   obtain ⟨its,rv,⟨o,ho,hc,n,hd⟩,_⟩:=I.tuple hs
   obtain ⟨as,hr⟩:=Dp.readsAll I ds _ its ha rv
   exact ⟨_,Reads.tuple ho hc hd hr⟩
 | .dict _,_,_,h,_=>by cases h
theorem Dp.readsAll (I:Inv X pins σ H s):∀ (ds:List PyData) (vs:List V) (us:List Value),zM X.K H vs ds->Vals vs us->∃ as,ReadsAll s.heap us ds as
 | [],_,_,h,r=>by
  cases h
  cases r
  exact ⟨_,ReadsAll.nil⟩
 | d::ds,_,_,h,r=>by
  cases h with
  | cons h1 h2 =>
   cases r with
   | cons r1 r2 =>
    obtain ⟨as,q1⟩:=Dp.reads I d _ _ h1 r1
    obtain ⟨bs,q2⟩:=Dp.readsAll I ds _ _ h2 r2
    exact ⟨_,ReadsAll.cons q1 q2⟩
end
end
section
variable {X:Cx}
def SX (K:UR):R2:=λx y H Q=>∃ d e,Dp K H x d/\Dp K H y e/\SeqAt.shaped d=true/\SeqAt.shaped e=true/\Q (.bl (PyData.eqv d e)) H
def SG (K:UR):R2:=λx y H Q=>∃ d e,Dp K H x d/\Dp K H y e/\SeqAt.shaped d=true/\SeqAt.shaped e=true/\Q (.bl (!PyData.eqv d e)) H
theorem Rv (hu:X.A.units+64 < cLine):zA X (compareOp .Eq) (SX X.K):=by
 intro pins s σ H x y v u Q I rx ry h
 obtain ⟨d,e,hd,he,sd,se,q⟩:=h
 obtain ⟨as,r1⟩:=Dp.reads I d x v hd rx
 obtain ⟨bs,r2⟩:=Dp.reads I e y u he ry
 exact SeqAt.compareEq_shaped r1 r2 sd se hu ⟨.bl _,H,I,rfl,q⟩
theorem QU (hu:X.A.units+64 < cLine):zA X (compareOp .NotEq) (SG X.K):=by
 intro pins s σ H x y v u Q I rx ry h
 obtain ⟨d,e,hd,he,sd,se,q⟩:=h
 obtain ⟨as,r1⟩:=Dp.reads I d x v hd rx
 obtain ⟨bs,r2⟩:=Dp.reads I e y u he ry
 exact SeqAt.compareNe_shaped r1 r2 sd se hu ⟨.bl _,H,I,rfl,q⟩
end
end L2
namespace L2
open PySem PySem.Spec PyProof.Rows
abbrev Og (h:Heap) (c:Addr) (v:Option Value):Prop:=h.IsCell c v
def T3 (scope sc:Scope):Scope :=
 { scope with names:=scope.names.map λ(n,k)=>if (k == .free&&sc.kind == .function&&sc.names.lookup n == some .cell) then (n,.cell) else (n,k) }
noncomputable def dR (cells:List (Str × Addr)):List (Str × NameKind)->List (Str × Addr)->List (Str × Addr)
 | [],acc=>acc
 | (n,k)::r,acc=>if k == .free then dR cells r ((n,(cells.lookup n).getD 0)::acc) else dR cells r acc
theorem Ba (env:Env) (f:Str × NameKind->List (Str × Addr)->Sem (ForInStep (List (Str × Addr))))
  (hf:∀ n k c,f (n,k) c=if k == .free then (do let a <- cellOf env n;pure (.yield ((n,a)::c))) else pure (.yield c)) :
  ∀ (names:List (Str × NameKind)) (acc:List (Str × Addr)),(∀ y∈names,y.2=.free->∃ c,env.cells.lookup y.1=some c)->forIn names acc f=pure (dR env.cells names acc)
 | [],acc,_=>by rw [List.forIn_nil];rfl
 | (n,k)::r,acc,h=>by
  rw [List.forIn_cons,hf]
  have ih:=λacc=>Ba env f hf r acc λy hy=>h y (Vl _ hy)
  unfold dR
  by_cases hk:(k == NameKind.free)=true
  ·rw [if_pos hk,if_pos hk]
   obtain ⟨c,hc⟩:=h (n,k) Vi (by simpa using hk)
   have e:cellOf env n=pure c:=by unfold cellOf;rw [hc]
   rw [e]
   have e2:(env.cells.lookup n).getD 0=c:=by rw [hc];rfl
   rw [e2]
   exact ih _
  ·rw [if_neg hk,if_neg hk]
   exact ih _
theorem Kf {scope:Scope} {env:Env} (h:∀ y∈scope.names,y.2=.free->∃ c,env.cells.lookup y.1=some c):closureFor scope env=pure (dR env.cells scope.names []):=by
 simp only [closureFor]
 rw [Ba env _ (λn k c=>rfl) scope.names [] h]
 rfl
theorem mem_lookup {α:Type}:∀ {l:List (Str × α)} {n:Str} {c:α},(n,c)∈l->∃ c',l.lookup n=some c'
 | (k,v)::r,n,c,h=>by
  rw [WN]
  cases hb:n == k with
  | true=>exact ⟨_,rfl⟩
  | false =>
   rcases U4.mp h with e | h
   ·cases e;simp at hb
   ·exact mem_lookup h
theorem tV {cells:List (Str × Addr)}:∀ {names:List (Str × NameKind)} {acc:List (Str × Addr)} {n:Str} {c:Addr},(n,c)∈dR cells names acc->(n,c)∈acc∨((n,.free)∈names/\c=(cells.lookup n).getD 0)
 | [],_,_,_,h=>.inl h
 | (m,k)::r,acc,n,c,h=>by
  unfold dR at h
  split at h
  ·rename_i hk
   have hk:k=.free:=by simpa using hk
   rcases tV h with h | ⟨h1,h2⟩
   ·rcases U4.mp h with e | h
    ·cases e;exact .inr ⟨hk ▸ Vi,rfl⟩
    ·exact .inl h
   ·exact .inr ⟨Vl _ h1,h2⟩
  ·rcases tV h with h | ⟨h1,h2⟩
   ·exact .inl h
   ·exact .inr ⟨Vl _ h1,h2⟩
theorem xH {cells:List (Str × Addr)}:∀ {names:List (Str × NameKind)} {acc:List (Str × Addr)} {p:Str × Addr},p∈acc->p∈dR cells names acc
 | [],_,_,h=>h
 | (m,k)::r,acc,p,h=>by
  unfold dR
  split
  ·exact xH (Vl _ h)
  ·exact xH h
theorem ye {cells:List (Str × Addr)}:∀ {names:List (Str × NameKind)} {acc:List (Str × Addr)} {n:Str},(n,.free)∈names->(n,(cells.lookup n).getD 0)∈dR cells names acc
 | (m,k)::r,acc,n,h=>by
  unfold dR
  rcases U4.mp h with e | h
  ·cases e
   exact xH Vi
  ·split
   ·exact ye h
   ·exact ye h
theorem v7:∀ {names:List (Str × NameKind)} {h:Heap} {acc:List (Str × Addr)} {x:Str} {c:Addr},(x,c)∈cellsFrom h.objs.size names acc ->
  (x,c)∈acc∨((x,.cell)∈names/\h.objs.size<=c/\Og (pushCells h names) c none)
 | [],_,_,_,_,h=>.inl h
 | (n,k)::r,h,acc,x,c,hm=>by
  unfold cellsFrom at hm
  unfold pushCells
  split at hm
  ·rename_i hk
   rw [if_pos hk]
   have hk:k=.cell:=by simpa using hk
   rw [<- Heap.size_push h { cls:=.type "cell",data:=.cell none }] at hm
   rcases v7 hm with hm | ⟨h1,h2,h3⟩
   ·rcases U4.mp hm with e | hm
    ·cases e
     exact .inr ⟨hk ▸ Vi,U1 _,_,pushCells_keeps r _ _ _ (Heap.get?_push_size _ rfl),rfl⟩
    ·exact .inl hm
   ·rw [Heap.size_push] at h2
    exact .inr ⟨Vl _ h1,Nat.le_of_succ_le h2,h3⟩
  ·rename_i hk
   rw [if_neg hk]
   rcases v7 hm with hm | ⟨h1,h2,h3⟩
   ·exact .inl hm
   ·exact .inr ⟨Vl _ h1,h2,h3⟩
theorem zm:∀ {names:List (Str × NameKind)} {n:Nat} {acc:List (Str × Addr)} {p:Str × Addr},p∈acc->p∈cellsFrom n names acc
 | [],_,_,_,h=>h
 | (m,k)::r,n,acc,p,h=>by
  unfold cellsFrom
  split
  ·exact zm (Vl _ h)
  ·exact zm h
theorem CF:∀ {names:List (Str × NameKind)} {n:Nat} {acc:List (Str × Addr)} {x:Str},(x,.cell)∈names->∃ c,(x,c)∈cellsFrom n names acc
 | (m,k)::r,n,acc,x,h=>by
  unfold cellsFrom
  rcases U4.mp h with e | h
  ·cases e
   exact ⟨n,zm Vi⟩
  ·split
   ·exact CF h
   ·exact CF h
theorem Ck:∀ {names:List (Str × NameKind)} {h:Heap} {acc:List (Str × Addr)} {x y:Str} {c:Addr},(∀ p∈acc,p.2 < h.objs.size)->(∀ x y c,(x,c)∈acc->(y,c)∈acc->x=y) ->
  (x,c)∈cellsFrom h.objs.size names acc->(y,c)∈cellsFrom h.objs.size names acc->x=y
 | [],_,_,_,_,_,_,hi,h1,h2=>hi _ _ _ h1 h2
 | (n,k)::r,h,acc,x,y,c,hl,hi,h1,h2=>by
  unfold cellsFrom at h1 h2
  split at h1
  ·rename_i hk
   rw [if_pos hk] at h2
   rw [<- Heap.size_push h { cls:=.type "cell",data:=.cell none }] at h1 h2
   refine Ck (h:=h.push _) (λp hp=>?_) (λx y c a b=>?_) h1 h2
   ·rw [Heap.size_push]
    rcases U4.mp hp with rfl | hp
    ·exact Nat.lt_succ_self _
    ·exact Nat.lt_succ_of_lt (hl p hp)
   ·rcases U4.mp a with e | a<;>rcases U4.mp b with e' | b
    ·cases e;cases e';rfl
    ·cases e;exact absurd (hl _ b) (VT _)
    ·cases e';exact absurd (hl _ a) (VT _)
    ·exact hi _ _ _ a b
  ·rename_i hk
   rw [if_neg hk] at h2
   exact Ck hl hi h1 h2
theorem IJ {M:Model} {A:Around} {E:Value->Shared->Prop} {s:Shared} {scope:Scope} {globals:Addr} {closure:List (Str × Addr)} {qual:Str} {func:Option Addr} {code:Value} {around:Env} {builtins:Addr} {Q:Env->Shared->Prop}
  (h:Q (newEnv scope s.heap.objs.size globals (cellsFrom (s.heap.objs.size+1) scope.names closure) qual func code (some around) builtins)
   { s with heap:=pushCells (s.heap.push { cls:=.type "dict",data:=.dict #[] }) scope.names }) :
  wpAny M A (newFunctionEnv scope globals closure [] qual func code (some around) builtins) Q E s:=by
 simp only [newFunctionEnv,Option.isSome_some,if_true]
 refine wpAny_bind (wpAny_alloc ?_)
 refine wpAny_bind (wpAny_layCells _ (λn k c=>rfl) scope.names closure _ _ ?_)
 rw [show ({ s with heap:=s.heap.push { cls:=.type "dict",data:=.dict #[] } }:Shared).heap.objs.size=s.heap.objs.size+1 from Heap.size_push ..]
 rw [List.forIn_nil]
 exact wpAny_bind (wpAny_pure (wpAny_pure h))
theorem xU {sc:Scope}:∀ {names:List (Str × NameKind)} {x:Str} {k:NameKind},
  (names.map λ(n,k)=>if (k == NameKind.free&&sc.kind == .function&&sc.names.lookup n == some .cell) then (n,NameKind.cell) else (n,k)).lookup x=some k ->
  ∃ k',names.lookup x=some k'/\(k=k'∨(k'=.free/\k=.cell))
 | [],_,_,h=>by simp at h
 | (n,k₀)::r,x,k,h=>by
  have ih:=@xU sc r x k
  have h':Ww x ((if (k₀ == NameKind.free&&sc.kind == .function&&sc.names.lookup n == some .cell)=true then (n,NameKind.cell) else (n,k₀))::(r.map _))=some k:=h
  cases hx:x == n with
  | true =>
   simp only [WN,hx]
   by_cases hc:(k₀ == NameKind.free&&sc.kind == .function&&sc.names.lookup n == some .cell)=true
   ·rw [if_pos hc] at h'
    simp only [WN,hx] at h'
    cases h'
    simp only [U6,beq_iff_eq] at hc
    exact ⟨k₀,rfl,.inr ⟨hc.1.1,rfl⟩⟩
   ·rw [if_neg hc] at h'
    simp only [WN,hx] at h'
    cases h'
    exact ⟨_,rfl,.inl rfl⟩
  | false =>
   simp only [WN,hx]
   by_cases hc:(k₀ == NameKind.free&&sc.kind == .function&&sc.names.lookup n == some .cell)=true
   ·rw [if_pos hc] at h'
    simp only [WN,hx] at h'
    exact ih h'
   ·rw [if_neg hc] at h'
    simp only [WN,hx] at h'
    exact ih h'
structure JE (N:List Str) (sc scope:Scope) (own:List (Str × Nat)):Prop where
 kind:scope.kind=.function
 uniq:∀ y∈scope.names,scope.names.lookup y.1=some y.2
 ix:∀ p∈own,N[p.2]?=some p.1
 free:∀ y∈scope.names,y.2=.free->sc.names.lookup y.1=some .cell∨sc.names.lookup y.1=some .free
 own:∀ y∈scope.names,y.2=.local∨y.2=.cell->y.1∈own.map (·.1)∨y.1 ∉ N
def wipe (σ:St):List Nat->St
 | []=>σ
 | v::vs=>(wipe σ vs).set v none
theorem yh (σ:St):∀ vs:List Nat,(wipe σ vs).length=σ.length
 | []=>rfl
 | v::vs=>by unfold wipe;rw [Vs,yh σ vs]
theorem Cg {σ:St} {i:Nat} {x:V}:∀ {vs:List Nat},(wipe σ vs)[i]?=some (some x)->σ[i]?=some (some x)/\i ∉ vs
 | [],h=>⟨h,by simp⟩
 | v::vs,h=>by
  unfold wipe at h
  by_cases hi:v=i
  ·subst hi
   by_cases hv:v < (wipe σ vs).length
   ·rw [V6 hv] at h;cases h
   ·rw [Wf (by simpa using hv)] at h;cases h
  ·rw [WI hi] at h
   obtain ⟨h1,h2⟩:=Cg h
   exact ⟨h1,by simp only [U4,not_or];exact ⟨λe=>hi e.symm,h2⟩⟩
abbrev Cx.Hy (X:Cx) (s:Shared) (H:Hp) (scope:Scope) (cenv:Env) (fp:List Addr):Cx:={ X with Gs:=s,RT:=H,env:=cenv,outer:=X.stack,ex:=fp,fn:=λx=>scope.names.lookup x == some .cell,pn:=[],xe:=λ_ _=>False }
section
variable {X:Cx} {pins:List (Addr × Obj)} {σ:St} {H:Hp} {s:Shared}
theorem JS {scope:Scope} {own:List (Str × Nat)} {fp:List Addr} (I:Inv X pins σ H s) (ok:JE X.N X.env.scope scope own) (hN:X.N.Nodup) (hfp:∀ b∈fp,FQ X pins H b/\b < s.heap.objs.size) :
  Inv (X.Hy s H scope (compEnvC scope (cellsFrom (s.heap.objs.size+1) scope.names (dR X.env.cells scope.names [])) s.heap.objs.size X.env) fp) [] (wipe σ (own.map (·.2))) H { s with heap:=pushCells (s.heap.push { cls:=.type "dict",data:=.dict #[] }) scope.names }:=by
 have hfree:∀ y∈scope.names,y.2=.free->∃ c,X.env.cells.lookup y.1=some c:=λy hy e=>by
  rcases ok.free y hy e with k | k
  ·exact I.ok.has _ (.inl k)
  ·exact I.ok.has _ (.inr k)
 generalize hcenv:compEnvC scope (cellsFrom (s.heap.objs.size+1) scope.names (dR X.env.cells scope.names [])) s.heap.objs.size X.env=cenv
 have kp:∀ b o,s.heap.get? b=some o->(pushCells (s.heap.push { cls:=.type "dict",data:=.dict #[] }) scope.names).get? b=some o:=λb o e=>pushCells_keeps _ _ _ _ (Heap.get?_push_of_some _ e)
 have hL:cenv.locals=s.heap.objs.size:=by rw [<- hcenv];rfl
 have hcl:cenv.cells=cellsFrom (s.heap.objs.size+1) scope.names (dR X.env.cells scope.names []):=by rw [<- hcenv];rfl
 have hsc:cenv.scope=T3 scope X.env.scope:=by rw [<- hcenv];rfl
 rw [<- Heap.size_push s.heap { cls:=.type "dict",data:=.dict #[] }] at hcl
 have cm:∀ {y c},(y,c)∈dR X.env.cells scope.names []->X.env.cells.lookup y=some c/\c < s.heap.objs.size:=λ{y c} hm=>by
  rcases tV hm with hm | ⟨h1,rfl⟩
  ·cases hm
  ·obtain ⟨c,hc⟩:=hfree _ h1 rfl
   rw [hc]
   obtain ⟨w,z⟩:=I.cell _ _ hc
   exact ⟨rfl,z.lt⟩
 have mem:∀ {y c},cenv.cells.lookup y=some c->(X.env.cells.lookup y=some c/\c < s.heap.objs.size)∨(s.heap.objs.size+1<=c/\Og (pushCells (s.heap.push { cls:=.type "dict",data:=.dict #[] }) scope.names) c none):=λ{y c} e=>by
  rw [hcl] at e
  rcases v7 (VO e) with hm | ⟨_,h2,h3⟩
  ·exact .inl (cm hm)
  ·rw [Heap.size_push] at h2;exact .inr ⟨h2,h3⟩
 have look:∀ {y},scope.names.lookup y=some .free->∃ c,cenv.cells.lookup y=some c/\X.env.cells.lookup y=some c:=λ{y} hl=>by
  have hy:(y,NameKind.free)∈scope.names:=VO hl
  obtain ⟨c',e'⟩:=mem_lookup (zm (names:=scope.names) (n:=(s.heap.push { cls:=.type "dict",data:=.dict #[] }).objs.size) (ye (cells:=X.env.cells) (acc:=[]) hy))
  rw [<- hcl] at e'
  refine ⟨c',e',?_⟩
  rw [hcl] at e'
  rcases v7 (VO e') with hm | ⟨h1,_,_⟩
  ·exact (cm hm).1
  ·have:=ok.uniq _ h1
   rw [hl] at this;cases this
 have okB:(X.Hy s H scope cenv fp).Ok:=by
  refine ⟨I.ok.mod,by show cenv.scope.kind=_;rw [hsc];exact ok.kind,by show cenv.globals=_;rw [<- hcenv];exact I.ok.glob,by show cenv.builtins=_;rw [<- hcenv];exact I.ok.blt,by show s.heap.objs.size<=cenv.locals;rw [hL];exact U1 _,
   λy z c e1 e2=>?_,λy hy=>?_,λy c z e=>?_,I.ok.hd,I.ok.frames,.inl rfl,λb hb=>⟨?_,λy c e z=>?_⟩,I.bs,U8 I.ok.Pr I.sz,λb o e hb=>?_,λb hb z=>?_,I.stack,I.K8⟩
  ·have e1:cenv.cells.lookup y=some c:=e1
   have e2:cenv.cells.lookup z=some c:=e2
   rw [hcl] at e1 e2
   refine Ck (λp hp=>?_) (λy z c a b=>I.ok.inj y z c (cm a).1 (cm b).1) (VO e1) (VO e2)
   rw [Heap.size_push]
   exact Nat.lt_succ_of_lt (cm (y:=p.1) (c:=p.2) hp).2
  ·show ∃ c,cenv.cells.lookup y=some c
   have key:∀ k,cenv.kindOf y=some k->(k=.cell∨k=.free)->∃ c,cenv.cells.lookup y=some c:=λk hk hk'=>by
    unfold Env.kindOf at hk
    rw [hsc] at hk
    obtain ⟨k',e,r⟩:=xU hk
    have:k'=.cell∨k'=.free:=by
     rcases r with rfl | ⟨rfl,_⟩
     ·exact hk'
     ·exact .inr rfl
    rcases this with rfl | rfl
    ·obtain ⟨c,hm⟩:=CF (n:=(s.heap.push { cls:=.type "dict",data:=.dict #[] }).objs.size) (acc:=dR X.env.cells scope.names []) (VO e)
     obtain ⟨c',e'⟩:=mem_lookup hm
     exact ⟨c',by rw [hcl];exact e'⟩
    ·obtain ⟨c,h1,_⟩:=look e
     exact ⟨c,h1⟩
   rcases hy with hy | hy
   ·exact key _ hy (.inl rfl)
   ·exact key _ hy (.inr rfl)
  ·have z:(scope.names.lookup y == some NameKind.cell)=true:=z
   have z:scope.names.lookup y=some .cell:=by simpa using z
   have e:cenv.cells.lookup y=some c:=e
   rw [hcl] at e
   rcases v7 (VO e) with hm | ⟨_,h2,_⟩
   ·rcases tV hm with hm | ⟨h1,_⟩
    ·cases hm
    ·have q:=ok.uniq _ h1
     rw [z] at q;cases q
   ·rw [Heap.size_push] at h2
    exact Nat.le_of_succ_le h2
  ·show b≠cenv.locals
   rw [hL];exact Vh (hfp b hb).2
  ·have e:cenv.cells.lookup y=some c:=e
   rcases mem e with ⟨h1,_⟩ | ⟨h1,_⟩
   ·exact (hfp b hb).1.2.2.2.2.1 y c h1 z
   ·have h2:s.heap.objs.size+1<=b:=by rw [<- z];exact h1
    exact absurd (VH (hfp b hb).2 (Nat.le_of_succ_le h2)) (VT _)
  ·rcases (hfp b hb).1.2.2.2.1 with z | z
   ·exact I.ok.O2 b o e z
   ·exact absurd (VH (Heap.lt_size e) (U8 I.ok.Pr z)) (VT _)
  ·rcases U4.mp (I.K2 b z) with z | z
   ·exact (hfp b hb).1.2.1 z
   ·exact (hfp b hb).1.2.2.1 z
 refine ⟨okB,rfl,I.bare,Un.kept kp,⟨λ_=>none,?_,λi y av e1 e2 e3=>?_⟩,λy c e=>?_,?_,λy c e=>?_,λp hp=>?_,I.dv.kept kp,by rw [yh];exact I.len⟩
 ·show Heap.Ns _ cenv.locals _
  rw [hL]
  exact Heap.Ns.keeps (Heap.Ns.new ..) λb o e=>pushCells_keeps _ _ _ _ e
 ·obtain ⟨e2,hne⟩:=Cg e2
  have hfr:scope.names.lookup y=some .free/\(cenv.kindOf y=some .cell∨cenv.kindOf y=some .free):=by
   have key:∀ k,cenv.scope.names.lookup y=some k->k=.local∨k=.cell∨k=.free->scope.names.lookup y=some .free/\(cenv.kindOf y=some .cell∨cenv.kindOf y=some .free):=λk hk hk'=>by
    have hk0:=hk
    rw [hsc] at hk
    obtain ⟨k',e,r⟩:=xU hk
    have no:¬ (k'=.local∨k'=.cell):=λhh=>by
     rcases ok.own _ (VO e) hh with e' | e'
     ·obtain ⟨p,hp,hpy⟩:=Vb.mp e'
      have e3:=ok.ix p hp
      have:p.1=y:=hpy
      rw [this] at e3
      exact hne (Vb.mpr ⟨p,hp,Ff hN e3 e1⟩)
     ·exact e' (Vx e1)
    rcases r with rfl | ⟨rfl,rfl⟩
    ·rcases hk' with rfl | rfl | rfl
     ·exact absurd (.inl rfl) no
     ·exact absurd (.inr rfl) no
     ·exact ⟨e,.inr hk0⟩
    ·exact ⟨e,.inl hk0⟩
   have e3:Sa cenv.scope y:=e3
   rcases e3 with e3 | e3 | e3
   ·exact key _ e3 (.inl rfl)
   ·exact key _ e3 (.inr (.inl rfl))
   ·exact key _ e3 (.inr (.inr rfl))
  obtain ⟨m,hn,hl⟩:=I.loc
  have hvis:Sa X.env.scope y:=(ok.free _ (VO hfr.1) rfl).elim (λk=>.inr (.inl k)) (λk=>.inr (.inr k))
  obtain ⟨w,r,q⟩:=hl i y av e1 e2 hvis
  refine ⟨w,r,.inr ⟨hfr.2,?_⟩⟩
  obtain ⟨c,h1,h2⟩:=look hfr.1
  rcases q with ⟨k,_⟩ | ⟨_,c',e',z⟩
  ·have k:X.env.scope.names.lookup y=some .local:=k
   rcases ok.free _ (VO hfr.1) rfl with k' | k'<;>rw [show X.env.scope.names.lookup y=_ from k'] at k<;>cases k
  ·rw [h2] at e';cases e'
   exact ⟨c,h1,z.keeps kp⟩
 ·have e:cenv.cells.lookup y=some c:=e
  rcases mem e with ⟨h1,_⟩ | ⟨_,z⟩
  ·obtain ⟨w,z⟩:=I.cell y c h1
   exact ⟨w,z.keeps kp⟩
  ·exact ⟨_,z⟩
 ·show H cenv.locals=none
  rw [hL];exact I.dv.fresh (U1 _)
 ·have e:cenv.cells.lookup y=some c:=e
  rcases mem e with ⟨h1,_⟩ | ⟨h1,_⟩
  ·exact I.vO y c h1
  ·exact I.dv.fresh (Nat.le_of_succ_le h1)
 ·exact absurd (show p∈([]:List (Addr × Obj))++[] from hp) (by simp)
theorem QP {E:Value->Shared->Prop} {D:Addr} {xs:List V} {y:V} {v:Value} {Q:Value->Shared->Prop} (I:Inv X pins σ H s) (hD:H D=some (.lst xs)) (hz:xs.length < sizeLine) (r:RelV y v)
  (h:∀ s',Inv X pins σ (upd H D (.lst (xs++[y]))) s'->Q .none s'):wpAny (model X.prog X.w) X.A (call (.builtin "list.append") [.ref D,v]) Q E s:=by
 obtain ⟨hz',its,n,ri,e⟩:=I.dv D _ hD
 have hl:=ri.length
 refine append_at (hsz:=by rw [Vf];lia) e λh' sb ho'=>?_
 refine h { s with heap:=h' } (I.write (t':=s.toks) (by rw [hD];trivial) (.inl rfl) (λb u hb q=>(sb.2 b hb).trans q) ⟨_,ho'⟩ ⟨by rw [VD];exact hz,its++[v],n+1,ri.append (.cons r .nil),?_⟩)
 rw [ho']
 simp
def Sy (X:Cx) (ifs:List Expr) (t:TT):Prop :=
 ∀ (pins:List (Addr × Obj)) (s:Shared) (σ:St) (H:Hp) (Q:Bool->Hp->Prop),Inv X pins σ H s->t σ H Q ->
  wpAny (model X.prog X.w) X.A (forIn ifs true λc r=>if r=true then do let ok <- isTrue c X.env (eval c X.env);pure (ForInStep.yield ok) else pure (ForInStep.yield r)) (TP X pins σ Q) X.xe s
def Ti:TT:=λ_ H Q=>Q true H
theorem oP:Sy X [] Ti:=λ_ _ _ H _ I h=>wpAny_tests_nil ⟨H,I,h⟩
theorem Bl {c:Expr} {t:TT} (h:PT X c t):Sy X [c] t:=λpins s σ H Q I hw=>wpAny_tests_one (h pins s σ H Q I hw)
end
theorem MQ {α:Type} {t:Sem α} {Q Q':α->Shared->Prop} {M:Model} {A:Around} {E:Value->Shared->Prop} {s:Shared} (h:wpAny M A t Q (λ_ _=>False) s) (hQ:∀ a s,Q a s->Q' a s):wpAny M A t Q' E s:=wpAny_mono h hQ λ_ _ z=>False.elim z
theorem Hz {prog:Program} {w:World} {A:Around} {R:Result->Shared->Prop} {s:Shared} {elt target iter:Expr} {ifs:List Expr} {scope:Scope} {pos:Pos} {it acc:Value} {env:Env} (I:Nat->Shared->Prop)
  (turn:∀ n s,I n s->wpAny (model prog w) A (pyNext it) (λr s₁=>match r with
   | none=>R (.ok .next) s₁
   | some v=>wpAny (model prog w) A (letOwnedTupleGo target it v) (λ_ s₁'=>wpAny (model prog w) A (assign target env v) (λ_ s₂ =>
     wpAny (model prog w) A (forIn ifs true λc r=>if r=true then do let ok <- isTrue c env (eval c env);pure (ForInStep.yield ok) else pure (ForInStep.yield r)) (λok s₃ =>
      if ok=true then wpAny (model prog w) A (eval elt env) (λx s₄ =>
       wpAny (model prog w) A (call (.builtin "list.append") [acc,x]) (λ_ s₅=>∃ m,m < n/\I m s₅) (notedBy (model prog w) A env λe s'=>R (.error e) s') s₄) (notedBy (model prog w) A env λe s'=>R (.error e) s') s₃
      else ∃ m,m < n/\I m s₃) (notedBy (model prog w) A env λe s'=>R (.error e) s') s₂) (notedBy (model prog w) A env λe s'=>R (.error e) s') s₁') (notedBy (model prog w) A env λe s'=>R (.error e) s') s₁) (notedBy (model prog w) A env λe s'=>R (.error e) s') s)
  (n:Nat) (h:I n s) :
  codeAny (model prog w) A (.compLoop (.ListComp elt [⟨target,iter,ifs,0⟩] scope pos) 0 it acc env) R s:=by
 refine codeAny_loop rfl I (λn s hI=>?_) n h
 show wpAny _ A ((compTurn (.ListComp elt [⟨target,iter,ifs,0⟩] scope pos) 0 it acc env).onRaise (λx=>do noteFrame x env;theTreesLotGoes x)) _ _ s
 refine wpAny_noted ?_
 rw [compTurn_list]
 refine wpAny_bind (wpAny_standAt (wpAny_bind (wpAny_mono (turn n s hI) (λr s₁ h₁=>?_) λ_ _ h'=>h')))
 cases r with
 | none=>exact wpAny_pure h₁
 | some v =>
  refine wpAny_bind (wpAny_mono h₁ (λ_ s₁' h₁'=>?_) λ_ _ h'=>h')
  refine wpAny_bind (wpAny_mono h₁' (λ_ s₂ h₂=>wpAny_bind (wpAny_mono h₂ (λok s₃ h₃=>?_) λ_ _ h'=>h')) λ_ _ h'=>h')
  cases ok with
  | false=>exact wpAny_pure ⟨rfl,h₃⟩
  | true =>
   exact wpAny_bind (wpAny_bind (wpAny_mono h₃ (λx s₄ h₄=>wpAny_bind (wpAny_mono h₄ (λ_ s₅ h₅=>wpAny_pure (wpAny_pure ⟨rfl,h₅⟩)) λ_ _ h'=>h')) λ_ _ h'=>h'))
section
variable {X:Cx}
def TK (wi:TI) (g:TG) (tt:TT) (te:TE) (vs:List Nat):TE:=λσ H Q=>wi σ H λJ H1=>∀ D,H1 D=none->∃ W:Nat->Nat->Hp->Prop,(∃ m,W 0 m (upd H1 D (.lst [])))/\∀ i m H,W i m H ->
 (J.stop i H/\Q (.ref D) H)∨(J.go i H/\∃ Nx:Hp->Prop,(∀ H',Nx H'->∃ m',m' < m/\W (i+1) m' H')/\∀ x H',J.Ql i H x H'->g x (wipe σ vs) H' λσ2 H2=>wipe σ2 vs=wipe σ vs/\tt σ2 H2 λb H3 =>
  if b=true then te σ2 H3 λy H4=>∃ acc,H4 D=some (.lst acc)/\acc.length < sizeLine/\Nx (upd H4 D (.lst (acc++[y]))) else Nx H3)
theorem LC {pins:List (Addr × Obj)} {s:Shared} {σ:St} {H:Hp} {Q:VK} {elt tg iter:Expr} {ifs:List Expr} {scope:Scope} {own:List (Str × Nat)} {pos pos':Pos} {wi:TI} {g:TG} {tt:TT} {te:TE} {use:Option (Value->Sem Unit)} {Qf:Value->Shared->Prop}
  (hc:X.calm=true) (hN:X.N.Nodup) (I:Inv X pins σ H s) (hi:PI X tg iter wi) (ok:JE X.N X.env.scope scope own)
  (hg:∀ (s:Shared) (H:Hp) (C:Addr) (cl:List (Str × Addr)) (fp:List Addr),PG (X.Hy s H scope (compEnvC scope cl C X.env) fp) tg g) (ht:∀ (s:Shared) (H:Hp) (C:Addr) (cl:List (Str × Addr)) (fp:List Addr),Sy (X.Hy s H scope (compEnvC scope cl C X.env) fp) ifs tt)
  (he:∀ (s:Shared) (H:Hp) (C:Addr) (cl:List (Str × Addr)) (fp:List Addr),PE (X.Hy s H scope (compEnvC scope cl C X.env) fp) elt te) (hs:∀ x,foldedSetIterable iter X.env x=pure x)
  (h:TK wi g tt te (own.map (·.2)) σ H Q)
  (hRR:∀ D C s' m H',Inv X pins σ H' s'->Q (.ref D) H'->s'.heap.Ns C m->FQ X pins H' C->compPost (model X.prog X.w) X.A X.xe use Qf (.ref D) C (.ok .next) s') :
  wpAny (model X.prog X.w) X.A (comprehension (.ListComp elt [⟨tg,iter,ifs,0⟩] scope pos) scope X.env pos' (newList []) false (eval iter X.env) use) Qf X.xe s:=by
 have hfree:∀ y∈scope.names,y.2=.free->∃ c,X.env.cells.lookup y.1=some c:=λy hy e=>by
  rcases ok.free y hy e with k | k
  ·exact I.ok.has _ (.inl k)
  ·exact I.ok.has _ (.inr k)
 refine wpAny_comprehension_free (use:=use) rfl hs (Kf hfree) ok.kind (λy hy e=>by rw [ok.uniq y hy,e])
  (dN (hi pins s σ H _ I h) λxv s1 hx=>dN hx λitv s2 h2=>?_)
 obtain ⟨it,fp,tn,J,H2,e,I2,T,st2,f2,q⟩:=h2
 subst e
 refine wpAny_newObj_type (IJ ?_) (by show 0<=sizeLine;decide)
 generalize hD:s2.heap.objs.size=D
 have hDn:H2 D=none:=I2.dv.fresh (Nat.le_of_eq hD)
 obtain ⟨W,⟨m0,w0⟩,turn⟩:=q D hDn
 generalize hs3:({ s2 with heap:=s2.heap.push { cls:=.type "list",data:=.seq ([]:List Value).toArray } }:Shared)=s3
 have I3:Inv X pins σ (upd H2 D (.lst [])) s3:=by
  rw [<- hs3]
  refine I2.laid (t':=s2.toks) (λb o e=>Heap.get?_push_of_some _ e) (Nat.le_of_eq hD) ⟨Vt _,[],0,.nil,?_⟩
  rw [<- hD]
  exact Heap.get?_push_size _ rfl
 have h3:s3.heap=s2.heap.push { cls:=.type "list",data:=.seq ([]:List Value).toArray }:=by rw [<- hs3]
 have sz:∀ b∈fp,b < s2.heap.objs.size:=λb hb=>by
  obtain ⟨o,e,_⟩:=T.obj _ _ st2 b hb
  exact Heap.lt_size e
 have f3:∀ b∈fp,FQ X pins (upd H2 D (.lst [])) b/\b < s3.heap.objs.size:=λb hb=>by
  have hlt:=sz b hb
  refine ⟨⟨?_,(f2 b hb).2⟩,by rw [h3,Heap.size_push];exact Nat.lt_succ_of_lt hlt⟩
  rw [ak (by rw [<- hD];exact Vh hlt)]
  exact (f2 b hb).1
 have st3:tn 0 s3.heap:=T.keep _ _ _ st2 λb _ o e=>by rw [h3];exact Heap.get?_push_of_some _ e
 have I4:=JS I3 ok hN f3
 have pg:=hg s3 (upd H2 D (.lst [])) s3.heap.objs.size (cellsFrom (s3.heap.objs.size+1) scope.names (dR X.env.cells scope.names [])) fp
 have pt:=ht s3 (upd H2 D (.lst [])) s3.heap.objs.size (cellsFrom (s3.heap.objs.size+1) scope.names (dR X.env.cells scope.names [])) fp
 have pe:=he s3 (upd H2 D (.lst [])) s3.heap.objs.size (cellsFrom (s3.heap.objs.size+1) scope.names (dR X.env.cells scope.names [])) fp
 show codeAny _ _ (.compStart (.ListComp elt [⟨tg,iter,ifs,0⟩] scope pos) 0 (.ref it) (.ref D) (compEnvC scope (cellsFrom (s3.heap.objs.size+1) scope.names (dR X.env.cells scope.names [])) s3.heap.objs.size X.env)) (compPost (model X.prog X.w) X.A X.xe use Qf (.ref D) s3.heap.objs.size) { s3 with heap:=pushCells (s3.heap.push { cls:=.type "dict",data:=.dict #[] }) scope.names }
 have nfp:∀ b∈fp,(upd H2 D (.lst [])) b=none:=λb hb=>(f3 b hb).1.1
 generalize hce:compEnvC scope (cellsFrom (s3.heap.objs.size+1) scope.names (dR X.env.cells scope.names [])) s3.heap.objs.size X.env=ce at I4 pg pt pe ⊢
 have cL:ce.locals=s3.heap.objs.size:=by subst hce;rfl
 generalize hH3:upd H2 D (.lst [])=H3 at I3 I4 pg pt pe w0 nfp f3
 generalize hs4:({ s3 with heap:=pushCells (s3.heap.push { cls:=.type "dict",data:=.dict #[] }) scope.names }:Shared)=s4 at I4 ⊢
 have st4:tn 0 s4.heap:=T.keep _ _ _ st3 λb _ o e=>by rw [<- hs4];exact pushCells_keeps _ _ _ _ (Heap.get?_push_of_some _ e)
 have stat:∀ {σ':St} {H':Hp} {s':Shared},Inv (X.Hy s3 H3 scope ce fp) [] σ' H' s'->(∀ b∈fp,H' b=none)->∀ b∈fp,FQ (X.Hy s3 H3 scope ce fp) [] H' b:=λ{σ' H' s'} I' hn b hb =>
  ⟨hn b hb,(I'.ok.TL b hb).1,I'.ok.O3 b hb,.inl hb,λx c e=>(I'.ok.TL b hb).2 x c e,λp hp=>absurd (show p∈([]:List (Addr × Obj))++[] from hp) (by simp)⟩
 have loop:codeAny (model X.prog X.w) X.A (.compLoop (.ListComp elt [⟨tg,iter,ifs,0⟩] scope pos) 0 (.ref it) (.ref D) ce) (compPost (model X.prog X.w) X.A X.xe use Qf (.ref D) s3.heap.objs.size) s4:=by
  refine Hz (λn s'=>∃ i H',Inv (X.Hy s3 H3 scope ce fp) [] (wipe σ (own.map (·.2))) H' s'/\tn i s'.heap/\(∀ b∈fp,H' b=none)/\W i n H') ?_ m0 ⟨0,H3,I4,st4,nfp,w0⟩
  rintro n s5 ⟨i,H5,I5,st5,n5,w5⟩
  rcases turn i n H5 w5 with ⟨stop,qq⟩ | ⟨go,Nx,hNx,step⟩
  ·have td:=T.done (X.Hy s3 H3 scope ce fp) rfl rfl rfl hc i [] s5 _ H5 (λ_ _=>False) I5 (stat I5 n5) st5 stop
   refine MQ td λr s6 ⟨hr,I6⟩=>?_
   subst hr
   have I7:Inv X pins σ H5 s6:=I3.S7 (ch:=fp) I6.os I6.base I6.dv I6.bare λb hb=>⟨(f3 b hb).1.2.2.2.1,(f3 b hb).1.2.1,(f3 b hb).1.2.2.2.2.1,(f3 b hb).1.2.2.2.2.2⟩
   have nC:H5 s3.heap.objs.size=none:=by
    have z:H5 ce.locals=none:=I6.free
    rw [cL] at z
    exact z
   obtain ⟨m,hn,_⟩:=I6.loc
   have hn:s6.heap.Ns ce.locals m:=hn
   rw [cL] at hn
   exact hRR D s3.heap.objs.size s6 m H5 I7 qq hn (I3.Oj (U1 _) nC)
  ·have ti:=T.item (X.Hy s3 H3 scope ce fp) rfl rfl rfl hc i [] s5 _ H5 (λ_ _=>False) I5 (stat I5 n5) st5 go
   refine MQ ti λr s6 ⟨u,hr,h6⟩=>?_
   subst hr
   refine MQ h6 λ_ s7 ⟨x,H7,I7,r7,y7,st7,n7⟩=>?_
   have I7':=I7.pinned (stat I7 n7) (T.obj _ _ st7)
   refine MQ (pg _ s7 _ H7 x u _ I7' r7 (step x H7 y7)) λ_ s8 ⟨σ8,H8,I8,hw8,q8⟩=>?_
   refine MQ (pt _ s8 σ8 H8 _ I8 q8) λb s9 ⟨H9,I9,q9⟩=>?_
   have fin:∀ {s':Shared} {H':Hp},Inv (X.Hy s3 H3 scope ce fp) ([]++Fp fp s7.heap) σ8 H' s'->Nx H'->∃ m,m < n/\∃ i H',Inv (X.Hy s3 H3 scope ce fp) [] (wipe σ (own.map (·.2))) H' s'/\tn i s'.heap/\(∀ b∈fp,H' b=none)/\W i m H':=λ{s' H'} I' nx=>by
    obtain ⟨m',hm,w'⟩:=hNx H' nx
    have pin':∀ b∈fp,∀ o,s7.heap.get? b=some o->s'.heap.get? b=some o/\H' b=none:=λb hb o e =>
     let z:=I'.pin (b,o) (Wv _ (Wv _ (zT hb e)))
     ⟨z.1,z.2.1⟩
    have hl:(wipe σ (own.map (·.2))).length=σ8.length:=by rw [<- hw8,yh]
    refine ⟨m',hm,i+1,H',(I'.AU (pins:=[])).weak hl (λj v e=>?_),T.keep _ _ _ st7 λb hb o e=>(pin' b hb o e).1,λb hb=>?_,w'⟩
    ·rw [<- hw8] at e
     exact (Cg e).1
    ·obtain ⟨o,e,_⟩:=T.obj _ _ st7 b hb
     exact (pin' b hb o e).2
   cases b with
   | false =>
    simp only [Bool.false_eq_true,if_false] at q9 ⊢
    exact fin I9 q9
   | true =>
    simp only [if_true] at q9 ⊢
    refine MQ (pe _ s9 σ8 H9 _ I9 q9) λz s10 ⟨yv,H10,I10,r10,acc,hD10,hz10,nx⟩=>?_
    exact QP (X:=X.Hy s3 H3 scope ce fp) I10 hD10 hz10 r10 λs11 I11=>fin I11 nx
 exact codeAny_compStart_list loop (T.self X.A 0 _ _ _ st4 loop)
theorem xm {elt tg iter:Expr} {ifs:List Expr} {scope:Scope} {own:List (Str × Nat)} {pos:Pos} {wi:TI} {g:TG} {tt:TT} {te:TE} (hc:X.calm=true) (hN:X.N.Nodup) (hi:PI X tg iter wi) (ok:JE X.N X.env.scope scope own)
  (hg:∀ (s:Shared) (H:Hp) (C:Addr) (cl:List (Str × Addr)) (fp:List Addr),PG (X.Hy s H scope (compEnvC scope cl C X.env) fp) tg g) (ht:∀ (s:Shared) (H:Hp) (C:Addr) (cl:List (Str × Addr)) (fp:List Addr),Sy (X.Hy s H scope (compEnvC scope cl C X.env) fp) ifs tt)
  (he:∀ (s:Shared) (H:Hp) (C:Addr) (cl:List (Str × Addr)) (fp:List Addr),PE (X.Hy s H scope (compEnvC scope cl C X.env) fp) elt te) (hs:∀ x,foldedSetIterable iter X.env x=pure x:=by intro _;rfl) :
  PE X (.ListComp elt [⟨tg,iter,ifs,0⟩] scope pos) (TK wi g tt te (own.map (·.2))):=by
 intro pins s σ H Q I h
 rw [eval_ListComp]
 refine LC hc hN I hi ok hg ht he hs h λD C s' m H' I' q hn f=>⟨m,hn,λh'' sb=>?_⟩
 obtain ⟨f0,f1,f2,f3,f4,f5⟩:=f
 exact ⟨.ref D,H',I'.turned (t':=s'.toks) (λb o hb e=>(sb.2 b hb).trans e) f0 f1 f3 f4 f5,rfl,q⟩
theorem Bp {i:Nat} {y:Str} {py:Pos} {elt tg iter:Expr} {ifs:List Expr} {scope:Scope} {own:List (Str × Nat)} {pos KN:Pos} {wi:TI} {g:TG} {tt:TT} {te:TE} (hc:X.calm=true) (hN:X.N.Nodup) (hy:X.N[i]?=some y) (hyl:X.env.scope.names.lookup y=some .local)
  (hsw:swapsWith (.ListComp elt [⟨tg,iter,ifs,0⟩] scope pos) (some (.Name y py)) KN.line X.env=pure true) (hi:PI X tg iter wi) (ok:JE X.N X.env.scope scope own)
  (hg:∀ (s:Shared) (H:Hp) (C:Addr) (cl:List (Str × Addr)) (fp:List Addr),PG (X.Hy s H scope (compEnvC scope cl C X.env) fp) tg g) (ht:∀ (s:Shared) (H:Hp) (C:Addr) (cl:List (Str × Addr)) (fp:List Addr),Sy (X.Hy s H scope (compEnvC scope cl C X.env) fp) ifs tt)
  (he:∀ (s:Shared) (H:Hp) (C:Addr) (cl:List (Str × Addr)) (fp:List Addr),PE (X.Hy s H scope (compEnvC scope cl C X.env) fp) elt te) (hs:∀ x,foldedSetIterable iter X.env x=pure x:=by intro _;rfl) :
  PS X (.Assign [.Name y py] (.ListComp elt [⟨tg,iter,ifs,0⟩] scope pos) KN) (RS (TK wi g tt te (own.map (·.2))) (LH i)):=by
 intro pins s σ H D I h
 rw [exec_Assign_Name_used _ _ _ _ hsw]
 refine wpAny_bind (wpAny_standAt (wpAny_bind ?_))
 show wpAny _ X.A (do let _ <- comprehension (.ListComp elt [⟨tg,iter,ifs,0⟩] scope pos) scope X.env (firstIterPos [⟨tg,iter,ifs,0⟩] pos) (newList []) false (eval iter X.env) (some (assign (.Name y py) X.env))) _ _ s
 have h:TK wi g tt te (own.map (·.2)) σ H (λx H1=>LH i x σ H1 D.nx):=h
 refine wpAny_bind (dN (LC (Qf:=λ_ s'=>SP X pins D .next s') hc hN I hi ok hg ht he hs h λL C s' m H' I' q hn f=>?_) λ_ s' hq=>wpAny_pure (wpAny_pure hq))
 show wpAny _ _ (assign (.Name y py) X.env (.ref L)) _ _ _
 refine wpAny_assign_Name (Gm (v:=V.ref L) I' hN hy (.inl hyl) rfl (λs2 I2 ⟨a,sb,ha⟩=>?_) (.inr hyl))
 obtain ⟨f0,f1,f2,f3,f4,f5⟩:=f
 have haC:C≠a:=by
  rcases ha with z | z
  ·rw [z];exact f1
  ·exact λe=>f4 y a z e.symm
 refine ⟨m,hn.sameBut sb haC,λh3 sb3=>?_⟩
 exact ⟨_,H',I2.turned (t':=s2.toks) (λb o hb e=>(sb3.2 b hb).trans e) f0 f1 f3 f4 f5,q⟩
theorem DV {elt:Expr} {gs:List Comprehension} {scope:Scope} {pos py:Pos} {y:Str} {l:Nat} {env:Env} (hk:env.scope.kind=.function) (hy:env.scope.names.lookup y=some .local) (hl:(py.line == pos.line)=true)
  (ha:(scope.names.any λ(n,k)=>n == y&&(k == .local || k == .cell))=false):swapsWith (.ListComp elt gs scope pos) (some (.Name y py)) l env=pure true:=by
 have ky:env.kindOf y=some .local:=hy
 have hb:env.blockKind=.function:=by unfold Env.blockKind;rw [hk];rfl
 unfold swapsWith
 simp only [hb,ky,ha,Expr.pos,hl]
 rfl
end
theorem I0 {lo:Int} {n:Nat} {g:TG} {tt:TT} {te:TE} {vs:List Nat} {σ:St} {H1:Hp} {D:Addr} {Qd:Hp->Prop} (Pv:Nat->Hp->Prop) (h0:Pv 0 (upd H1 D (.lst [])))
  (hs:∀ i H,i < n->Pv i H->g (.int (lo+i)) (wipe σ vs) H λσ2 H2=>wipe σ2 vs=wipe σ vs/\tt σ2 H2 λb H3 =>
   if b=true then te σ2 H3 λy H4=>∃ acc,H4 D=some (.lst acc)/\acc.length < sizeLine/\Pv (i+1) (upd H4 D (.lst (acc++[y]))) else Pv (i+1) H3) (hd:∀ H,Pv n H->Qd H) :
  ∃ W:Nat->Nat->Hp->Prop,(∃ m,W 0 m (upd H1 D (.lst [])))/\∀ i m H,W i m H ->
   ((Sd lo n).stop i H/\Qd H)∨((Sd lo n).go i H/\∃ Nx:Hp->Prop,(∀ H',Nx H'->∃ m',m' < m/\W (i+1) m' H')/\∀ x H',(Sd lo n).Ql i H x H'->g x (wipe σ vs) H' λσ2 H2=>wipe σ2 vs=wipe σ vs/\tt σ2 H2 λb H3 =>
    if b=true then te σ2 H3 λy H4=>∃ acc,H4 D=some (.lst acc)/\acc.length < sizeLine/\Nx (upd H4 D (.lst (acc++[y]))) else Nx H3):=by
 refine ⟨λi m H=>m=n - i/\i<=n/\Pv i H,⟨n,by simp,Vt _,h0⟩,?_⟩
 rintro i m H ⟨rfl,hi,p⟩
 by_cases hlt:i < n
 ·refine .inr ⟨hlt,Pv (i+1),λH' p'=>⟨n - (i+1),by lia,rfl,hlt,p'⟩,λx H' y=>?_⟩
  obtain ⟨e,y⟩:=y
  subst e y
  exact hs i _ hlt p
 ·have e:i=n:=by lia
  subst e
  exact .inl ⟨U1 _,hd H p⟩
theorem tZ {K:UR} {a:Addr} {xs:List V} {g:TG} {tt:TT} {te:TE} {vs:List Nat} {σ:St} {H1:Hp} {D:Addr} {Qd:Hp->Prop} (Pv:Nat->Hp->Prop) (h0:Pv 0 (upd H1 D (.lst []))) (hl:∀ i H,i<=xs.length->Pv i H->bc K H a xs)
  (hs:∀ i x H,xs[i]?=some x->Pv i H->g x (wipe σ vs) H λσ2 H2=>wipe σ2 vs=wipe σ vs/\tt σ2 H2 λb H3 =>
   if b=true then te σ2 H3 λy H4=>∃ acc,H4 D=some (.lst acc)/\acc.length < sizeLine/\Pv (i+1) (upd H4 D (.lst (acc++[y]))) else Pv (i+1) H3) (hd:∀ H,Pv xs.length H->Qd H) :
  ∃ W:Nat->Nat->Hp->Prop,(∃ m,W 0 m (upd H1 D (.lst [])))/\∀ i m H,W i m H ->
   ((QF K a).stop i H/\Qd H)∨((QF K a).go i H/\∃ Nx:Hp->Prop,(∀ H',Nx H'->∃ m',m' < m/\W (i+1) m' H')/\∀ x H',(QF K a).Ql i H x H'->g x (wipe σ vs) H' λσ2 H2=>wipe σ2 vs=wipe σ vs/\tt σ2 H2 λb H3 =>
    if b=true then te σ2 H3 λy H4=>∃ acc,H4 D=some (.lst acc)/\acc.length < sizeLine/\Nx (upd H4 D (.lst (acc++[y]))) else Nx H3):=by
 refine ⟨λi m H=>m=xs.length - i/\i<=xs.length/\Pv i H,⟨xs.length,by simp,Vt _,h0⟩,?_⟩
 rintro i m H ⟨rfl,hi,p⟩
 have q:=hl i H hi p
 by_cases hlt:i < xs.length
 ·refine .inr ⟨⟨xs,xs[i],q,by simp [hlt]⟩,Pv (i+1),λH' p'=>⟨xs.length - (i+1),by lia,rfl,hlt,p'⟩,λx H' y=>?_⟩
  obtain ⟨e,y⟩:=y
  subst e
  exact hs i x _ (y xs q) p
 ·have e:i=xs.length:=by lia
  subst e
  exact .inl ⟨⟨xs,q,U1 _⟩,hd H p⟩
theorem KL {K:UR} {a:Addr} {xs:List V} {g:TG} {tt:TT} {te:TE} {vs:List Nat} {σ:St} {H1:Hp} {D:Addr} {Qd:Hp->Prop} (Pv:Nat->Hp->Prop) (h0:Pv 0 (upd H1 D (.lst []))) (hl:∀ i H,i<=xs.length->Pv i H->gg K H a xs)
  (hs:∀ i x H,xs[i]?=some x->Pv i H->g x (wipe σ vs) H λσ2 H2=>wipe σ2 vs=wipe σ vs/\tt σ2 H2 λb H3 =>
   if b=true then te σ2 H3 λy H4=>∃ acc,H4 D=some (.lst acc)/\acc.length < sizeLine/\Pv (i+1) (upd H4 D (.lst (acc++[y]))) else Pv (i+1) H3) (hd:∀ H,Pv xs.length H->Qd H) :
  ∃ W:Nat->Nat->Hp->Prop,(∃ m,W 0 m (upd H1 D (.lst [])))/\∀ i m H,W i m H ->
   ((SI K a).stop i H/\Qd H)∨((SI K a).go i H/\∃ Nx:Hp->Prop,(∀ H',Nx H'->∃ m',m' < m/\W (i+1) m' H')/\∀ x H',(SI K a).Ql i H x H'->g x (wipe σ vs) H' λσ2 H2=>wipe σ2 vs=wipe σ vs/\tt σ2 H2 λb H3 =>
    if b=true then te σ2 H3 λy H4=>∃ acc,H4 D=some (.lst acc)/\acc.length < sizeLine/\Nx (upd H4 D (.lst (acc++[y]))) else Nx H3):=by
 refine ⟨λi m H=>m=xs.length - i/\i<=xs.length/\Pv i H,⟨xs.length,by simp,Vt _,h0⟩,?_⟩
 rintro i m H ⟨rfl,hi,p⟩
 have q:=hl i H hi p
 by_cases hlt:i < xs.length
 ·refine .inr ⟨⟨xs,xs[i],q,by simp [hlt]⟩,Pv (i+1),λH' p'=>⟨xs.length - (i+1),by lia,rfl,hlt,p'⟩,λx H' y=>?_⟩
  obtain ⟨e,y⟩:=y
  subst e
  exact hs i x _ (y xs q) p
 ·have e:i=xs.length:=by lia
  subst e
  exact .inl ⟨⟨xs,q,U1 _⟩,hd H p⟩
def xC (N:List Str) (sc scope:Scope) (own:List (Str × Nat)):Bool :=
 (match scope.kind with | .function=>true | _=>false)&&(scope.names.all λy=>decide (scope.names.lookup y.1=some y.2))&&(own.all λp=>decide (N[p.2]?=some p.1)) &&
  (scope.names.all λy=>match y.2 with
   | .free=>(match sc.names.lookup y.1 with | some .cell=>true | some .free=>true | _=>false)
   | .local=>decide (y.1∈own.map (·.1)) || decide (y.1 ∉ N)
   | .cell=>decide (y.1∈own.map (·.1)) || decide (y.1 ∉ N)
   | _=>true)
theorem eU {N:List Str} {sc scope:Scope} {own:List (Str × Nat)} (h:xC N sc scope own=true):JE N sc scope own:=by
 unfold xC at h
 simp only [U6,W6,decide_eq_true_eq] at h
 obtain ⟨⟨⟨h1,h2⟩,h3⟩,h4⟩:=h
 refine ⟨?_,h2,h3,λy hy e=>?_,λy hy e=>?_⟩
 ·split at h1
  ·assumption
  ·cases h1
 ·have q:=h4 y hy
  simp only [e] at q
  split at q<;>first | exact .inl (by assumption) | exact .inr (by assumption) | cases q
 ·have q:=h4 y hy
  rcases e with e | e<;>(simp only [e,Wz,decide_eq_true_eq] at q;exact q)
end L2
namespace L2
open PySem PySem.Spec PyProof.Rows
section
variable {κ:Type} [DecidableEq κ]
def k7 (kvs:List (κ × V)) (k:κ):Option V:=(kvs.find? λkv=>decide (kv.1=k)).map (·.2)
def putK (kvs:List (κ × V)) (k:κ) (v:V):List (κ × V) :=
 if (kvs.any λkv=>decide (kv.1=k))=true then kvs.map (λkv=>if kv.1=k then (kv.1,v) else kv) else kvs++[(k,v)]
def uh (kvs:List (κ × V)) (k:κ):List (κ × V):=kvs.filter λkv=>decide (kv.1≠k)
theorem Ek {p:κ × V} {r:List (κ × V)} {k:κ} (e:p.1=k):k7 (p::r) k=some p.2:=by simp [k7,Vy,e]
theorem EL {p:κ × V} {r:List (κ × V)} {k:κ} (e:¬ p.1=k):k7 (p::r) k=k7 r k:=by simp [k7,Vy,e]
theorem yB (k:κ):∀ kvs:List (κ × V),(kvs.any λkv=>decide (kv.1=k))=(k7 kvs k).isSome
 | []=>rfl
 | p::r=>by
  rw [VP]
  by_cases e:p.1=k
  ·simp only [Ek e,decide_eq_true e,Bool.true_or,Option.isSome_some]
  ·rw [EL e,decide_eq_false e,Bool.false_or];exact yB k r
theorem yr (kvs:List (κ × V)) (k:κ) (v:V):(putK kvs k v).length<=kvs.length+1:=by
 unfold putK
 split
 ·rw [UT];exact V8 _ _
 ·rw [VD,Vj,List.length_nil];exact U1 _
theorem N9 {kvs:List (κ × V)} {k:κ} (v:V) (h:k7 kvs k=none):putK kvs k v=kvs++[(k,v)]:=by
 unfold putK
 rw [yB,h]
 exact if_neg (by decide)
theorem vP.v9 {o:Option V} {u:Option Value} (r:vP o u):o.isSome=u.isSome:=by
 cases o with
 | none=>cases u with
  | none=>rfl
  | some _=>exact (show False from r).elim
 | some _=>cases u with
  | none=>exact (show False from r).elim
  | some _=>rfl
theorem vP.getD {o:Option V} {u:Option Value} {d:V} {d':Value} (r:vP o u) (rd:RelV d d'):RelV (o.getD d) (u.getD d'):=by
 cases o with
 | none=>cases u with
  | none=>exact rd
  | some _=>exact (show False from r).elim
 | some _=>cases u with
  | none=>exact (show False from r).elim
  | some _=>exact r
theorem KV.val {kvs:List (κ × V)} {vs:List (κ × Value)} (r:KV kvs vs) (k:κ):vP (k7 kvs k) (valueAt vs k):=by
 unfold KV at r
 induction r with
 | nil=>exact True.intro
 | @cons p q ps qs h t ih =>
  obtain ⟨h1,h2⟩:=h
  by_cases e:p.1=k
  ·have e':q.1=k:=h1.symm.trans e
   have b:valueAt (q::qs) k=some q.2:=by simp [valueAt,Vy,e']
   rw [Ek e,b];exact h2
  ·have e':¬ q.1=k:=λz=>e (h1.trans z)
   have b:valueAt (q::qs) k=valueAt qs k:=by simp [valueAt,Vy,e']
   rw [EL e,b];exact ih
theorem KV.any {kvs:List (κ × V)} {vs:List (κ × Value)} (r:KV kvs vs) (k:κ):(kvs.any λkv=>decide (kv.1=k))=vs.any λkv=>decide (kv.1=k):=by
 unfold KV at r
 induction r with
 | nil=>rfl
 | cons h t ih=>rw [VP,VP,ih,h.1]
theorem KV.Rb {kvs:List (κ × V)} {vs:List (κ × Value)} (r:KV kvs vs) (k:κ) {y:V} {u:Value} (ry:RelV y u) :
  KV (kvs.map λkv=>if kv.1=k then (kv.1,y) else kv) (vs.map λkv=>if kv.1=k then (kv.1,u) else kv):=by
 unfold KV at r ⊢
 induction r with
 | nil=>exact .nil
 | @cons p q ps qs h t ih =>
  rw [Vc,Vc]
  refine .cons ?_ ih
  obtain ⟨h1,h2⟩:=h
  by_cases e:p.1=k
  ·rw [if_pos e,if_pos (h1.symm.trans e)];exact ⟨h1,ry⟩
  ·rw [if_neg e,if_neg (λz=>e (h1.trans z))];exact ⟨h1,h2⟩
theorem KV.put {kvs:List (κ × V)} {vs:List (κ × Value)} (r:KV kvs vs) (k:κ) {y:V} {u:Value} (ry:RelV y u):KV (putK kvs k y) (stored vs k u):=by
 unfold putK stored
 rw [r.any k]
 by_cases e:(vs.any λkv=>decide (kv.1=k))=true
 ·rw [if_pos e,if_pos e];exact r.Rb k ry
 ·rw [if_neg e,if_neg e];exact Paired.snoc r ⟨rfl,ry⟩
theorem KV.drop {kvs:List (κ × V)} {vs:List (κ × Value)} (r:KV kvs vs) (k:κ):KV (uh kvs k) (without vs k):=by
 unfold KV at r ⊢
 unfold uh without
 induction r with
 | nil=>exact .nil
 | @cons p q ps qs h t ih =>
  obtain ⟨h1,h2⟩:=h
  rw [Ve,Ve]
  by_cases e:p.1=k
  ·have a:¬ decide (p.1≠k)=true:=by simp [e]
   have b:¬ decide (q.1≠k)=true:=by simp [h1.symm.trans e]
   rw [if_neg a,if_neg b];exact ih
  ·have e':¬ q.1=k:=λz=>e (h1.trans z)
   have a:decide (p.1≠k)=true:=by simp [e]
   have b:decide (q.1≠k)=true:=by simp [e']
   rw [if_pos a,if_pos b];exact .cons ⟨h1,h2⟩ ih
theorem KV.keys {kvs:List (κ × V)} {vs:List (κ × Value)} (r:KV kvs vs):kvs.map (·.1)=vs.map (·.1):=by
 unfold KV at r
 induction r with
 | nil=>rfl
 | cons h t ih=>rw [Vc,Vc,ih,h.1]
theorem KV.length {kvs:List (κ × V)} {vs:List (κ × Value)} (r:KV kvs vs):kvs.length=vs.length:=Paired.length r
theorem NP (kvs:List (κ × V)) (k:κ):(uh kvs k).length<=kvs.length:=VU _ _
end
theorem yF {P:Program} {w:World} {k:Key} {u:Value} (r:RelV (kV k) u):(aY P w).is k u=true:=by
 cases k with
 | inl i=>obtain ⟨t,e⟩:=(show ∃ t,u=Value.int i t from r);subst e;exact CU P w i t
 | inr x=>obtain ⟨t,e⟩:=(show ∃ t,u=Value.str x t from r);subst e;exact JY P w x t
theorem Gk {P:Program} {w:World}:∀ {ks:List Key} {us:List Value},Vals (ks.map kV) us->ItemsAre (aY P w) ks us
 | [],_,r=>by rw [Wy] at r;cases r;exact .nil
 | k::ks,_,r=>by
  rw [Vc] at r
  cases r with
  | cons h t=>exact .cons (yF h) (Gk t)
abbrev KT (H:Hp):List (List Key × V)->List (List Key × Addr × Value)->Prop:=Paired λp q=>p.1=q.1/\H q.2.1=some (.tup (p.1.map kV))/\RelV p.2 q.2.2
theorem KT.val {H:Hp} {kvs:List (List Key × V)} {xs:List (List Key × Addr × Value)} (r:KT H kvs xs) (k:List Key):vP (k7 kvs k) ((atKey xs k).map (·.2)):=by
 induction r with
 | nil=>exact True.intro
 | @cons p q ps qs h t ih =>
  obtain ⟨h1,_,h2⟩:=h
  by_cases e:p.1=k
  ·have e':q.1=k:=h1.symm.trans e
   have b:atKey (q::qs) k=some q.2:=by simp [atKey,Vy,e']
   rw [Ek e,b];exact h2
  ·have e':¬ q.1=k:=λz=>e (h1.trans z)
   have b:atKey (q::qs) k=atKey qs k:=by simp [atKey,Vy,e']
   rw [EL e,b];exact ih
theorem KT.Rb {H:Hp} {kvs:List (List Key × V)} {xs:List (List Key × Addr × Value)} (r:KT H kvs xs) (k:List Key) {y:V} {u:Value} (ry:RelV y u) :
  KT H (kvs.map λkv=>if kv.1=k then (kv.1,y) else kv) (xs.map (putAt k u)):=by
 induction r with
 | nil=>exact .nil
 | @cons p q ps qs h t ih =>
  rw [Vc,Vc]
  refine .cons ?_ ih
  obtain ⟨h1,h2,h3⟩:=h
  unfold putAt
  by_cases e:p.1=k
  ·rw [if_pos e,if_pos (h1.symm.trans e)];exact ⟨h1,h2,ry⟩
  ·rw [if_neg e,if_neg (λz=>e (h1.trans z))];exact ⟨h1,h2,h3⟩
theorem KT.put {H:Hp} {kvs:List (List Key × V)} {xs:List (List Key × Addr × Value)} (r:KT H kvs xs) (k:List Key) {b:Addr} {y:V} {u:Value} (hb:H b=some (.tup (k.map kV))) (ry:RelV y u) :
  KT H (putK kvs k y) (storedH xs k b u):=by
 have e:(kvs.any λkv=>decide (kv.1=k))=(atKey xs k).isSome:=by
  rw [yB,(r.val k).v9,Option.isSome_map]
 unfold putK storedH
 rw [e]
 by_cases q:(atKey xs k).isSome=true
 ·rw [if_pos q,if_pos q];exact r.Rb k ry
 ·rw [if_neg q,if_neg q];exact Paired.snoc r ⟨rfl,hb,ry⟩
theorem KT.keeps {H H':Hp} {kvs:List (List Key × V)} {xs:List (List Key × Addr × Value)} (r:KT H kvs xs) (ht:∀ b ys,H b=some (.tup ys)->H' b=some (.tup ys)):KT H' kvs xs :=
 Paired.KA r λ_ _ z=>⟨z.1,ht _ _ z.2.1,z.2.2⟩
section
variable {P:Program} {w:World} {H:Hp} {h:Heap} {a:Addr}
theorem Qw {u:HO} (ok:ym P w H h) (e:Rd H a u):i4 P w H h a u:=e.ok ok
theorem Bi {kvs:List (Key × V)} (ok:ym P w H h) (e:Rd H a (.dK kvs)):kvs.length<=sizeLine/\(a == sysModules)=false/\∃ vs,KV kvs vs/\h.DictOf (aY P w) a vs :=
 show i4 P w H h a (.dK kvs) from Qw ok e
theorem LA {kvs:List (Key × V)} (ok:ym P w H h) (e:H a=some (.dK kvs)):kvs.length<=sizeLine/\(a == sysModules)=false/\∃ vs,KV kvs vs/\h.DictOf (aY P w) a vs:=Bi ok (.inl e)
theorem An {ks:List Key} (ok:ym P w H h) (e:H a=some (.tup (ks.map kV))):(tupleKind (aY P w)).is h ks a:=by
 obtain ⟨_,its,r,o,h1,h2,n,h3⟩:=(show i4 P w H h a (.tup (ks.map kV)) from ok a _ e)
 exact ⟨o,its.toArray,n,h1,h2,h3,by simpa using Gk r⟩
theorem CS {kvs:List (List Key × V)} (ok:ym P w H h) (e:Rd H a (.dT kvs)):kvs.length<=sizeLine/\(a == sysModules)=false /\
  ∃ xs,KT H kvs xs/\h.DictOfH (tupleKind (aY P w)) a xs:=by
 obtain ⟨z,y,xs,r,o,es,ep,h1,h2,h3,h4,h5⟩:=(show i4 P w H h a (.dT kvs) from Qw ok e)
 refine ⟨z,y,xs,r,o,es,ep,h1,h2,h3,h4,λx hx=>?_,h5⟩
 have all:∀ {l:List (List Key × V)} {m:List (List Key × Addr × Value)},KT H l m->∀ x∈m,(tupleKind (aY P w)).is h x.1 x.2.1:=by
  intro l m q
  induction q with
  | nil=>intro x hx;exact nomatch hx
  | @cons p q ps qs hq t ih =>
   intro x hx
   rcases U4.mp hx with e | hx
   ·subst e
    exact An ok (by rw [<- hq.1];exact hq.2.1)
   ·exact ih x hx
 exact all r x hx
theorem Tp {kvs:List (List Key × V)} (ok:ym P w H h) (e:H a=some (.dT kvs)):kvs.length<=sizeLine/\(a == sysModules)=false /\
  ∃ xs,KT H kvs xs/\h.DictOfH (tupleKind (aY P w)) a xs:=CS ok (.inl e)
end
def lH (H:Hp) (a:Addr) (y:V) (r:Option V):Prop :=
 (∃ kvs k,Rd H a (.dK kvs)/\y=kV k/\r=k7 kvs k)∨∃ kvs k b,Rd H a (.dT kvs)/\y=.ref b/\H b=some (.tup (k.map kV))/\r=k7 kvs k
def Ih (H:Hp) (a:Addr) (y v:V) (H':Hp):Prop :=
 (∃ kvs k,H a=some (.dK kvs)/\y=kV k/\kvs.length < sizeLine/\H'=upd H a (.dK (putK kvs k v))) ∨
 ∃ kvs k b,H a=some (.dT kvs)/\y=.ref b/\H b=some (.tup (k.map kV))/\kvs.length < sizeLine/\H'=upd H a (.dT (putK kvs k v))
theorem lH.k {H:Hp} {a:Addr} {kvs:List (Key × V)} {k:Key} (e:H a=some (.dK kvs)):lH H a (kV k) (k7 kvs k):=.inl ⟨kvs,k,.inl e,rfl,rfl⟩
theorem Ih.k {H:Hp} {a:Addr} {kvs:List (Key × V)} {k:Key} {v:V} (e:H a=some (.dK kvs)) (hl:kvs.length < sizeLine):Ih H a (kV k) v (upd H a (.dK (putK kvs k v))):=.inl ⟨kvs,k,e,rfl,hl,rfl⟩
section
variable {X:Cx} {pins:List (Addr × Obj)} {σ:St} {H:Hp} {s:Shared} {a:Addr} {y v:V} {u r:Value} {o:Option V} {A:Around} {E:Value->Shared->Prop}
theorem Inv.big (I:Inv X pins σ H s):sysModules < s.heap.objs.size:=by
 have h:mainGlobals < s.heap.objs.size:=(I.mod.glob.keeps I.bk).lt
 exact Nat.lt_trans (by decide) h
theorem Gq {Q:Value->Shared->Prop} (hu:A.units+1 < cLine) (I:Inv X pins σ H s) (g:lH H a y (some v)) (ry:RelV y u) (h:∀ w' s',Inv X pins σ H s'->RelV v w'->Q w' s') :
  wpAny (model X.prog X.w) A (getItem (.ref a) u) Q E s:=by
 rcases g with ⟨kvs,k,e,ey,l⟩ | ⟨kvs,k,b,e,ey,eb,l⟩
 ·subst ey
  obtain ⟨z,hd,vs,rel,dd⟩:=Bi I.dv e
  obtain ⟨w',hw,rw'⟩:=vP.some_of (v:=v) (o:=valueAt vs k) (by rw [l];exact rel.val k)
  exact wpAny_getItem_of (yF ry) dd.mapOf hw (h w' _ (I.tok _) rw')
 ·subst ey
  cases (show u=Value.ref b from ry)
  obtain ⟨z,hd,xs,rel,dd⟩:=CS I.dv e
  obtain ⟨w',hw,rw'⟩:=vP.some_of (v:=v) (o:=(atKey xs k).map (·.2)) (by rw [l];exact rel.val k)
  obtain ⟨p,hp,hp2⟩:=Option.map_eq_some_iff.mp hw
  refine wpAny_getItem_heap (tupleKind_room_in1 hu) (An I.dv eb) dd hp ?_
  rw [hp2]
  exact h w' _ (I.tok _) rw'
theorem Ud {Q:Value->Shared->Prop} (hu:A.units+1 < cLine) (I:Inv X pins σ H s) (g:lH H a y o) (ry:RelV y u) (h:∀ s',Inv X pins σ H s'->Q (.bool o.isSome) s') :
  wpAny (model X.prog X.w) A (compareOp .In u (.ref a)) Q E s:=by
 rcases g with ⟨kvs,k,e,ey,l⟩ | ⟨kvs,k,b,e,ey,eb,l⟩
 ·subst ey
  obtain ⟨z,hd,vs,rel,dd⟩:=Bi I.dv e
  refine wpAny_in_of (yF ry) hd dd.mapOf ?_
  rw [<- (rel.val k).v9,<- l]
  exact h _ (I.tok _)
 ·subst ey
  cases (show u=Value.ref b from ry)
  obtain ⟨z,hd,xs,rel,dd⟩:=CS I.dv e
  refine wpAny_in_heap (tupleKind_room_in1 hu) (An I.dv eb) hd dd ?_
  have q:=(rel.val k).v9
  rw [Option.isSome_map] at q
  rw [<- q,<- l]
  exact h _ (I.tok _)
theorem Qa {Q:Value->Shared->Prop} (hu:A.units+1 < cLine) (I:Inv X pins σ H s) (g:lH H a y o) (ry:RelV y u) (h:∀ s',Inv X pins σ H s'->Q (.bool (!o.isSome)) s') :
  wpAny (model X.prog X.w) A (compareOp .NotIn u (.ref a)) Q E s:=by
 rcases g with ⟨kvs,k,e,ey,l⟩ | ⟨kvs,k,b,e,ey,eb,l⟩
 ·subst ey
  obtain ⟨z,hd,vs,rel,dd⟩:=Bi I.dv e
  refine wpAny_notIn_of (yF ry) hd dd.mapOf ?_
  rw [<- (rel.val k).v9,<- l]
  exact h _ (I.tok _)
 ·subst ey
  cases (show u=Value.ref b from ry)
  obtain ⟨z,hd,xs,rel,dd⟩:=CS I.dv e
  refine wpAny_notIn_heap (tupleKind_room_in1 hu) (An I.dv eb) hd dd ?_
  have q:=(rel.val k).v9
  rw [Option.isSome_map] at q
  rw [<- q,<- l]
  exact h _ (I.tok _)
theorem G4 {h':Heap} {t':Nat} {ob:HO} (I:Inv X pins σ H s) (mu:Qo (H a)) (hs:Heap.SameBut a s.heap h') (he:∃ q,h'.get? a=some q) (new:i4 X.prog X.w (upd H a ob) h' a ob) :
  Inv X pins σ (upd H a ob) { s with heap:=h',toks:=t' } :=
 I.write (x:=a) (e:=a) mu (.inl rfl) (λb q hb z=>(hs.2 b hb).trans z) he new
theorem NB {P:Program} {w:World} {H':Hp} {h':Heap} {kvs:List (Key × V)} {vs:List (Key × Value)} (z:kvs.length<=sizeLine) (hd:(a == sysModules)=false) (rel:KV kvs vs) (dd:h'.DictOf (aY P w) a vs) :
  i4 P w H' h' a (.dK kvs):=⟨z,hd,vs,rel,dd⟩
theorem Gp {H':Hp} {Q:Unit->Shared->Prop} (hu:A.units+1 < cLine) (I:Inv X pins σ H s) (g:Ih H a y v H') (ry:RelV y u) (rv:RelV v r) (h:∀ s',Inv X pins σ H' s'->Q () s') :
  wpAny (model X.prog X.w) A (setItem (.ref a) u r) Q E s:=by
 rcases g with ⟨kvs,k,e,ey,l,eH⟩ | ⟨kvs,k,b,e,ey,eb,l,eH⟩
 ·subst ey eH
  obtain ⟨z,hd,vs,rel,dd⟩:=LA I.dv e
  have hz:vs.length<=sizeLine:=by rw [<- rel.length];exact z
  have hl:(putK kvs k v).length<=sizeLine:=by have:=yr kvs k v;exact U8 ‹_› ‹_›
  refine wpAny_setItem_pairs (hsz:=hz) (yF ry) dd λh' dd' hs=>h _ ?_
  have he:∃ q,h'.get? a=some q:=let ⟨q,_,_,hq,_⟩:=dd';⟨q,hq⟩
  exact G4 I (by rw [e];exact True.intro) hs he (NB hl hd (rel.put k rv) dd')
 ·subst ey eH
  cases (show u=Value.ref b from ry)
  obtain ⟨z,hd,xs,rel,dd⟩:=Tp I.dv e
  have hz:xs.length<=sizeLine:=by rw [<- Paired.length rel];exact z
  have hl:(putK kvs k v).length<=sizeLine:=by have:=yr kvs k v;exact U8 ‹_› ‹_›
  refine wpAny_setItem_heap (hsz:=hz) (tupleKind_room_in1 hu) (An I.dv eb) dd λh' dd' hs=>h _ ?_
  obtain ⟨q,es,ep,hq,h2,h3,h4,_,h5⟩:=dd'
  refine G4 I (by rw [e];exact True.intro) hs ⟨q,hq⟩ ⟨hl,hd,_,(rel.put k eb rv).keeps λc ys ec=>?_,q,es,ep,hq,h2,h3,h4,h5⟩
  rw [ak (aV ec e (λz=>nomatch z))]
  exact ec
end
section
variable {X:Cx} {pins:List (Addr × Obj)} {σ:St} {H:Hp} {s:Shared} {a:Addr} {kvs:List (Key × V)} {k:Key} {u:Value} {A:Around} {E:Value->Shared->Prop}
theorem Qt {v:V} {more:List Value} {Q:Value->Shared->Prop} (I:Inv X pins σ H s) (e:H a=some (.dK kvs)) (ry:RelV (kV k) u) (l:k7 kvs k=some v) (hm:more=[]∨∃ x,more=[x])
  (h:∀ w' s',Inv X pins σ (upd H a (.dK (uh kvs k))) s'->RelV v w'->Q w' s'):wpAny (model X.prog X.w) A (call (.builtin "dict.pop") (.ref a::u::more)) Q E s:=by
 obtain ⟨z,hd,vs,rel,dd⟩:=LA I.dv e
 obtain ⟨w',hw,rw'⟩:=vP.some_of (v:=v) (o:=valueAt vs k) (by rw [<- l];exact rel.val k)
 have hp:(keyPart u).isSome=true:=by
  cases k with
  | inl i=>obtain ⟨t,q⟩:=(show ∃ t,u=Value.int i t from ry);subst q;rfl
  | inr x=>obtain ⟨t,q⟩:=(show ∃ t,u=Value.str x t from ry);subst q;rfl
 have ha:argsOk "dict.pop" ⟨.ref a::u::more,[]⟩:=by
  rcases hm with q | ⟨x,q⟩
  ·subst q;exact PySem.F.args_dict_pop_2 _ _
  ·subst q;exact PySem.F.args_dict_pop_3 _ _ _
 refine call_meetsIn Xh dd.typeIs PySem.F.entry_dict_pop ha (meets_dict_pop_there (aY X.prog X.w) a (yF ry) more hm hp)
  ⟨vs,w',dd,by rw [<- rel.length];exact z,hw,λh' dd' hs=>h w' _ ?_ rw'⟩
 have he:∃ q,h'.get? a=some q:=let ⟨q,_,_,hq,_⟩:=dd';⟨q,hq⟩
 exact G4 I (by rw [e];exact True.intro) hs he (NB (U8 (NP kvs k) z) hd (rel.drop k) dd')
theorem RM {r:Value} {Q:Value->Shared->Prop} (I:Inv X pins σ H s) (e:H a=some (.dK kvs)) (ry:RelV (kV k) u) (l:k7 kvs k=none) (h:∀ s',Inv X pins σ H s'->Q r s') :
  wpAny (model X.prog X.w) A (call (.builtin "dict.pop") [.ref a,u,r]) Q E s:=by
 obtain ⟨z,hd,vs,rel,dd⟩:=LA I.dv e
 have hn:valueAt vs k=none:=vP.none_of (by rw [<- l];exact rel.val k)
 have hp:(keyPart u).isSome=true:=by
  cases k with
  | inl i=>obtain ⟨t,q⟩:=(show ∃ t,u=Value.int i t from ry);subst q;rfl
  | inr x=>obtain ⟨t,q⟩:=(show ∃ t,u=Value.str x t from ry);subst q;rfl
 exact call_meetsIn Xh dd.typeIs PySem.F.entry_dict_pop (PySem.F.args_dict_pop_3 _ _ _) (meets_dict_pop_default (aY X.prog X.w) a (yF ry) hd hp r) ⟨vs,dd,hn,h _ (I.tok _)⟩
theorem Tn {Q:Value->Shared->Prop} (I:Inv X pins σ H s) (e:Rd H a (.dK kvs)) (h:∀ t s',Inv X pins σ H s'->Q (.int kvs.length t) s'):wpAny (model X.prog X.w) A (call (.builtin "len") [.ref a]) Q E s:=by
 obtain ⟨z,hd,vs,rel,dd⟩:=Bi I.dv e
 refine call_len_dict hd dd (by rw [<- rel.length];rw [sizeLine_eq] at z;omega) ?_
 rw [<- rel.length]
 exact h _ _ (I.tok _)
end
def Rc (i:Expr):Prop:=∀ ov iv,subscripted i false ov iv=operate [ov,iv] (getItem ov iv)
theorem K5 {prog:Program} {w:World} {A:Around} {E:Value->Shared->Prop} {s:Shared} {env:Env} {value slice:Expr} {pos:Pos} {T id:String} {Q:Value->Shared->Prop}
  (hl:typeLookup (.type T) "__getitem__"=pure (some (.builtin id))) (hs:Rc slice)
  (h:wpAny (model prog w) A (eval value env) (λo s₁=>wpAny (model prog w) A (eval slice env) (λi s₂=>s₂.TypeIs o T/\wpAny (model prog w) A (getItem o i) Q E s₂) E s₁) E s) :
  wpAny (model prog w) A (eval (.Subscript value slice pos) env) Q E s:=by
 refine Subscript_ (wpAny_mono h (λo s₁ h₁=>wpAny_mono h₁ (λi s₂ h₂=>?_) λ_ _ x=>x) λ_ _ x=>x)
 obtain ⟨hT,h₂⟩:=h₂
 unfold subscriptTail
 refine wpAny_bind ?_
 rw [getitemInPython_of_ne hT.not_modules]
 refine wpAny_bind (wpAny_specialOf hT hl ?_)
 have fin:wpAny (model prog w) A (subscripted slice false o i) (λr s₃=>wpAny (model prog w) A (letTemporaryGo value o r >>= λ_=>pure r) Q E s₃) E s₂:=by
  rw [hs o i]
  exact wpAny_operating (wpAny_mono h₂ (λr s₃ h₃=>wpAny_bind (wpAny_letTemporaryGo (wpAny_pure h₃))) λ_ _ x=>x)
 first
  | exact wpAny_pure (wpAny_bind fin)
  | exact wpAny_bind (wpAny_pure (wpAny_bind fin))
  | exact wpAny_bind fin
theorem JX {X:Cx} {pins:List (Addr × Obj)} {σ:St} {H:Hp} {s:Shared} {a:Addr} {y:V} {o:Option V} (I:Inv X pins σ H s) (g:lH H a y o):s.TypeIs (.ref a) "dict":=by
 rcases g with ⟨kvs,k,e,_,_⟩ | ⟨kvs,k,b,e,_,_,_⟩
 ·obtain ⟨_,_,vs,_,dd⟩:=Bi I.dv e
  exact dd.typeIs
 ·obtain ⟨_,_,xs,_,dd⟩:=CS I.dv e
  exact dd.typeIs
def Ss (td ty:TE):TE:=λσ H Q=>td σ H λx H1=>ty σ H1 λy H2=>∃ a v,x=.ref a/\lH H2 a y (some v)/\Q v H2
def Ue (ty td:TE):TE:=λσ H Q=>ty σ H λy H1=>td σ H1 λx H2=>∃ a o,x=.ref a/\lH H2 a y o/\Q (.bl o.isSome) H2
def PJ (ty td:TE):TE:=λσ H Q=>ty σ H λy H1=>td σ H1 λx H2=>∃ a o,x=.ref a/\lH H2 a y o/\Q (.bl (!o.isSome)) H2
def Tc (td ty tv:TE):TS:=λD σ H=>tv σ H λv H1=>td σ H1 λx H2=>ty σ H2 λy H3=>∃ a H4,x=.ref a/\Ih H3 a y v H4/\D.nx σ H4
def Sq (td ty tv:TE) (rd:V->V->Hp->VK->Prop):TS:=λD σ H=>td σ H λx H1=>ty σ H1 λy H2=>∃ a v,x=.ref a/\lH H2 a y (some v) /\
 tv σ H2 λy2 H3=>rd v y2 H3 λz H4=>∃ H5,Ih H4 a y z H5/\D.nx σ H5
section
variable {X:Cx} {o i e value:Expr} {pos pos' tpos:Pos} {td ty tv:TE}
theorem ug (hu:X.A.units+1 < cLine) (ho:PE X o td) (hi:PE X i ty) (hs:Rc i):PE X (.Subscript o i pos) (Ss td ty):=by
 intro pins s σ H Q I h
 refine K5 PySem.F.slot_dict_getitem.lookup hs (dN (ho pins s σ H _ I h) λu s1 ⟨x,H1,I1,rx,q1⟩=>dN (hi pins s1 σ H1 _ I1 q1) λiv s2 ⟨y,H2,I2,ry,a,v,ex,g,q2⟩=>?_)
 subst ex
 obtain rfl:u=Value.ref a:=rx
 exact ⟨JX I2 g,Gq hu I2 g ry λw' s3 I3 rw'=>⟨v,H2,I3,rw',q2⟩⟩
theorem RW (hu:X.A.units+1 < cLine) (hi:PE X i ty) (ho:PE X o td):PC X .In i o (Ue ty td):=by
 intro pins s σ H Q I h
 refine dN (hi pins s σ H _ I h) λiv s1 ⟨y,H1,I1,ry,q1⟩=>dN (ho pins s1 σ H1 _ I1 q1) λu s2 ⟨x,H2,I2,rx,a,ov,ex,g,q2⟩=>?_
 subst ex
 obtain rfl:u=Value.ref a:=rx
 exact Ud hu I2 g ry λs3 I3=>⟨.bl ov.isSome,H2,I3,rfl,q2⟩
theorem zq (hu:X.A.units+1 < cLine) (hi:PE X i ty) (ho:PE X o td):PC X .NotIn i o (PJ ty td):=by
 intro pins s σ H Q I h
 refine dN (hi pins s σ H _ I h) λiv s1 ⟨y,H1,I1,ry,q1⟩=>dN (ho pins s1 σ H1 _ I1 q1) λu s2 ⟨x,H2,I2,rx,a,ov,ex,g,q2⟩=>?_
 subst ex
 obtain rfl:u=Value.ref a:=rx
 exact Qa hu I2 g ry λs3 I3=>⟨.bl (!ov.isSome),H2,I3,rfl,q2⟩
theorem HY (hu:X.A.units+1 < cLine) (ho:PE X o td) (hi:PE X i ty) (hv:PE X value tv) (hs:swapsWith value (some (.Subscript o i pos')) pos.line X.env=pure false) :
  PS X (.Assign [.Subscript o i pos'] value pos) (Tc td ty tv):=by
 intro pins s σ H D I h
 refine wpAny_Assign_Subscript (dN (hv pins s σ H _ I h) λr s1 ⟨v,H1,I1,rv,q1⟩=>dN (ho pins s1 σ H1 _ I1 q1) λu s2 ⟨x,H2,I2,rx,q2⟩=>dN (hi pins s2 σ H2 _ I2 q2) λiv s3 ⟨y,H3,I3,ry,a,H4,ex,g,q3⟩=>?_) hs
 subst ex
 obtain rfl:u=Value.ref a:=rx
 exact Gp hu I3 g ry rv λs4 I4=>⟨σ,H4,I4,q3⟩
theorem Pq {op:Operator} {rd:V->V->Hp->VK->Prop} (hu:X.A.units+1 < cLine) (ho:PE X o td) (hi:PE X i ty) (hv:PE X value tv) (hop:O4 X op rd)
  (ha:∀ ov iv new,augStore i ov iv new=(do holding [new,ov,iv] (setItem ov iv new);release [new,ov,iv] [];pure .next)):PS X (.AugAssign (.Subscript o i tpos) op value pos) (Sq td ty tv rd):=by
 intro pins s σ H D I h
 refine wpAny_AugAssign_SubscriptAny (dN (ho pins s σ H _ I h) λu s1 ⟨x,H1,I1,rx,q1⟩=>dN (hi pins s1 σ H1 _ I1 q1) λiv s2 ⟨y,H2,I2,ry,a,v,ex,g,q2⟩=>?_) ha
 subst ex
 obtain rfl:u=Value.ref a:=rx
 refine Gq hu I2 g ry λw' s3 I3 rw'=>dN (hv pins s3 σ H2 _ I3 q2) λw2 s4 ⟨y2,H3,I4,ry2,q3⟩=>dN (hop pins s4 σ H3 v y2 w' w2 _ I4 rw' ry2 q3) λw3 s5 ⟨z,H4,I5,rz,H5,g5,q4⟩=>?_
 exact Gp hu I5 g5 ry rz λs6 I6=>⟨σ,H5,I6,q4⟩
end
theorem Nt {P:Program} {w:World} {H:Hp} (h:Heap) (hb:sysModules < h.objs.size):i4 P w H (h.push { cls:=.type "dict",data:=.dict #[] }) h.objs.size (.dK []) :=
 ⟨Vt _,beq_eq_false_iff_ne.mpr (Ne.symm (Vh hb)),[],.nil,Heap.DictOf.new h⟩
def RH:TE:=λ_ H Q=>∀ p,H p=none->Q (.ref p) (upd H p (.dK []))
section
variable {X:Cx} {pos:Pos}
theorem EE:PE X (.Dict [] [] pos) RH:=λpins s σ H Q I h =>
 wpAny_Dict_empty ⟨.ref s.heap.objs.size,_,I.laid (a:=s.heap.objs.size) (o:=.dK []) (t':=s.toks) (λ_ _ q=>Heap.get?_push_of_some _ q) (U1 _) (Nt s.heap I.big),rfl,h _ (I.dv.fresh (U1 _))⟩
end
def u9 (kvs more:List (Key × V)):List (Key × V):=more.foldl (λacc kv=>putK acc kv.1 kv.2) kvs
theorem KV.merge:∀ {more:List (Key × V)} {rs:List (Key × Value)} {kvs:List (Key × V)} {vs:List (Key × Value)},KV more rs->KV kvs vs->KV (u9 kvs more) (merged vs rs):=by
 intro more rs kvs vs r
 unfold KV at r
 induction r generalizing kvs vs with
 | nil=>intro q;exact q
 | @cons p q ps qs h t ih =>
  intro r0
  have e:KV (putK kvs p.1 p.2) (stored vs q.1 q.2):=by
   have:=r0.put p.1 h.2
   rw [<- h.1];exact this
  exact ih e
theorem zP:∀ (more kvs:List (Key × V)),(u9 kvs more).length<=kvs.length+more.length
 | [],kvs=>by show kvs.length<=kvs.length+0;exact U1 _
 | p::r,kvs=>by
  have h1:=zP r (putK kvs p.1 p.2)
  have h2:=yr kvs p.1 p.2
  show (u9 (putK kvs p.1 p.2) r).length<=_
  rw [Vj];lia
structure M1 (X:Cx) (o:Expr) (m:Str) (apos:Pos) (e:Expr) (cpos:Pos):Prop where
 base:attributeBase o m X.env (eval o X.env)=eval o X.env
 Po:((backTo cpos (starEach [e] X.env)).all (λx=>!x.1)&&(backToKw cpos (keywordEach [] X.env)).all (λx=>x.1.isSome)
  && decide (([e]:List Expr).length+([]:List Keyword).length+(if ([]:List Keyword).isEmpty then 0 else 1) < 30))=true
 line:(apos.endLine == cpos.line)=true
 trees:backTo cpos (starEach [e] X.env)=[(false,eval e X.env)]
structure M2 (X:Cx) (o:Expr) (m:Str) (apos:Pos) (e f:Expr) (cpos:Pos):Prop where
 base:attributeBase o m X.env (eval o X.env)=eval o X.env
 Po:((backTo cpos (starEach [e,f] X.env)).all (λx=>!x.1)&&(backToKw cpos (keywordEach [] X.env)).all (λx=>x.1.isSome)
  && decide (([e,f]:List Expr).length+([]:List Keyword).length+(if ([]:List Keyword).isEmpty then 0 else 1) < 30))=true
 line:(apos.endLine == cpos.line)=true
 trees:backTo cpos (starEach [e,f] X.env)=[(false,eval e X.env),(false,eval f X.env)]
def SR (H:Hp) (a:Addr):Prop:=(∃ kvs,Rd H a (.dK kvs))∨∃ kvs,Rd H a (.dT kvs)
theorem IE {X:Cx} {pins:List (Addr × Obj)} {σ:St} {H:Hp} {s:Shared} {a:Addr} (I:Inv X pins σ H s) (d:SR H a) :
  s.TypeIs (.ref a) "dict"/\(∀ b,Value.ref a=.ref b->∃ ob,s.heap.get? b=some ob/\ob.dict=none)/\(a == sysModules)=false:=by
 rcases d with ⟨kvs,e⟩ | ⟨kvs,e⟩
 ·obtain ⟨_,hd,vs,_,dd⟩:=Bi I.dv e
  refine ⟨dd.typeIs,λb q=>?_,hd⟩
  cases q
  obtain ⟨ob,_,_,h1,h2,_⟩:=dd
  exact ⟨ob,h1,h2.2.1⟩
 ·obtain ⟨_,hd,xs,_,dd⟩:=CS I.dv e
  refine ⟨dd.typeIs,λb q=>?_,hd⟩
  cases q
  obtain ⟨ob,_,_,h1,h2,_⟩:=dd
  exact ⟨ob,h1,h2.2.1⟩
section
variable {X:Cx} {pins:List (Addr × Obj)} {σ:St} {H:Hp} {s:Shared} {a:Addr} {y d:V} {u r:Value} {o:Option V} {A:Around} {E:Value->Shared->Prop}
theorem R8 {Q:Value->Shared->Prop} (hu:A.units+1 < cLine) (I:Inv X pins σ H s) (g:lH H a y o) (ry:RelV y u) (h:∀ w' s',Inv X pins σ H s'->RelV (o.getD .dF) w'->Q w' s') :
  wpAny (model X.prog X.w) A (call (.builtin "dict.get") [.ref a,u]) Q E s:=by
 rcases g with ⟨kvs,k,e,ey,l⟩ | ⟨kvs,k,b,e,ey,eb,l⟩
 ·subst ey
  obtain ⟨z,hd,vs,rel,dd⟩:=Bi I.dv e
  refine call_meetsIn W7 dd.typeIs Xi (PySem.F.args_dict_get_2 _ _) (meets_dict_get (aY X.prog X.w) a (yF ry) hd) ⟨_,dd.mapOf,h _ _ (I.tok _) ?_⟩
  rw [l]
  exact (rel.val k).getD rfl
 ·subst ey
  cases (show u=Value.ref b from ry)
  obtain ⟨z,hd,xs,rel,dd⟩:=CS I.dv e
  refine call_meetsIn W7 dd.typeIs Xi (PySem.F.args_dict_get_2 _ _) (meetsH_dict_get (tupleKind (aY X.prog X.w)) a b hd) ⟨tupleKind_room_in1 hu,k,xs,An I.dv eb,dd,h _ _ (I.tok _) ?_⟩
  rw [l]
  exact (rel.val k).getD rfl
theorem RF {Q:Value->Shared->Prop} (hu:A.units+1 < cLine) (I:Inv X pins σ H s) (g:lH H a y o) (ry:RelV y u) (rd:RelV d r) (h:∀ w' s',Inv X pins σ H s'->RelV (o.getD d) w'->Q w' s') :
  wpAny (model X.prog X.w) A (call (.builtin "dict.get") [.ref a,u,r]) Q E s:=by
 rcases g with ⟨kvs,k,e,ey,l⟩ | ⟨kvs,k,b,e,ey,eb,l⟩
 ·subst ey
  obtain ⟨z,hd,vs,rel,dd⟩:=Bi I.dv e
  refine call_meetsIn W7 dd.typeIs Xi (PySem.F.args_dict_get_3 _ _ _) (meets_dict_get_default (aY X.prog X.w) a (yF ry) hd r) ⟨_,dd.mapOf,h _ _ (I.tok _) ?_⟩
  rw [l]
  exact (rel.val k).getD rd
 ·subst ey
  cases (show u=Value.ref b from ry)
  obtain ⟨z,hd,xs,rel,dd⟩:=CS I.dv e
  refine call_meetsIn W7 dd.typeIs Xi (PySem.F.args_dict_get_3 _ _ _) (meetsH_dict_get_default (tupleKind (aY X.prog X.w)) a b hd r) ⟨tupleKind_room_in1 hu,k,xs,An I.dv eb,dd,h _ _ (I.tok _) ?_⟩
  rw [l]
  exact (rel.val k).getD rd
end
def Rw (td ty:TE):TE:=λσ H Q=>td σ H λx H1=>∃ a,x=.ref a/\SR H1 a/\ty σ H1 λy H2=>∃ o,lH H2 a y o/\Q (o.getD .dF) H2
def QN (td ty tx:TE):TE:=λσ H Q=>td σ H λx H1=>∃ a,x=.ref a/\SR H1 a/\ty σ H1 λy H2=>tx σ H2 λz H3=>∃ o,lH H3 a y o/\Q (o.getD z) H3
def RR (td ty:TE):TE:=λσ H Q=>td σ H λx H1=>∃ a,x=.ref a/\SR H1 a/\ty σ H1 λy H2=>∃ kvs k v,H2 a=some (.dK kvs)/\y=kV k/\k7 kvs k=some v/\Q v (upd H2 a (.dK (uh kvs k)))
def Rh (td ty tx:TE):TE:=λσ H Q=>td σ H λx H1=>∃ a,x=.ref a/\SR H1 a/\ty σ H1 λy H2=>tx σ H2 λz H3=>∃ kvs k,H3 a=some (.dK kvs)/\y=kV k /\
 (∀ v,k7 kvs k=some v->Q v (upd H3 a (.dK (uh kvs k))))/\(k7 kvs k=none->Q z H3)
section
variable {X:Cx} {o e f:Expr} {apos cpos:Pos} {td ty tx:TE}
theorem El (hu:X.A.units+1 < cLine) (ho:PE X o td) (he:PE X e ty) (m:M1 X o "get" apos e cpos):PE X (.Call (.Attribute o "get" apos) [e] [] cpos) (Rw td ty):=by
 intro pins s σ H Q I h
 refine wpAny_Call_method m.base m.Po m.line Xj W7 PySem.F.type_dict_get (dN (ho pins s σ H _ I h) λu s1 ⟨x,H1,I1,rx,a,ex,d,q1⟩=>?_)
 subst ex
 obtain rfl:u=Value.ref a:=rx
 obtain ⟨t1,t2,_⟩:=IE I1 d
 refine ⟨t1,t2,?_⟩
 rw [m.trees]
 refine Calls.callWith_builtin rfl (Calls.evalArgs_plain (Calls.spliced_cons (dN (he pins s1 σ H1 _ I1 q1) λiv s2 ⟨y,H2,I2,ry,ov,g,q2⟩=>Calls.spliced_nil ?_)))
 exact R8 hu I2 g ry λw' s3 I3 rw'=>⟨_,H2,I3,rw',q2⟩
theorem Oa (hu:X.A.units+1 < cLine) (ho:PE X o td) (he:PE X e ty) (hf:PE X f tx) (m:M2 X o "get" apos e f cpos):PE X (.Call (.Attribute o "get" apos) [e,f] [] cpos) (QN td ty tx):=by
 intro pins s σ H Q I h
 refine wpAny_Call_method m.base m.Po m.line Xj W7 PySem.F.type_dict_get (dN (ho pins s σ H _ I h) λu s1 ⟨x,H1,I1,rx,a,ex,d,q1⟩=>?_)
 subst ex
 obtain rfl:u=Value.ref a:=rx
 obtain ⟨t1,t2,_⟩:=IE I1 d
 refine ⟨t1,t2,?_⟩
 rw [m.trees]
 refine Calls.callWith_builtin rfl (Calls.evalArgs_plain (Calls.spliced_cons (dN (he pins s1 σ H1 _ I1 q1) λiv s2 ⟨y,H2,I2,ry,q2⟩ =>
  Calls.spliced_cons (dN (hf pins s2 σ H2 _ I2 q2) λfv s3 ⟨z,H3,I3,rz,ov,g,q3⟩=>Calls.spliced_nil ?_))))
 exact RF hu I3 g ry rz λw' s4 I4 rw'=>⟨_,H3,I4,rw',q3⟩
theorem Jr (ho:PE X o td) (he:PE X e ty) (m:M1 X o "pop" apos e cpos):PE X (.Call (.Attribute o "pop" apos) [e] [] cpos) (RR td ty):=by
 intro pins s σ H Q I h
 refine wpAny_Call_method m.base m.Po m.line Xj Xh PySem.F.type_dict_pop (dN (ho pins s σ H _ I h) λu s1 ⟨x,H1,I1,rx,a,ex,d,q1⟩=>?_)
 subst ex
 obtain rfl:u=Value.ref a:=rx
 obtain ⟨t1,t2,_⟩:=IE I1 d
 refine ⟨t1,t2,?_⟩
 rw [m.trees]
 refine Calls.callWith_builtin rfl (Calls.evalArgs_plain (Calls.spliced_cons (dN (he pins s1 σ H1 _ I1 q1) λiv s2 ⟨y,H2,I2,ry,kvs,k,v,ea,ey,l,q2⟩=>Calls.spliced_nil ?_)))
 subst ey
 exact Qt I2 ea ry l (.inl rfl) λw' s3 I3 rw'=>⟨v,_,I3,rw',q2⟩
theorem OV (ho:PE X o td) (he:PE X e ty) (hf:PE X f tx) (m:M2 X o "pop" apos e f cpos):PE X (.Call (.Attribute o "pop" apos) [e,f] [] cpos) (Rh td ty tx):=by
 intro pins s σ H Q I h
 refine wpAny_Call_method m.base m.Po m.line Xj Xh PySem.F.type_dict_pop (dN (ho pins s σ H _ I h) λu s1 ⟨x,H1,I1,rx,a,ex,d,q1⟩=>?_)
 subst ex
 obtain rfl:u=Value.ref a:=rx
 obtain ⟨t1,t2,_⟩:=IE I1 d
 refine ⟨t1,t2,?_⟩
 rw [m.trees]
 refine Calls.callWith_builtin rfl (Calls.evalArgs_plain (Calls.spliced_cons (dN (he pins s1 σ H1 _ I1 q1) λiv s2 ⟨y,H2,I2,ry,q2⟩ =>
  Calls.spliced_cons (dN (hf pins s2 σ H2 _ I2 q2) λfv s3 ⟨z,H3,I3,rz,kvs,k,ea,ey,q3,q4⟩=>Calls.spliced_nil ?_))))
 subst ey
 cases l:k7 kvs k with
 | some v=>exact Qt I3 ea ry l (.inr ⟨fv,rfl⟩) λw' s4 I4 rw'=>⟨v,_,I4,rw',q3 v l⟩
 | none=>exact RM I3 ea ry l λs4 I4=>⟨z,H3,I4,rz,q4 l⟩
end
end L2
namespace L2
open PySem PySem.Spec PyProof.Rows
theorem ER:typeLookup (.type "list") "keys"=pure none:=am_miss_of_fast (by first | decide +kernel | rfl)
theorem Jf:entryFor table "dict.update.loop"=some Builtin.«dict.update.loop»:=entryFor_of_tree (by kernel_rfl)
theorem yW:plainId "dict.update.loop"=true:=by decide +kernel
section
variable {prog:Program} {w:World} {A:Around} {E:Value->Shared->Prop}
theorem Na {s:Shared} {a:Addr} {o:Obj} {xs:Array Value} {k:Nat} {Q:Option Value->Shared->Prop} (hx:s.heap.get? a=some o) (hc:o.cls=.type "list") (hdat:o.data=.seq xs k) (hd:o.dict=none) (hA:A.handled=none)
  (h:∀ h' tk,(∀ b ob,s.heap.get? b=some ob->h'.get? b=some ob)->Q none { s with heap:=h',toks:=tk }):wpAny (model prog w) A (getAttr? (.ref a) "keys") Q E s:=by
 obtain ⟨c,dct,dat,sl⟩:=o
 simp only at hc hdat hd
 subst hc hdat hd
 obtain ⟨hp,g,d,tk,os⟩:=s
 have hT:∀ tk',(⟨hp,g,d,tk',os⟩:Shared).TypeIs (.ref a) "list":=λ_=>⟨_,hx,rfl⟩
 have hmiss:=ER
 have hname:(["__module__","__name__","__qualname__","__doc__","__annotations__"]:List Str).contains "keys"=false:=by decide +kernel
 have hsz:("keys":Str).length+100<=sizeLine:=by first | size_fits | decide +kernel
 have f1:=sub_AttributeError
 have f3:=Xn.lookup
 have f4:=Xn.bind (.ref a)
 have f5:=am_list_getattr_none
 unfold getAttr? getAttrBy? getAttrBy
 repeat (any_goals (first | assumption | exact hT _ | ((with_reducible show wpAny _ _ (call (Value.builtin "list.__getattribute__") _ _) _ _ _);refine call_meets Xn (hT _) am_entry_list_getattribute (PySem.F.args_list_getattribute_2 _ _) (meets_getattribute_miss_list a xs k sl "keys" _ hmiss hname hsz) ⟨hx,hA,λh' tk' e hx'=>?_⟩) | wp_step))
 obtain ⟨t',u',he⟩:=hx'.there
 show wpAny _ _ (getattributeRaised _ _ _ _ _ _ _) _ _ _
 unfold getattributeRaised
 repeat (any_goals (first | assumption | wp_step))
 all_goals first | exact h _ _ hx'.keeps | (dsimp only;repeat (any_goals (first | assumption | exact h _ _ hx'.keeps | wp_step)))
theorem Jc {R:Result->Shared->Prop} {S I l:Addr} {items:Array Value} {res:Value} (hh:A.handled=none) (hlI:l≠I) (hSI:S≠I) (hSl:S≠l) :
  ∀ (rest:List (Key × Value)) (i:Nat) (acc:List (Key × Value)) (ix:Int) (t:Tok) (s:Shared),items.size=i+rest.length->acc.length+rest.length<=sizeLine ->
   (∀ (j:Nat) (q:Key × Value),rest[j]?=some q->∃ (b:Addr) (u:Value),items[i+j]?=some (.ref b)/\b≠S/\b≠I/\IsTup s.heap b #[u,q.2]/\zL q.1 u=true) ->
   s.heap.IsListIter I l i->s.heap.IsList l items->s.heap.DictOf (aY prog w) S acc ->
   (∀ h' tk,h'.DictOf (aY prog w) S (merged acc rest)->(∀ b o,b≠S->b≠I->s.heap.get? b=some o->h'.get? b=some o)->R (.ok (.ret res)) { s with heap:=h',toks:=tk }) ->
   codeAny (model prog w) A (.builtin "dict.update.loop" ⟨[.ref S,.ref I,.int ix t,res],[]⟩) R s
 | [],i,acc,ix,t,s,hsz,hln,ht,hit,hl,hm,hR=>by
  refine codeAny_builtin Jf ?_
  rw [Around.under_plainId yW _]
  show wpAny _ A.in1 (pyNext (.ref I) >>= _) _ _ s
  refine wpAny_bind (wpAny_pyNext_list_end (A:=A.in1) hh hit hl (by first | exact Array.getElem?_eq_none (Nat.le_of_eq hsz) | (simp at hsz;simp;omega)) λh' he=>?_)
  show wpAny _ A.in1 (Builtin.Dict.addKeywords S [] >>= _) _ _ _
  refine wpAny_bind (wpAny_pure (wpAny_pure ?_))
  exact hR h' s.toks (hm.extBut he hSI) λb o _ hb e=>he b o hb e
 | q::rest,i,acc,ix,t,s,hsz,hln,ht,hit,hl,hm,hR=>by
  obtain ⟨b,u,hb,hbS,hbI,htup,hk⟩:=ht 0 q rfl
  rw [Vj] at hsz hln
  refine codeAny_builtin Jf ?_
  rw [Around.under_plainId yW _]
  show wpAny _ A.in1 (pyNext (.ref I) >>= _) _ _ s
  refine wpAny_bind (wpAny_pyNext_list_item (x:=.ref b) hit hl (by simpa using hb) λh1 hit1 hs1=>?_)
  have ht1:IsTup h1 b #[u,q.2]:=htup.extBut hs1.extBut hbI
  have hl1:h1.IsList l items:=hl.extBut hs1.extBut hlI
  have hm1:h1.DictOf (aY prog w) S acc:=hm.extBut hs1.extBut hSI
  obtain ⟨o,ho,hc,n,hd⟩:=id ht1
  show wpAny _ A.in1 (holding [Value.ref b] _ >>= _) _ _ _
  refine wpAny_bind (wpAny_holding ?_)
  refine wpAny_bind (wpAny_tryCatch ?_)
  unfold Builtin.Dict.pairItems
  refine wpAny_bind (wpAny_typeOf (T:="tuple") ⟨o,ho,hc⟩ ?_)
  rw [if_pos (by first | decide | rfl | simp)]
  refine wpAny_bind (wpAny_seqItems ho hd (wpAny_pure ?_))
  show wpAny _ A.in1 (holding [u,q.2] (dictSet S u q.2)) _ _ _
  refine wpAny_holding (wpAny_dictSet_pairs (knd:=aY prog w) (k:=q.1) hk hm1 (λh2 hm2 hs2=>?_) (by lia))
  refine wpAny_pure ⟨plainId_quiet yW _,Jc (items:=items) hh hlI hSI hSl rest (i+1) (stored acc q.1 q.2) (ix+1) 0 _ (show items.size=i+1+rest.length by lia) ?_ (λj q' e=>?_) ?_ ?_ hm2 λh' tk hd' k=>?_⟩
  ·have z:=stored_length_le acc q.1 q.2
   lia
  ·obtain ⟨b',u',hb',hbS',hbI',htup',hk'⟩:=ht (j+1) q' (by simpa using e)
   refine ⟨b',u',?_,hbS',hbI',(htup'.extBut hs1.extBut hbI').extBut hs2.extBut hbS',hk'⟩
   rw [show i+1+j=i+(j+1) by lia]
   exact hb'
  ·exact hit1.at λo' e=>hs2.extBut I o' (Ne.symm hSI) e
  ·exact hl1.extBut hs2.extBut (Ne.symm hSl)
  ·exact hR h' tk hd' λc oc h3 h4 e=>k c oc h3 h4 (hs2.extBut c oc h3 (hs1.extBut c oc h4 e))
theorem DU {s:Shared} {l:Addr} {ol:Obj} {items:Array Value} {n:Nat} {prs:List (Key × Value)} {Q:Value->Shared->Prop} (hh:A.handled=none) (hl:s.heap.get? l=some ol) (hc:ol.cls=.type "list") (hd:ol.dict=none)
  (hdat:ol.data=.seq items n) (hsz:items.size=prs.length) (hln:prs.length<=sizeLine)
  (ht:∀ (j:Nat) (q:Key × Value),prs[j]?=some q->∃ (b:Addr) (u:Value),items[j]?=some (.ref b)/\IsTup s.heap b #[u,q.2]/\zL q.1 u=true)
  (h:∀ h' tk,h'.DictOf (aY prog w) s.heap.objs.size (merged [] prs)->(∀ b o,s.heap.get? b=some o->h'.get? b=some o)->Q (.ref s.heap.objs.size) { s with heap:=h',toks:=tk }) :
  wpAny (model prog w) A (call (.type "dict") [.ref l]) Q E s:=by
 refine callType_codes (Q₁:=λobj s₁=>obj=.ref s.heap.objs.size/\s₁={ s with heap:=s.heap.push { cls:=.type "dict",data:=.dict #[] } }) PySem.F.kt_called_dict (PySem.F.kt_typeCall_dict_1 _) PySem.F.entry_dict_init (kt_code_dict_new _ ⟨rfl,rfl⟩) ?_
 rintro obj s₁ ⟨rfl,rfl⟩
 have hnew:(s.heap.push { cls:=.type "dict",data:=.dict #[] }).DictOf (aY prog w) s.heap.objs.size []:=Heap.DictOf.new s.heap
 have k0:∀ b o,s.heap.get? b=some o->(s.heap.push { cls:=.type "dict",data:=.dict #[] }).get? b=some o:=λb o e=>Heap.get?_push_of_some _ e
 refine ⟨hnew.typeIs,PySem.F.args_dict_init_2 _ _,?_⟩
 unfold Builtin.«dict.__init__»
 refine wpAny_bind ?_
 unfold Builtin.Dict.selfAndRest
 refine wpAny_bind (wpAny_notOrdered_dict hnew.typeIs ?_)
 show wpAny _ _ (pure (s.heap.objs.size,[Value.ref l])) _ _ _
 refine wpAny_pure ?_
 show wpAny _ _ (Builtin.Dict.updateFrom "dict.__init__" s.heap.objs.size (.ref l) [] .none) _ _ _
 unfold Builtin.Dict.updateFrom
 refine wpAny_bind (wpAny_typeOf (T:="list") ⟨ol,k0 _ _ hl,hc⟩ ?_)
 rw [if_pos (by first | decide | rfl | simp)]
 refine wpAny_bind (Na (k0 _ _ hl) hc hdat hd hh λh1 tk1 hk1=>?_)
 rw [if_pos (show (none:Option Value).isNone=true from rfl)]
 refine wpAny_bind (wpAny_rule ?_)
 have hl1:h1.IsList l items:=⟨ol,hk1 _ _ (k0 _ _ hl),hc,n,hdat⟩
 have hS1:s.heap.objs.size < h1.objs.size:=by
  have e:(s.heap.push { cls:=.type "dict",data:=.dict #[] }).get? s.heap.objs.size=some { cls:=.type "dict",data:=.dict #[] }:=Heap.get?_push_size _ rfl
  exact Heap.lt_size (hk1 _ _ e)
 refine wpAny_bind (wpAny_pyIter_list hl1 ?_)
 have k2:∀ b o,h1.get? b=some o->(h1.push { cls:=.type "list_iterator",data:=.fields #[.ref l,.int 0 0] }).get? b=some o:=λb o e=>Heap.get?_push_of_some _ e
 have hlt:l < s.heap.objs.size:=Heap.lt_size hl
 have key:=Jc (prog:=prog) (w:=w) (A:=A.in1) (R:=wants (λr s₂=>r=.none/\Q (.ref s.heap.objs.size) s₂) E) (S:=s.heap.objs.size) (I:=h1.objs.size) (l:=l) (items:=items) (res:=Value.none) hh
  (Vh (Nat.lt_trans hlt hS1)) (Vh hS1) (Nat.ne_of_gt hlt) prs 0 [] 0 0
  { s with heap:=h1.push { cls:=.type "list_iterator",data:=.fields #[.ref l,.int 0 0] },toks:=tk1 } (by rw [hsz,WO]) (by rw [List.length_nil,WO];exact hln)
  (λj q e=>by
   obtain ⟨b,u,e1,e2,e3⟩:=ht j q e
   have hb:b < s.heap.objs.size:=e2.lt
   exact ⟨b,u,by rw [WO];exact e1,Vh hb,Vh (Nat.lt_trans hb hS1),e2.keeps λc o z=>k2 _ _ (hk1 _ _ (k0 _ _ z)),e3⟩)
  ⟨_,Heap.get?_push_size _ rfl,rfl,rfl⟩ (hl1.at λo e=>k2 _ _ e) ((hnew.at λo e=>hk1 _ _ e).at λo e=>k2 _ _ e)
  (λh' tk hd' k=>⟨rfl,h h' tk hd' λb o e=>k b o (Vh (Heap.lt_size e)) (Vh (Nat.lt_trans (Heap.lt_size e) hS1)) (k2 _ _ (hk1 _ _ (k0 _ _ e)))⟩)
 first
  | exact wpAny_pure ⟨plainId_quiet yW _,key⟩
  | exact wpAny_bind (wpAny_pure (wpAny_pure ⟨plainId_quiet yW _,key⟩))
end
section
variable {X:Cx}
theorem JC {pins:List (Addr × Obj)} {σ:St} {H:Hp} {s:Shared} (I:Inv X pins σ H s):∀ {ps:List Addr} {kvs:List (Key × V)},Paired (λp kv=>gg X.K H p [kV kv.1,kv.2]) ps kvs ->
  ∃ prs:List (Key × Value),KV kvs prs/\prs.length=ps.length/\∀ (j:Nat) (q:Key × Value),prs[j]?=some q->∃ (b:Addr) (u:Value),ps[j]?=some b/\IsTup s.heap b #[u,q.2]/\zL q.1 u=true
 | _,_,.nil=>⟨[],.nil,rfl,λj q e=>by simp at e⟩
 | _,_,.cons (a:=p) (b:=kv) h t=>by
  obtain ⟨prs,r,hl,hp⟩:=JC I t
  obtain ⟨its,rv,ht,_⟩:=I.tuple h
  obtain ⟨u,y,ei,ru,ry⟩:=vals2 rv
  subst ei
  refine ⟨(kv.1,y)::prs,.cons ⟨rfl,ry⟩ r,by rw [Vj,Vj,hl],λj q e=>?_⟩
  cases j with
  | zero =>
   have e':(kv.1,y)=q:=Option.some.inj e
   subst e'
   exact ⟨p,u,rfl,ht,yF (P:=X.prog) (w:=X.w) ru⟩
  | succ j =>
   obtain ⟨b,u',e1,e2,e3⟩:=hp j q (by simpa using e)
   exact ⟨b,u',by simpa using e1,e2,e3⟩
theorem Ma:∀ {ps:List Addr} {us:List Value},Vals (ps.map V.ref) us->us=ps.map Value.ref
 | [],us,r=>by
  rw [Wy] at r
  cases r
  rfl
 | p::ps,us,r=>by
  rw [Vc] at r
  cases r with
  | cons h t =>
   cases h
   rw [Vc,<- Ma t]
theorem Kp (hcalm:X.calm=true):m6 X (.type "dict") (λxs H Q=>∃ (a:Addr) (ps:List Addr) (kvs:List (Key × V)),xs=[.ref a]/\bc X.K H a (ps.map V.ref)/\Paired (λp kv=>gg X.K H p [kV kv.1,kv.2]) ps kvs /\
  ∀ p,H p=none->Q (.ref p) (upd H p (.dK (u9 [] kvs)))):=by
 intro pins s σ H xs us Q I r q
 obtain ⟨a,ps,kvs,ex,hq,hp,q⟩:=q
 subst ex
 obtain ⟨u,eu,rx⟩:=vals1 r
 subst eu
 cases rx
 obtain ⟨its,rv,pl,hz⟩:=I.list hq
 have ei:=Ma rv
 subst ei
 rw [UT] at hz
 obtain ⟨prs,rel,hl,hpr⟩:=JC I hp
 obtain ⟨o,n,ho,hc,hd,hdat⟩:=pl
 refine DU (prs:=prs) (I.ok.hd hcalm) ho hc hd hdat (by simp [hl]) (by rw [hl];exact hz) (λj q' e=>?_) λh' tk hd' k=>?_
 ·obtain ⟨b,u,e1,e2,e3⟩:=hpr j q' e
  exact ⟨b,u,by simp [e1],e2,e3⟩
 ·have hm:(s.heap.objs.size == sysModules)=false:=beq_eq_false_iff_ne.mpr (Nat.ne_of_gt I.big)
  have hlen:(u9 [] kvs).length<=sizeLine:=by
   refine U8 (zP kvs []) ?_
   rw [List.length_nil,WO,rel.length,hl]
   exact hz
  exact ⟨.ref s.heap.objs.size,upd H s.heap.objs.size (.dK (u9 [] kvs)),I.laid (t':=tk) k (U1 _) (show i4 X.prog X.w _ _ _ (.dK (u9 [] kvs)) from ⟨hlen,hm,merged [] prs,KV.merge rel .nil,hd'⟩),rfl,q _ (I.dv.fresh (U1 _))⟩
end
end L2
namespace L2
open PySem PySem.Spec PyProof.Rows
section
variable {X:Cx} {pins:List (Addr × Obj)} {σ:St} {H:Hp} {s:Shared} {h':Heap}
theorem Inv.lock {d:Addr} {u:HO} (I:Inv X pins σ H s) (h:H d=some u) (mu:Qo (some u)):∃ od,Inv X pins σ (upd H d (.frz od u)) s:=by
 have x:=I.dv d u h
 have ex:∃ od,s.heap.get? d=some od:=by
  cases u with
  | lst xs=>obtain ⟨_,_,_,_,e⟩:=x;exact ⟨_,e⟩
  | dK kvs=>obtain ⟨_,_,_,_,o,_,_,e,_⟩:=x;exact ⟨o,e⟩
  | dT kvs=>obtain ⟨_,_,_,_,o,_,_,e,_⟩:=x;exact ⟨o,e⟩
  | set S n=>obtain ⟨o,_,_,_,e,_⟩:=x;exact ⟨o,e⟩
  | ins C dx fs=>obtain ⟨_,_,_,e,_⟩:=x;exact ⟨_,e⟩
  | ext φ=>obtain ⟨_,⟨_,e⟩,_⟩:=x;exact ⟨_,e⟩
  | _=>exact False.elim mu
 obtain ⟨od,e⟩:=ex
 have new:i4 X.prog X.w (upd H d (.frz od u)) s.heap d (.frz od u):=by
  refine ⟨e,x.qh (λb v _ q=>q) (λb q=>?_) λb xs q=>?_⟩
  ·rw [ak (λz=>by rw [z,h] at q;cases q;exact mu)];exact q
  ·rw [ak (λz=>by rw [z,h] at q;cases q;exact mu)];exact q
 exact ⟨od,I.write (x:=d) (e:=d) (t':=s.toks) (h':=s.heap) (by rw [h];exact mu) (.inl rfl) (λb v _ q=>q) ⟨od,e⟩ new⟩
theorem Inv.Su {d:Addr} {u:HO} (I:Inv X pins σ H s) (h:H d=some u) (mu:Qo (some u)):∀ o' u',X.RT d≠some (.frz o' u'):=λo' u' e=>by
 have q:=I.base.Cd d o' u' e
 rw [h] at q
 cases q
 exact mu
theorem Inv.unlock {d:Addr} {od:Obj} {u:HO} (I:Inv X pins σ H s) (h:H d=some (.frz od u)) (hn:∀ o' u',X.RT d≠some (.frz o' u')):Inv X pins σ (upd H d u) s:=by
 have neH:∀ b o,H b=some o->(∀ o' u',o≠.frz o' u')->b≠d:=λb o e hne z=>by
  rw [z,h] at e
  cases e
  exact hne _ _ rfl
 have neN:∀ b,H b=none->b≠d:=λb e z=>by rw [z,h] at e;cases e
 refine ⟨I.ok,I.os,I.bare,⟨I.base.keep,I.base.slot,λb o e n hx=>?_,I.base.there,λb xs e=>?_,λb o x e=>?_,λb ps e=>?_⟩,I.loc,I.cell,?_,λx c e=>?_,λp hp=>?_,λb o e=>?_,I.len⟩
 ·rw [ak (neN b (I.base.free b o e n hx))];exact I.base.free b o e n hx
 ·have q:=I.base.Aa b xs e
  rw [ak (neH b _ q (λ_ _ z=>nomatch z))];exact q
 ·have q:=I.base.Cd b o x e
  rw [ak (λz=>by rw [z] at e;exact hn _ _ e)];exact q
 ·obtain ⟨m,q⟩:=I.base.Iq b ps e
  exact ⟨m,by rw [ak (neH b _ q (λ_ _ z=>nomatch z))];exact q⟩
 ·rw [ak (neN _ I.free)];exact I.free
 ·rw [ak (neN c (I.vO x c e))];exact I.vO x c e
 ·obtain ⟨e,n,r⟩:=I.pin p hp
  exact ⟨e,by rw [ak (neN _ n)];exact n,r⟩
 ·by_cases hb:b=d
  ·rw [hb,ae] at e
   cases e
   rw [hb]
   obtain ⟨_,x⟩:=I.dv d _ h
   exact x.qh (λc v _ q=>q) (λc q=>by rw [ak (neH c _ q (λ_ _ z=>nomatch z))];exact q) λc xs q=>by rw [ak (neH c _ q (λ_ _ z=>nomatch z))];exact q
  ·rw [ak hb] at e
   exact (I.dv b o e).qh (λc v _ q=>q) (λc q=>by rw [ak (neH c _ q (λ_ _ z=>nomatch z))];exact q) λc xs q=>by rw [ak (neH c _ q (λ_ _ z=>nomatch z))];exact q
end
def Rr (t:TE):TE:=λσ H Q=>∃ d u,H d=some u/\Qo (some u)/\∀ od,t σ (upd H d (.frz od u)) λv H'=>H' d=some (.frz od u)/\Q v (upd H' d u)
section
variable {X:Cx}
theorem LG {e:Expr} {t:TE} (h:PE X e t):PE X e (Rr t):=by
 intro pins s σ H Q I hw
 obtain ⟨d,u,hd,mu,hw⟩:=hw
 obtain ⟨od,I1⟩:=I.lock hd mu
 refine dN (h pins s σ _ _ I1 (hw od)) λv s1 ⟨x,H1,I2,r,e2,q⟩=>?_
 exact ⟨x,_,I2.unlock e2 (I.Su hd mu),r,q⟩
theorem NF {tg:Expr} {pins:List (Addr × Obj)} {σ:St} {H:Hp} {s:Shared} {R:It->Hp->Prop} {J:It} {tn:Nat->Heap->Prop} {tk:Nat} (I:Inv X pins σ H s) (o:Obj)
  (T:Turn X.prog X.w X.K tg J [s.heap.objs.size] s.heap.objs.size tn) (st:tn 0 (s.heap.push o)) (q:R J H):TH X pins σ tg R (.ref s.heap.objs.size) { s with heap:=s.heap.push o,toks:=tk }:=by
 refine ⟨s.heap.objs.size,[s.heap.objs.size],tn,J,H,rfl,I.kept λb ob e=>Heap.get?_push_of_some _ e,T,st,λb hb=>?_,q⟩
 have e:b=s.heap.objs.size:=by simpa using hb
 subst e
 exact I.Oj (U1 _) (I.dv.fresh (U1 _))
end
def Sh (lo c:Int) (n:Nat):It:=⟨λi _=>i < n,λi H x H'=>H'=H/\x=.int (lo+(i:Nat) * c),λi _=>n<=i⟩
theorem JP {P:Program} {w:World} {K:UR} {tg:Expr} (it:Addr) (lo c:Int) (n:Nat):Turn P w K tg (Sh lo c n) [it] it (λi h=>IsRangeIter h it (lo+(i:Nat) * c) ((n:Int) - (i:Nat)) c) where
 mem:=by simp
 obj:=λi h st b hb=>by
  have e:b=it:=by simpa using hb
  subst e
  exact ⟨_,st,λv z=>nomatch z⟩
 keep:=λi h h' st k=>k it (by simp) _ st
 item:=by
  intro X hP hw hK hc i pins s σ H E I hf st hg
  subst hP hw hK
  obtain ⟨f0,f1,f2,f3,f4,f5⟩:=hf it (by simp)
  have W:=Walks.range (prog:=X.prog) (w:=X.w) (I.ok.hd hc) it lo c n
  refine W.item i s _ _ hg st λv h' tk hv st' kk=>?_
  obtain ⟨t,rfl⟩:=hv
  have I1:Inv X pins σ H { s with heap:=h',toks:=tk }:=I.turned (λb o hb e=>kk b o (by simpa using hb) e) f0 f1 f3 f4 f5
  exact ⟨_,rfl,JO (s:={ s with heap:=h',toks:=tk }) (n:="range_iterator") st' rfl rfl (by decide) ⟨.int (lo+(i:Nat) * c),H,I1,⟨t,rfl⟩,⟨rfl,rfl⟩,st',λb hb=>(hf b hb).1⟩⟩
 done:=by
  intro X hP hw hK hc i pins s σ H E I hf st hg
  subst hP hw hK
  obtain ⟨f0,f1,f2,f3,f4,f5⟩:=hf it (by simp)
  exact wpAny_pyNext_range_end (I.ok.hd hc) st (by have:n<=i:=hg;lia) λh' eb=>⟨rfl,I.turned (t':=s.toks) (λb o hb e=>eb b o hb e) f0 f1 f3 f4 f5⟩
 self:=λA i s Q E st h=>wpAny_pyIter_rangeiter st h
def UD (i j c:Int) (n:Nat):Prop:=c≠0/\c.natAbs < 1073741824/\Builtin.Range.small i j c=true/\Builtin.Range.rangeSize i j c=n
def Si (ta:TA):TI:=λσ H R=>ta σ H λvs H1=>∃ (i j c:Int) (n:Nat),vs=[.int i,.int j,.int c]/\UD i j c n/\R (Sh i c n) H1
section
variable {X:Cx} {tg:Expr}
theorem Nk {a b c:Expr} {ta:TA} {p pos:Pos} (hg:Gl X "range") (hm:X.mg "range"=none) (ha:PA X [a,b,c] ta)
  (hs:starEach [a,b,c] X.env=(false,eval a X.env)::starEach [b,c] X.env:=by rfl) (hpl:(backTo pos (starEach [b,c] X.env)).any (·.1)=false:=by rfl) :
  PI X tg (.Call (.Name "range" p) [a,b,c] [] pos) (Si ta):=by
 intro pins s σ H R I h
 refine Call_ (Hh I hg hm boot_range (PyProof.Rows.callWith_type1 (dN (ha pos pins s σ H _ I h) λus s1 ⟨vs,H1,I1,r1,q1⟩=>?_) hs hpl))
 obtain ⟨i,j,k,n,e,⟨c0,c1,c2,c3⟩,q⟩:=q1
 subst e
 cases r1 with
 | cons r rr =>
  cases rr with
  | cons r' rr =>
   cases rr with
   | cons r'' rr =>
    cases rr
    obtain ⟨t,rfl⟩:=r
    obtain ⟨t',rfl⟩:=r'
    obtain ⟨t'',rfl⟩:=r''
    refine call_range_3 c0 ?_ (.inl (PyProof.noPylong_small c1))
    refine wpAny_pyIter_range (IsRange.new ..) c2 ?_
    have I2:Inv X pins σ H1 { s1 with heap:=s1.heap.push { cls:=.type "range",data:=.fields #[.int i t,.int j t',.int k t''] } }:=I1.kept (t':=s1.toks) λb o e=>Heap.get?_push_of_some _ e
    refine NF (tk:=s1.toks) I2 _ (JP _ i k n) ?_ q
    have e1:i+((0:Nat):Int) * k=i:=by simp
    have e2:(n:Int) - ((0:Nat):Int)=Builtin.Range.rangeSize i j k:=by rw [c3];simp
    show IsRangeIter _ _ (i+((0:Nat):Int) * k) ((n:Int) - ((0:Nat):Int)) k
    rw [e1,e2]
    exact Heap.get?_push_size _ rfl
end
theorem Rp {κ:Type} {kvs:List (κ × V)} {vs:List (κ × Value)} (h:KV kvs vs):∀ {i:Nat} {k:κ} {v:V},kvs[i]?=some (k,v)->∃ u,vs[i]?=some (k,u)/\RelV v u:=by
 unfold KV at h
 induction h with
 | nil=>intro i k v e;simp at e
 | @cons a b l₁ l₂ r t ih =>
  intro i k v e
  cases i with
  | zero =>
   simp only [List.getElem?_cons_zero,Option.some.injEq] at e
   subst e
   refine ⟨b.2,?_,r.2⟩
   simp only [List.getElem?_cons_zero]
   exact congrArg some (Prod.ext r.1.symm rfl)
  | succ j =>
   simp only [List.getElem?_cons_succ] at e ⊢
   exact ih e
section
variable {X:Cx} {pins:List (Addr × Obj)} {σ:St} {H:Hp} {s:Shared} {d:Addr} {o:Obj}
theorem Inv.QK {kvs:List (Key × V)} (I:Inv X pins σ H s) (h:H d=some (.frz o (.dK kvs))) :
  (d == sysModules)=false/\s.heap.get? d=some o/\o.ExactDict/\∃ (es:Array DictEntry) (ep:Nat) (vs:List (Key × Value)),o.data=.dict es ep/\es.size=kvs.length/\KV kvs vs/\s.heap.DictAt (aY X.prog X.w) d vs ep:=by
 obtain ⟨hd,z,hs,vs,kv,o',es,ep,ho,hx,hdt,r⟩:=I.dv d _ h
 rw [hd] at ho
 cases ho
 refine ⟨hs,hd,hx,es,ep,vs,hdt,?_,kv,o,es,hd,hx,hdt,r⟩
 have l1:=r.2.1.length
 have l2:kvs.length=vs.length:=Paired.length kv
 rw [Array.length_toList] at l1
 lia
end
def Tb (d:Addr) (o:Obj) (kvs:List (Key × V)):It :=
 ⟨λi H=>H d=some (.frz o (.dK kvs))/\i < kvs.length,λi H x H'=>H'=H/\∃ k,kvs[i]?=some (k,x),λi H=>H d=some (.frz o (.dK kvs))/\kvs.length<=i⟩
theorem Lu {o:Obj} {es es':Array DictEntry} {ep ep':Nat} (h:o.data=.dict es ep) (h':o.data=.dict es' ep'):es'=es/\ep'=ep:=by
 rw [h] at h'
 cases h'
 exact ⟨rfl,rfl⟩
section
variable {P:Program} {w:World} {K:UR} {tg:Expr} {d:Addr} {o:Obj} {es:Array DictEntry} {ep:Nat}
theorem MR {kvs:List (Key × V)} (it:Addr) (hod:o.data=.dict es ep):Turn P w K tg (Tb d o kvs) [it] it (λi h=>h.IsValIter it d i kvs.length ep) where
 mem:=by simp
 obj:=λi h st b hb=>by
  have e:b=it:=by simpa using hb
  subst e
  obtain ⟨oi,e,c,dd⟩:=st
  exact ⟨oi,e,λv z=>by rw [dd] at z;cases z⟩
 keep:=λi h h' st k=>st.at λoi e=>k it (by simp) oi e
 item:=by
  intro X hP hw hK hc i pins s σ H E I hf st hg
  subst hP hw hK
  obtain ⟨hd,hi⟩:=hg
  obtain ⟨f0,f1,f2,f3,f4,f5⟩:=hf it (by simp)
  obtain ⟨hs,hgd,hx,es',ep',vs,hdt,hsz,kv,hm⟩:=I.QK hd
  obtain ⟨rfl,rfl⟩:=Lu hod hdt
  obtain ⟨⟨k,v⟩,hkv⟩:∃ p,kvs[i]?=some p:=⟨kvs[i],VI hi⟩
  obtain ⟨u,hu,ru⟩:=Rp kv hkv
  have hl:kvs.length=vs.length:=Paired.length kv
  rw [hl] at st
  refine wpAny_pyNext_values_item st hm hu λh' st' sb=>?_
  have I1:Inv X pins σ H { s with heap:=h' }:=I.turned (t':=s.toks) (λb ob hb e=>(sb.2 b hb).trans e) f0 f1 f3 f4 f5
  obtain ⟨oi,e,c,dd⟩:=id st'
  refine ⟨u,rfl,JO (s:={ s with heap:=h' }) e c dd (by decide) ⟨v,H,I1,ru,⟨rfl,k,hkv⟩,?_,λb hb=>(hf b hb).1⟩⟩
  show h'.IsValIter it d (i+1) kvs.length _
  rw [hl]
  exact st'
 done:=by
  intro X hP hw hK hc i pins s σ H E I hf st hg
  subst hP hw hK
  obtain ⟨hd,hi⟩:=hg
  obtain ⟨f0,f1,f2,f3,f4,f5⟩:=hf it (by simp)
  obtain ⟨hs,hgd,hx,es',ep',vs,hdt,hsz,kv,hm⟩:=I.QK hd
  obtain ⟨rfl,rfl⟩:=Lu hod hdt
  have hl:kvs.length=vs.length:=Paired.length kv
  rw [hl] at st
  exact wpAny_pyNext_values_end (I.ok.hd hc) st hm (Wf (by lia)) λh' eb=>⟨rfl,I.turned (t':=s.toks) (λb ob hb e=>eb b ob hb e) f0 f1 f3 f4 f5⟩
 self:=λA i s Q E st h=>wpAny_pyIter_valiter st h
end
def SW (td:TE):TI:=λσ H R=>td σ H λx H1=>∃ d o kvs,x=.ref d/\H1 d=some (.frz o (.dK kvs))/\R (Tb d o kvs) H1
section
variable {X:Cx} {tg e:Expr} {td:TE} {apos cpos:Pos}
theorem GZ (he:PE X e td) (hbase:attributeBase e "values" X.env (eval e X.env)=eval e X.env:=by rfl) (hline:(apos.endLine == cpos.line)=true:=by rfl):PI X tg (.Call (.Attribute e "values" apos) [] [] cpos) (SW td):=by
 intro pins s σ H R I h
 refine wpAny_Call_method (T:="dict") (id:="dict.values") hbase rfl hline F.plainAttrs_dict F.slot_dict_values F.type_dict_values (dN (he pins s σ H _ I h) λu s1 ⟨x,H1,I1,rx,d,o,kvs,ex,hd,q⟩=>?_)
 subst ex
 obtain rfl:u=Value.ref d:=rx
 obtain ⟨hs,hgd,hx,es,ep,vs,hdt,hsz,kv,hm⟩:=I1.QK hd
 have hl:kvs.length=vs.length:=Paired.length kv
 refine ⟨hm.dictOf.typeIs,hm.dictOf.mapOf.noDict,?_⟩
 have I2:Inv X pins σ H1 { s1 with heap:=s1.heap.push { cls:=.type "dict_values",data:=.fields #[.ref d] } }:=I1.kept (t':=s1.toks) λb ob q=>Heap.get?_push_of_some _ q
 have fin:wpAny (model X.prog X.w) X.A (pyIter (.ref s1.heap.objs.size)) (TH X pins σ tg R) X.xe { s1 with heap:=s1.heap.push { cls:=.type "dict_values",data:=.fields #[.ref d] } }:=by
  refine wpAny_pyIter_values (d:=d) (knd:=aY X.prog X.w) ⟨_,Heap.get?_push_size _ rfl,rfl,rfl⟩ (hm.push _) (NF (tk:=s1.toks) I2 _ (MR _ hdt) ⟨_,Heap.get?_push_size _ rfl,rfl,?_⟩ q)
  rw [hl]<;>rfl
 show wpAny _ _ (callWith cpos (.builtin "dict.values") [.ref d] [] []) _ X.xe s1
 exact method_meetsIn F.slot_dict_values F.entry_dict_values rfl (PySem.evalArgs_none ⟨rfl,hm.dictOf.typeIs,F.args_dict_values_1 _,_,meets_dict_values (aY X.prog X.w) d hs,⟨vs,hm.dictOf⟩,fin⟩)
end
end L2
namespace L2
open PySem PySem.Spec PyProof.Rows
def inClass (s:Stmt) (j:Nat):Stmt:=match s with
 | .ClassDef _ _ _ body _ _ _ _ _ _ _=>body.getD j (.Pass ⟨0,0,0,0⟩)
 | _=>.Pass ⟨0,0,0,0⟩
def qb (s:Stmt):Arguments:=match s with
 | .FunctionDef _ a _ _ _ _ _ _ _ _=>a
 | _=>{ posonlyargs:=[],args:=[],vararg:=none,kwonlyargs:=[],kw_defaults:=[],kwarg:=none,defaults:=[] }
def oo (s:Stmt):List Stmt:=match s with
 | .FunctionDef _ _ b _ _ _ _ _ _ _=>b
 | _=>[]
def aq (s:Stmt):Scope:=match s with
 | .FunctionDef _ _ _ _ _ _ sc _ _ _=>sc
 | _=>{ kind:=.function,names:=[],isGenerator:=false,isCoroutine:=false }
abbrev eQ:Np:=λ_ _ _ _ _ _=>False
abbrev E0:XK:=λ_ _ _=>False
theorem aE {X:Cx}:Passes eQ X E0:=λ_ _ _ _ _ _ _ h=>h.elim
structure eM (K:UR) (x qual:Str) (st:Stmt) (f:Addr) (fd:FuncData):Prop where
 ex:∃ (oc:Value) (od:Option Addr) (kV doc pm:Value) (an:Option Addr) (cdv ct:Value) (osl:Array (Option Value)),
  fd=Wa x qual (qb st) (oo st) (aq st) .none kV doc pm an cdv ct/\K.lookup f=some ⟨oc,od,.func fd,osl⟩/\W3 K cdv qual=true
 kp:Wd K (.ref f)=true
section
variable {P:Program} {w:World} {K:UR} {mg:Str->Option Value} {base:Heap}
theorem eM.ok {x qual:Str} {st:Stmt} {f:Addr} {fd:FuncData} {N ps:List Str} {k:Nat} {sp:Sp} (F:eM K x qual st f fd) (S:aA N ps (aq st)) (len:∀ vs H Q E,sp vs H Q E->vs.length=ps.length)
  (hbody:∀ (cdv:Value) (A:Around) (outer:List Env) (s:Shared) (H:Hp) (vs:List V) (Q:VK) (E:XK),my k (A.deeper (envOfC qual (aq st) s.heap.objs.size f cdv))->sp vs H Q E ->
   ∃ t,Mx (MV eQ P w K mg base N qual (aq st) f cdv A outer s H E).Tw (oo st) t/\t { nx:=λ_ H'=>Q .dF H',rt:=Q } (start N vs) H):a7 P w K mg base eQ (k+1) f fd ps sp:=by
 obtain ⟨oc,od,kV,doc,pm,an,cdv,ct,osl,rfl,lk,hcd⟩:=F.ex
 refine Tj lk hcd S len λA outer s H vs Q E hr hsp=>?_
 obtain ⟨t,h,q⟩:=hbody cdv A outer s H vs Q E hr hsp
 exact ⟨t,h.Tw,q⟩
theorem eM.binds {x qual:Str} {st:Stmt} {f:Addr} {fd:FuncData} {ps:List Str} (F:eM K x qual st f fd)
  (h:∀ (kV doc pm:Value) (an:Option Addr) (cdv ct:Value) (us:List Value),us.length=ps.length->bindArgs (Wa x qual (qb st) (oo st) (aq st) .none kV doc pm an cdv ct) ⟨us,[]⟩=pure (ps.zip us)):Binds K fd ps []:=by
 obtain ⟨oc,od,kV,doc,pm,an,cdv,ct,osl,rfl,lk,hcd⟩:=F.ex
 exact .all (h kV doc pm an cdv ct)
theorem Kc {x qual:Str} {st:Stmt} {f:Addr} {oc:Value} {od an:Option Addr} {osl:Array (Option Value)} {kV doc pm cdv ct:Value} (l:K.lookup f=some ⟨oc,od,.func (Wa x qual (qb st) (oo st) (aq st) .none kV doc pm an cdv ct),osl⟩)
  (c:W3 K cdv qual=true) (k:Wd K (.ref f)=true):eM K x qual st f (Wa x qual (qb st) (oo st) (aq st) .none kV doc pm an cdv ct):=⟨⟨oc,od,kV,doc,pm,an,cdv,ct,osl,rfl,l,c⟩,k⟩
end
theorem mF {A:Around} {k:Nat} (hr:my k A):A.units+1 < cLine:=Nat.lt_of_le_of_lt (Nat.add_le_add_left (by decide:1<=64) _) hr.units
section
variable {X:Cx}
theorem pv (i:Nat) {x:Str} {pos:Pos} (hN:X.N[i]?=some x:=by rfl) (hv:Sa X.env.scope x:=by first | exact Or.inl rfl | exact Or.inr (Or.inl rfl) | exact Or.inr (Or.inr rfl)) (hd:(x == ("__debug__":Str))=false:=by decide)
  (hcd:(x == ("__classdict__":Str))=false:=by decide):PE X (.Name x pos) (P8 i):=Oz hN hv hd hcd
theorem vY:m6 X (.builtin "len") (λxs H Q=>∃ a kvs,xs=[V.ref a]/\H a=some (.dK kvs)/\Q (.int kvs.length) H):=by
 intro pins s σ H xs us Q I r h
 obtain ⟨a,kvs,rfl,ha,q⟩:=h
 obtain ⟨u,rfl,ru⟩:=vals1 r
 cases ru
 exact Tn I (.inl ha) λt s' I'=>⟨.int kvs.length,H,I',⟨t,rfl⟩,q⟩
end
theorem bp {A B:Prop} (h:B):if false=true then A else B:=by
 rw [if_neg Vo]
 exact h
theorem bf {A B:Prop} (h:A):if true=true then A else B:=by
 rw [if_pos rfl]
 exact h
def ax (H H':Hp):Prop:=∀ b o,H b=some o->H' b=some o
theorem ax.refl (H:Hp):ax H H:=λ_ _ h=>h
theorem ax.trans {H H1 H2:Hp} (a:ax H H1) (b:ax H1 H2):ax H H2:=λc o h=>b c o (a c o h)
theorem ax.free {H H':Hp} (e:ax H H') {l:Addr} (h:H' l=Option.none):H l=Option.none:=by
 cases q:H l with
 | none=>rfl
 | some o =>
  rw [e l o q] at h
  cases h
theorem ax.seq {K:UR} {H H':Hp} {a:Addr} {xs:List V} (e:ax H H') (h:bc K H a xs):bc K H' a xs:=by
 rcases h with (h | ⟨o,h⟩) | h
 ·exact .inl (.inl (e _ _ h))
 ·exact .inl (.inr ⟨o,e _ _ h⟩)
 ·exact .inr h
section
variable {κ:Type} [DecidableEq κ]
theorem Oi {kvs:List (κ × V)} {k:κ} (h:k7 kvs k=none):¬ k∈kvs.map (·.1):=by
 intro m
 obtain ⟨p,hp,e⟩:=Vb.mp m
 have q:(kvs.any λkv=>decide (kv.1=k))=true:=WQ.mpr ⟨p,hp,decide_eq_true e⟩
 rw [yB,h] at q
 exact absurd q (by simp)
theorem LQ {kvs:List (κ × V)} {k:κ} {v:V} (h:k7 kvs k=some v):k∈kvs.map (·.1):=by
 have q:(kvs.any λkv=>decide (kv.1=k))=true:=by
  rw [yB,h]
  all_goals rfl
 obtain ⟨p,hp,e⟩:=WQ.mp q
 exact Vb.mpr ⟨p,hp,of_decide_eq_true e⟩
theorem HD:∀ {l:List κ} {k:κ},l.Nodup->¬ k∈l->(l++[k]).Nodup
 | [],k,_,_=>by simp
 | a::r,k,h,hk=>by
  obtain ⟨h1,h2⟩:=V9.mp h
  show (a::(r++[k])).Nodup
  refine V9.mpr ⟨λm=>?_,HD h2 λm=>hk (U4.mpr (Or.inr m))⟩
  rcases Wi.mp m with q | q
  ·exact h1 q
  ·exact hk (U4.mpr (Or.inl (UX.mp q).symm))
theorem Ms {p:κ × V} {r:List (κ × V)} {k:κ} (e:¬ p.1=k):uh (p::r) k=p::uh r k:=by
 unfold uh
 rw [Ve,if_pos (by simp [e])]
theorem IP:∀ {kvs:List (κ × V)} {k:κ},¬ k∈kvs.map (·.1)->uh kvs k=kvs
 | [],_,_=>rfl
 | p::r,k,h=>by
  have h':¬ k∈r.map (·.1):=λm=>by
   obtain ⟨q,hq,e⟩:=Vb.mp m
   exact h (Vb.mpr ⟨q,U4.mpr (Or.inr hq),e⟩)
  rw [Ms λe=>h (Vb.mpr ⟨p,U4.mpr (Or.inl rfl),e⟩),IP h']
end
theorem at_of {xs:List V} {z:Int} {j:Nat} {v:V} (e:z=(j:Int)) (h:xs[j]?=some v):J9 xs z=some v:=by
 rw [e]
 exact Px h
theorem ax.made {H H1:Hp} {x dx C:Addr} (nx:H x=Option.none) (nd:H dx=Option.none) (k:∀ b o,(upd (upd H dx (.own x)) x (.ins C dx [])) b=some o->b≠x->H1 b=some o):ax H H1:=λb o e =>
 k b o (by rw [ak (aC e nx),ak (aC e nd)];exact e) (aC e nx)
end L2
section
namespace L2
open PySem PySem.Spec PyProof.Rows
open PySem.W (WData Codec OpenSpec Well WellAll ReadsW ReadsAllW)
mutual
inductive Dw (K:UR) (H:Hp):V->WData->Prop
 | dF:Dw K H .dF .none
 | bl (b:Bool):Dw K H (.bl b) (.bool b)
 | int (i:Int):Dw K H (.int i) (.int i)
 | str (x:Str):Dw K H (.str x) (.str x)
 | IH (b:Array UInt8):Dw K H (.IH b) (.bytes b.toList)
 | lst {a:Addr} {xs:List V} {ds:List WData}:bc K H a xs->xg K H xs ds->Dw K H (.ref a) (.list ds)
 | tup {a:Addr} {xs:List V} {ds:List WData}:gg K H a xs->xg K H xs ds->Dw K H (.ref a) (.tuple ds)
inductive xg (K:UR) (H:Hp):List V->List WData->Prop
 | nil:xg K H [] []
 | cons {v:V} {vs:List V} {d:WData} {ds:List WData}:Dw K H v d->xg K H vs ds->xg K H (v::vs) (d::ds)
end
theorem LI {K:UR} {H:Hp}:∀ ns:List Int,xg K H (ns.map V.int) (ns.map WData.int)
 | []=>.nil
 | n::r=>.cons (.int n) (LI r)
theorem LZ {K:UR} {H:Hp}:∀ (ns:List Int) (xs:List V),xg K H xs (ns.map WData.int)->xs=ns.map V.int
 | [],xs,h=>by
  cases h
  rfl
 | n::r,xs,h=>by
  cases h with
  | cons h1 h2 =>
   cases h1
   rw [LZ r _ h2]<;>rfl
section
variable {P:Program} {w:World} {K:UR} {H:Hp} {h:Heap} {R:PySem.W.WRecords} {cl:Str->Option Addr}
theorem RU {a:Addr} {xs:List V} (dv:ym P w H h) (KX:K.In h) (q:bc K H a xs):∃ (its:List Value) (o:Obj) (n:Nat),Vals xs its/\h.get? a=some o/\o.cls=.type "list"/\o.data=.seq its.toArray n:=by
 rcases q with q | ⟨o,its,n,e,hc,_,hd,_,hv⟩
 ·obtain ⟨_,its,n,hv,e⟩:=(show i4 P w H h a (.lst xs) from q.ok dv)
  exact ⟨its,_,n,hv,e,rfl,rfl⟩
 ·exact ⟨its.toList,o,n,hv,KX _ _ e,hc,by simp [hd]⟩
theorem RK {a:Addr} {xs:List V} (dv:ym P w H h) (KX:K.In h) (q:gg K H a xs):∃ (its:List Value) (o:Obj) (n:Nat),Vals xs its/\h.get? a=some o/\o.cls=.type "tuple"/\o.data=.seq its.toArray n:=by
 rcases q with q | ⟨o,its,n,e,hc,hd,_,hv⟩
 ·obtain ⟨_,its,hv,o,e,hc,n,hd⟩:=(show i4 P w H h a (.tup xs) from q.ok dv)
  exact ⟨its,o,n,hv,e,hc,hd⟩
 ·exact ⟨its.toList,o,n,hv,KX _ _ e,hc,by simp [hd]⟩
mutual
theorem Dw.reads (dv:ym P w H h) (KX:K.In h):∀ (d:WData) (v:V) (u:Value),Dw K H v d->RelV v u->∃ as,ReadsW R cl h u d as
 | .none,_,_,x,r=>by
  cases x
  cases r
  exact ⟨_,ReadsW.none⟩
 | .bool b,_,_,x,r=>by
  cases x
  cases r
  exact ⟨_,ReadsW.bool b⟩
 | .int i,_,_,x,r=>by
  cases x
  obtain ⟨t,rfl⟩:=r
  exact ⟨_,ReadsW.int i t⟩
 | .str s,_,_,x,r=>by
  cases x
  obtain ⟨t,rfl⟩:=r
  exact ⟨_,ReadsW.str s t⟩
 | .bytes b,_,_,x,r=>by
  cases x
  obtain ⟨t,rfl⟩:=r
  exact ⟨_,ReadsW.bytes _ t⟩
 | .list ds,_,_,x,r=>by
  cases x with
  | lst hs ha =>
   cases r
   obtain ⟨its,o,n,rv,ho,hc,hd⟩:=RU dv KX hs
   obtain ⟨as,hr⟩:=Dw.readsAll dv KX ds _ its ha rv
   exact ⟨_,ReadsW.list ho hc hd hr⟩
 | .tuple ds,_,_,x,r=>by
  cases x with
  | tup hs ha =>
   cases r
   obtain ⟨its,o,n,rv,ho,hc,hd⟩:=RK dv KX hs
   obtain ⟨as,hr⟩:=Dw.readsAll dv KX ds _ its ha rv
   exact ⟨_,ReadsW.tuple ho hc hd hr⟩
 | .float _,_,_,x,_=>by cases x
 | .dict _,_,_,x,_=>by cases x
 | .bytearray _,_,_,x,_=>by cases x
 | .set _,_,_,x,_=>by cases x
 | .frozenset _,_,_,x,_=>by cases x
 | .obj _ _,_,_,x,_=>by cases x
theorem Dw.readsAll (dv:ym P w H h) (KX:K.In h):∀ (ds:List WData) (vs:List V) (us:List Value),xg K H vs ds->Vals vs us->∃ as,ReadsAllW R cl h us ds as
 | [],_,_,x,r=>by
  cases x
  cases r
  exact ⟨_,ReadsAllW.nil⟩
 | d::ds,_,_,x,r=>by
  cases x with
  | cons h1 h2 =>
   cases r with
   | cons r1 r2 =>
    obtain ⟨as,q1⟩:=Dw.reads dv KX d _ _ h1 r1
    obtain ⟨bs,q2⟩:=Dw.readsAll dv KX ds _ _ h2 r2
    exact ⟨_,ReadsAllW.cons q1 q2⟩
end
end
mutual
def LS:WData->Bool
 | .none=>true
 | .bool _=>true
 | .int _=>true
 | .str _=>true
 | .bytes _=>true
 | .list xs=>DL xs
 | .tuple xs=>DL xs
 | _=>false
def DL:List WData->Bool
 | []=>true
 | x::r=>LS x&&DL r
end
theorem J5 {α:Type} {f:α->WData} (h:∀ a,LS (f a)=true):∀ l:List α,DL (l.map f)=true
 | []=>rfl
 | x::r=>by
  show (LS (f x)&&DL (r.map f))=true
  rw [h x,J5 h r]<;>rfl
theorem xR:∀ (c:Codec) (a:c.denote),LS (c.enc a)=true
 | .unit,_=>rfl
 | .bool,_=>rfl
 | .int _ _,_=>rfl
 | .nat _ _,_=>rfl
 | .u8,_=>rfl
 | .bytes _ _,_=>rfl
 | .text _ _ _ _,_=>rfl
 | .list _ _ c,a=>J5 (λx=>xR c x) a
 | .pair c d,a=>by
  show (LS (c.enc a.1)&&(LS (d.enc a.2)&&true))=true
  rw [xR c a.1,xR d a.2]<;>rfl
 | .triple c d e,a=>by
  show (LS (c.enc a.1)&&(LS (d.enc a.2.1)&&(LS (e.enc a.2.2)&&true)))=true
  rw [xR c a.1,xR d a.2.1,xR e a.2.2]<;>rfl
 | .option c,none=>rfl
 | .option c,some x=>xR c x
theorem GY:∀ (cs:List Codec) (a:Codec.denoteAll cs),DL (Codec.encAll cs a)=true
 | [],_=>rfl
 | c::cs,a=>by
  show (LS (c.enc a.1)&&DL (Codec.encAll cs a.2))=true
  rw [xR c a.1,GY cs a.2]<;>rfl
theorem AB:∀ {xs:List WData} {d:WData},d∈xs->d.weight<=WData.weightAll xs
 | [],d,h=>absurd h (by simp)
 | x::r,d,h=>by
  show d.weight<=x.weight+1+WData.weightAll r
  rcases U4.mp h with e | m
  ·rw [e]
   lia
  ·have z:=AB m
   lia
def toV:Value->V
 | .none=>.dF
 | .bool b=>.bl b
 | .int i _=>.int i
 | .str x _=>.str x
 | .bytes b _=>.IH b
 | .ref a=>.ref a
 | _=>.dF
def M6 (A:List Addr):Value->Prop
 | .none=>True
 | .bool _=>True
 | .int _ _=>True
 | .str _ _=>True
 | .bytes _ _=>True
 | .ref a=>a∈A
 | _=>False
theorem M6.mono {A B:List Addr} (h:∀ a∈A,a∈B):∀ {u:Value},M6 A u->M6 B u:=λ{u} x=>by
 cases u with
 | ref a=>exact h a x
 | none=>trivial
 | bool b=>trivial
 | int i t=>trivial
 | str s t=>trivial
 | bytes b t=>trivial
 | _=>exact False.elim x
theorem Of {A:List Addr} {u:Value} (x:M6 A u):RelV (toV u) u:=by
 cases u with
 | ref a=>rfl
 | none=>rfl
 | bool b=>rfl
 | int i t=>exact ⟨t,rfl⟩
 | str s t=>exact ⟨t,rfl⟩
 | bytes b t=>exact ⟨t,rfl⟩
 | _=>exact False.elim x
theorem vK {A:List Addr}:∀ {vs:List Value},(∀ u∈vs,M6 A u)->Vals (vs.map toV) vs
 | [],_=>.nil
 | u::r,h=>.cons (Of (h u (Vi ..))) (vK λx hx=>h x (Vl _ hx))
def xk (h:Heap) (A:List Addr) (a:Addr):Prop:=∃ vs:List Value,vs.length<=sizeLine/\(∀ u∈vs,M6 A u) /\
 (h.get? a=some { cls:=.type "list",data:=.seq vs.toArray }∨h.get? a=some { cls:=.type "tuple",data:=.seq vs.toArray })
theorem xk.mono {h:Heap} {A B:List Addr} {a:Addr} (k:∀ a∈A,a∈B) (x:xk h A a):xk h B a:=by
 obtain ⟨vs,h1,h2,h3⟩:=x
 exact ⟨vs,h1,λu hu=>(h2 u hu).mono k,h3⟩
theorem tW {P:Params} {h:Heap}:∀ {vs:List Value} {ds:List WData},WellAll P h vs ds->vs.length=ds.length
 | _,_,.nil=>rfl
 | _,_,.cons _ b=>by
  show _+1=_+1
  rw [tW b]
theorem GK {P:Params} {h:Heap} {v:Value} {ds:List WData} (x:Well P h v (.list ds)):∃ (a:Addr) (vs:List Value),v=.ref a/\h.get? a=some { cls:=.type "list",data:=.seq vs.toArray }/\WellAll P h vs ds:=by
 cases x with
 | list ho hall=>exact ⟨_,_,rfl,ho,hall⟩
theorem Fg {P:Params} {h:Heap} {v:Value} {ds:List WData} (x:Well P h v (.tuple ds)):∃ (a:Addr) (vs:List Value),v=.ref a/\h.get? a=some { cls:=.type "tuple",data:=.seq vs.toArray }/\WellAll P h vs ds:=by
 cases x with
 | tuple ho hall=>exact ⟨_,_,rfl,ho,hall⟩
theorem Gu {P:Params} {h:Heap} {us:List Value} {d:WData} {ds:List WData} (x:WellAll P h us (d::ds)):∃ (v:Value) (vs:List Value),us=v::vs/\Well P h v d/\WellAll P h vs ds:=by
 cases x with
 | cons a b=>exact ⟨_,_,rfl,a,b⟩
theorem LN {n:Nat} (h:n<=1048576):n<=sizeLine:=U8 h (by decide)
section
variable {P:Params} {h:Heap}
mutual
theorem NV:∀ (d:WData) (v:Value),Well P h v d->LS d=true->d.weight<=1048576->∃ A:List Addr,M6 A v/\∀ a∈A,xk h A a
 | .none,_,x,_,_=>by
  cases x
  exact ⟨[],trivial,λa m=>absurd m (by simp)⟩
 | .bool b,_,x,_,_=>by
  cases x
  exact ⟨[],trivial,λa m=>absurd m (by simp)⟩
 | .int i,_,x,_,_=>by
  cases x
  exact ⟨[],trivial,λa m=>absurd m (by simp)⟩
 | .str s,_,x,_,_=>by
  cases x
  exact ⟨[],trivial,λa m=>absurd m (by simp)⟩
 | .bytes b,_,x,_,_=>by
  cases x
  exact ⟨[],trivial,λa m=>absurd m (by simp)⟩
 | .list ds,_,x,p,z=>by
  obtain ⟨a,vs,rfl,ho,hall⟩:=GK x
  have z2:WData.weightAll ds<=1048576:=z
  obtain ⟨A,h1,h2⟩:=Bq ds _ hall p λd hd=>U8 (AB hd) z2
  have k:∀ b∈A,b∈a::A:=λb hb=>Vl _ hb
  refine ⟨a::A,Vi ..,λb hb=>?_⟩
  rcases U4.mp hb with e | m
  ·rw [e]
   exact ⟨vs,LN (by rw [tW hall];exact U8 (PySem.W.length_le_weightAllW ds) z2),λu hu=>(h1 u hu).mono k,.inl ho⟩
  ·exact (h2 b m).mono k
 | .tuple ds,_,x,p,z=>by
  obtain ⟨a,vs,rfl,ho,hall⟩:=Fg x
  have z2:WData.weightAll ds<=1048576:=z
  obtain ⟨A,h1,h2⟩:=Bq ds _ hall p λd hd=>U8 (AB hd) z2
  have k:∀ b∈A,b∈a::A:=λb hb=>Vl _ hb
  refine ⟨a::A,Vi ..,λb hb=>?_⟩
  rcases U4.mp hb with e | m
  ·rw [e]
   exact ⟨vs,LN (by rw [tW hall];exact U8 (PySem.W.length_le_weightAllW ds) z2),λu hu=>(h1 u hu).mono k,.inr ho⟩
  ·exact (h2 b m).mono k
 | .float _,_,_,p,_=>VZ (show false=true from p)
 | .dict _,_,_,p,_=>VZ (show false=true from p)
 | .bytearray _,_,_,p,_=>VZ (show false=true from p)
 | .set _,_,_,p,_=>VZ (show false=true from p)
 | .frozenset _,_,_,p,_=>VZ (show false=true from p)
 | .obj _ _,_,_,p,_=>VZ (show false=true from p)
theorem Bq:∀ (ds:List WData) (vs:List Value),WellAll P h vs ds->DL ds=true->(∀ d∈ds,d.weight<=1048576)->∃ A:List Addr,(∀ u∈vs,M6 A u)/\∀ a∈A,xk h A a
 | [],_,x,_,_=>by
  cases x
  exact ⟨[],λu m=>absurd m (by simp),λa m=>absurd m (by simp)⟩
 | d::ds,_,x,p,z=>by
  obtain ⟨v,vs,rfl,x1,x2⟩:=Gu x
  have q:LS d=true/\DL ds=true:=Bool.and_eq_true_iff.mp p
  obtain ⟨A,a1,a2⟩:=NV d v x1 q.1 (z d (Vi ..))
  obtain ⟨B,b1,b2⟩:=Bq ds vs x2 q.2 λe he=>z e (Vl _ he)
  have kA:∀ b∈A,b∈A++B:=λb hb=>Wi.mpr (.inl hb)
  have kB:∀ b∈B,b∈A++B:=λb hb=>Wi.mpr (.inr hb)
  refine ⟨A++B,λu hu=>?_,λb hb=>?_⟩
  ·rcases U4.mp hu with e | m
   ·rw [e]
    exact a1.mono kA
   ·exact (b1 u m).mono kB
  ·rcases Wi.mp hb with m | m
   ·exact (a2 b m).mono kA
   ·exact (b2 b m).mono kB
end
end
noncomputable def PL (o:Obj):Option HO:=match o.data with
 | .seq vs _=>if (o.cls == Value.type "list")=true then some (.frz o (.lst (vs.toList.map toV))) else some (.frz o (.tup (vs.toList.map toV)))
 | _=>none
def wA (K:UR) (h:Heap) (A:List Addr):Hp:=λb=>if b∈A then (if (K.lookup b).isNone=true then (h.get? b).bind PL else none) else none
def J1 (H:Hp):Prop:=∀ b,H b=none∨∃ o u,H b=some (.frz o u)
theorem J0 (vs:List Value):PL { cls:=.type "list",data:=.seq vs.toArray }=some (.frz { cls:=.type "list",data:=.seq vs.toArray } (.lst (vs.map toV))):=by
 show (if (Value.type "list" == Value.type "list")=true then some (HO.frz { cls:=.type "list",data:=.seq vs.toArray } (.lst (vs.toArray.toList.map toV))) else some (HO.frz { cls:=.type "list",data:=.seq vs.toArray } (.tup (vs.toArray.toList.map toV))))=_
 rw [if_pos (beq_self_eq_true _)]
theorem IK (vs:List Value):PL { cls:=.type "tuple",data:=.seq vs.toArray }=some (.frz { cls:=.type "tuple",data:=.seq vs.toArray } (.tup (vs.map toV))):=by
 show (if (Value.type "tuple" == Value.type "list")=true then some (HO.frz { cls:=.type "tuple",data:=.seq vs.toArray } (.lst (vs.toArray.toList.map toV))) else some (HO.frz { cls:=.type "tuple",data:=.seq vs.toArray } (.tup (vs.toArray.toList.map toV))))=_
 rw [if_neg (by decide)]
section
variable {P:Program} {w:World} {K:UR} {h:Heap} {A:List Addr}
theorem D9 {b:Addr} {o:Obj} (hb:b∈A) (hk:K.lookup b=none) (e:h.get? b=some o):wA K h A b=PL o:=by
 unfold wA
 rw [if_pos hb,hk,if_pos (show (none:Option Obj).isNone=true from rfl),e]<;>rfl
theorem PX {b:Addr} {u:HO} (q:wA K h A b=some u):b∈A/\K.lookup b=none:=by
 unfold wA at q
 by_cases hb:b∈A
 ·rw [if_pos hb] at q
  cases hk:K.lookup b with
  | none=>exact ⟨hb,rfl⟩
  | some o =>
   rw [hk,if_neg (by simp)] at q
   cases q
 ·rw [if_neg hb] at q
  cases q
theorem D7 (ar:∀ a∈A,xk h A a) {b:Addr} {u:HO} (q:wA K h A b=some u):K.lookup b=none/\∃ vs:List Value,vs.length<=sizeLine/\(∀ u∈vs,M6 A u) /\
    ((h.get? b=some { cls:=.type "list",data:=.seq vs.toArray }/\u=.frz { cls:=.type "list",data:=.seq vs.toArray } (.lst (vs.map toV))) ∨
     (h.get? b=some { cls:=.type "tuple",data:=.seq vs.toArray }/\u=.frz { cls:=.type "tuple",data:=.seq vs.toArray } (.tup (vs.map toV)))):=by
  obtain ⟨hb,hk⟩:=PX q
  obtain ⟨vs,h1,h2,h3⟩:=ar b hb
  refine ⟨hk,vs,h1,h2,?_⟩
  rcases h3 with e | e
  · rw [D9 hb hk e,J0] at q
    exact .inl ⟨e,(Option.some.inj q).symm⟩
  · rw [D9 hb hk e,IK] at q
    exact .inr ⟨e,(Option.some.inj q).symm⟩
theorem Mf (ar:∀ a∈A,xk h A a):J1 (wA K h A):=λb=>by
 cases q:wA K h A b with
 | none=>exact .inl rfl
 | some u =>
  obtain ⟨_,vs,_,_,⟨_,e⟩ | ⟨_,e⟩⟩:=D7 ar q
  ·exact .inr ⟨_,_,by rw [e]⟩
  ·exact .inr ⟨_,_,by rw [e]⟩
theorem Pz (ar:∀ a∈A,xk h A a):ym P w (wA K h A) h:=λb u q=>by
 obtain ⟨_,vs,h1,h2,⟨e,rfl⟩ | ⟨e,rfl⟩⟩:=D7 ar q
 ·exact ⟨e,by rw [UT];exact h1,vs,_,vK h2,e⟩
 ·exact ⟨e,by rw [UT];exact h1,vs,vK h2,_,e,rfl,_,rfl⟩
theorem DY {c c':Value} {vs us:List Value} (e:(some { cls:=c,data:=.seq vs.toArray }:Option Obj)=some { cls:=c',data:=.seq us.toArray }):c=c'/\vs=us:=by
 have e1:=Option.some.inj e
 have e2:c=c':=congrArg Obj.cls e1
 have e3:Data.seq vs.toArray=Data.seq us.toArray:=congrArg Obj.data e1
 injection e3 with e4
 refine ⟨e2,?_⟩
 have e5:=congrArg Array.toList e4
 simpa using e5
theorem Ut (KX:K.In h) (ar:∀ a∈A,xk h A a) {a:Addr} {vs:List Value} (ha:a∈A) (e:h.get? a=some { cls:=.type "list",data:=.seq vs.toArray }):(∀ u∈vs,M6 A u)/\bc K (wA K h A) a (vs.map toV):=by
 obtain ⟨us,h1,h2,h3⟩:=ar a ha
 have hu:us=vs:=by
  rcases h3 with q | q
  ·rw [e] at q
   exact (DY q).2.symm
  ·rw [e] at q
   exact absurd (Value.type.inj (DY q).1) (by decide)
 subst hu
 refine ⟨h2,?_⟩
 cases hk:K.lookup a with
 | none=>exact .inl (.inr ⟨_,by rw [D9 ha hk e,J0]⟩)
 | some o =>
  have e2:=KX a o hk
  rw [e] at e2
  obtain rfl:=Option.some.inj e2
  exact .inr ⟨_,us.toArray,_,hk,rfl,rfl,rfl,by rw [Vf];exact h1,by simpa using vK h2⟩
theorem T4 (KX:K.In h) (ar:∀ a∈A,xk h A a) {a:Addr} {vs:List Value} (ha:a∈A) (e:h.get? a=some { cls:=.type "tuple",data:=.seq vs.toArray }):(∀ u∈vs,M6 A u)/\gg K (wA K h A) a (vs.map toV):=by
 obtain ⟨us,h1,h2,h3⟩:=ar a ha
 have hu:us=vs:=by
  rcases h3 with q | q
  ·rw [e] at q
   exact absurd (Value.type.inj (DY q).1) (by decide)
  ·rw [e] at q
   exact (DY q).2.symm
 subst hu
 refine ⟨h2,?_⟩
 cases hk:K.lookup a with
 | none=>exact .inl (.inr ⟨_,by rw [D9 ha hk e,IK]⟩)
 | some o =>
  have e2:=KX a o hk
  rw [e] at e2
  obtain rfl:=Option.some.inj e2
  exact .inr ⟨_,us.toArray,_,hk,rfl,rfl,by rw [Vf];exact h1,by simpa using vK h2⟩
mutual
theorem Q0 {Pm:Params} (KX:K.In h) (ar:∀ a∈A,xk h A a):∀ (d:WData) (v:Value),Well Pm h v d->LS d=true->M6 A v->Dw K (wA K h A) (toV v) d
 | .none,_,x,_,_=>by
  cases x
  exact .dF
 | .bool b,_,x,_,_=>by
  cases x
  exact .bl b
 | .int i,_,x,_,_=>by
  cases x
  exact .int i
 | .str s,_,x,_,_=>by
  cases x
  exact .str s
 | .bytes b,_,x,_,_=>by
  cases x
  have z:=Dw.IH (K:=K) (H:=wA K h A) b.toArray
  exact z
 | .list ds,_,x,p,hu=>by
  obtain ⟨a,vs,rfl,ho,hall⟩:=GK x
  obtain ⟨h2,hs⟩:=Ut KX ar hu ho
  exact .lst hs (HP KX ar ds _ hall p h2)
 | .tuple ds,_,x,p,hu=>by
  obtain ⟨a,vs,rfl,ho,hall⟩:=Fg x
  obtain ⟨h2,hs⟩:=T4 KX ar hu ho
  exact .tup hs (HP KX ar ds _ hall p h2)
 | .float _,_,_,p,_=>VZ (show false=true from p)
 | .dict _,_,_,p,_=>VZ (show false=true from p)
 | .bytearray _,_,_,p,_=>VZ (show false=true from p)
 | .set _,_,_,p,_=>VZ (show false=true from p)
 | .frozenset _,_,_,p,_=>VZ (show false=true from p)
 | .obj _ _,_,_,p,_=>VZ (show false=true from p)
theorem HP {Pm:Params} (KX:K.In h) (ar:∀ a∈A,xk h A a):∀ (ds:List WData) (vs:List Value),WellAll Pm h vs ds->DL ds=true->(∀ u∈vs,M6 A u)->xg K (wA K h A) (vs.map toV) ds
 | [],_,x,_,_=>by
  cases x
  exact .nil
 | d::ds,_,x,p,hu=>by
  obtain ⟨v,vs,rfl,x1,x2⟩:=Gu x
  have q:LS d=true/\DL ds=true:=Bool.and_eq_true_iff.mp p
  exact .cons (Q0 KX ar d v x1 q.1 (hu _ (Vi ..))) (HP KX ar ds vs x2 q.2 λu m=>hu u (Vl _ m))
end
end
theorem MJ {P:Program} {w:World} {K:UR} {mg mb:Str->Option Value} {CX:Np} {k:Nat} {fa:Addr} {fd:FuncData} {ps:List Str} {sp:Sp} {s₁:Shared} {vals:List Value} {ds:List WData} {R:PySem.W.WRecords} {cl:Str->Option Addr} {d0:WData}
  (KX:K.In s₁.heap) (hns:s₁.heap.Ns mainGlobals mg) (hb:s₁.heap.Ns builtinsNs mb) (hbb:∀ x:Str,x≠"__name__"->mb x=bootBuiltins x) (hlim:s₁.heap.NoLimit) (hg:s₁.gens=#[])
  (hwl:WellAll w.params s₁.heap vals ds) (hpl:DL ds=true) (hwt:∀ d∈ds,d.weight<=1048576) (hr:my k callerA)
  (F:∀ base:Heap,K.In base->base.Ns mainGlobals mg->a7 P w K mg base CX k fa fd ps sp) (hbind:∀ (s:Shared) (us:List Value),us.length=ps.length->BindsTo s fd ⟨us,[]⟩ (ps.zip us)) (hlen:ds.length=ps.length)
  (hsp:∀ (H:Hp) (xs:List V),J1 H->xg K H xs ds->sp xs H (λv H'=>Dw K H' v d0) λ_ _ _=>False)
  (hCX:∀ H e s',CX [] H s₁ (λ_ _ _=>False) e s'->False) :
  codeAny (model P w) callerA (.call (.ref fa) ⟨vals,[]⟩) (λr s'=>∃ u as,r=.ok (.ret u)/\ReadsW R cl s'.heap u d0 as/\OldK s₁.heap s'.heap/\s'.os=s₁.os/\AllBare s'.gens) s₁:=by
 obtain ⟨A,ho,ar⟩:=Bq ds vals hwl hpl hwt
 have hO:J1 (wA K s₁.heap A):=Mf ar
 have dv:ym P w (wA K s₁.heap A) s₁.heap:=Pz ar
 have hS:=HP KX ar ds vals hwl hpl ho
 have hV:=vK ho
 have hK:∀ b u,wA K s₁.heap A b=some u->K.lookup b=none:=λb u q=>(D7 ar q).1
 have noA:∀ {b:Addr} {o:Obj} {es:Array DictEntry} {ep:Nat},s₁.heap.get? b=some o->o.data=.dict es ep->wA K s₁.heap A b=none:=λ{b o es ep} e d=>by
  cases q:wA K s₁.heap A b with
  | none=>rfl
  | some u =>
   obtain ⟨_,vs,_,_,⟨e2,_⟩ | ⟨e2,_⟩⟩:=D7 ar q
   ·rw [e2] at e
    cases e
    have d':Data.seq vs.toArray _=Data.dict es ep:=d
    cases d'
   ·rw [e2] at e
    cases e
    have d':Data.seq vs.toArray _=Data.dict es ep:=d
    cases d'
 generalize wA K s₁.heap A=H at hO dv hS hK noA
 have base_of:∀ {b:Addr} {o:Obj},s₁.heap.get? b=some o->H b=none->(HX s₁.heap H).get? b=some o:=λe n=>OL e n
 have nsK:∀ {b:Addr} {m:Str->Option Value},s₁.heap.Ns b m->(HX s₁.heap H).Ns b m:=λ{b m} ⟨o,es,ep,e,d,r⟩=>⟨o,es,ep,base_of e (noA e d),d,r⟩
 have nK:∀ b o,K.lookup b=some o->H b=none:=λb o e=>by
  cases q:H b with
  | none=>rfl
  | some u =>
   rw [hK b u q] at e
   cases e
 have hKb:K.In (HX s₁.heap H):=λb o e=>base_of (KX b o e) (nK b o e)
 have hM:Mod K mg (HX s₁.heap H):=⟨hKb,nsK hns,⟨mb,nsK hb,hbb⟩,let ⟨mc,h1,h2⟩:=hlim;⟨mc,nsK h1,h2⟩⟩
 have e0:Ks P w K mg (HX s₁.heap H) callerA [] s₁ H:=⟨rfl,hM,λb o e=>PU e,Nat.le_of_eq (M3 _ _),trivial,λb hb=>absurd (show b∈([]:List Addr) from hb) (by simp),dv,.of_eq hg⟩
 have hl:vals.length=ps.length:=by rw [tW hwl];exact hlen
 refine codeAny_mono ((F _ hKb (nsK hns)).run callerA [] s₁ H ⟨vals,[]⟩ vals (vals.map toV) _ _ hr e0 (hbind s₁ vals hl) hV (hsp H _ hO hS)) λr s' x=>?_
 cases r with
 | error e=>exact (hCX H e s' x).elim
 | ok fl =>
  cases fl with
  | next=>exact False.elim x
  | brk=>exact False.elim x
  | cont=>exact False.elim x
  | ret u =>
   obtain ⟨v,H',os,bare,un,hok',r',q⟩:=x
   have kept:∀ b o,s₁.heap.get? b=some o->s'.heap.get? b=some o:=λb o e=>by
    cases q2:H b with
    | none=>exact un.keep b o e q2 (by intro z;exact absurd (show b∈([]:List Addr) from z) (by simp)) (by simp)
    | some u2 =>
     rcases hO b with z | ⟨ob,u3,z⟩
     ·rw [q2] at z
      cases z
     ·have z2:=un.Cd b ob _ z
      obtain ⟨e1,_⟩:=dv b _ z
      obtain ⟨e2,_⟩:=hok' b _ z2
      rw [e] at e1
      cases e1
      exact e2
   have KX':K.In s'.heap:=λb o e=>kept b o (KX b o e)
   obtain ⟨as,qa⟩:=Dw.reads (R:=R) (cl:=cl) hok' KX' d0 v u q r'
   exact ⟨u,as,rfl,qa,OldK.of_keep kept,os,bare⟩
theorem E3 {ds:List WData} (h:WData.layableAll ds=true):∀ d∈ds,d.weight<=1048576:=λd hd =>
 (PySem.W.layableW_iff.mp (W6.mp h d hd)).2.2
theorem Fj:∀ (cs:List Codec) (a:Codec.denoteAll cs),(Codec.encAll cs a).length=cs.length
 | [],_=>rfl
 | c::cs,a=>by
  show (Codec.encAll cs a.2).length+1=cs.length+1
  rw [Fj cs a.2]
theorem MU {r:OpenSpec} {k:Nat} {q:Program} {loose:List Str} {XP:(Str->Option Value)->Heap->Prop} {YP:World->Heap->Prop} {d:DefRec} {K:Params->UR} {CX:World->Np} {ps:List Str} {sp:World->Sp}
  (hwell:r.wellSaid=true) (hdf:d.params.defaults=[]) (hlen:r.args.length=ps.length) (hr:my k callerA)
  (hY:∀ (w:World) (h:Heap),YP w h->(K w.params).In h)
  (F:∀ (w:World) (mg:Str->Option Value) (fa:Addr) (h:Heap),YP w h->(K w.params).In h->h.Ns mainGlobals mg->mg d.name=some (.ref fa) ->
   ∃ fd:FuncData,(∀ (s:Shared) (us:List Value),us.length=ps.length->BindsTo s fd ⟨us,[]⟩ (ps.zip us)) /\
    ∀ base:Heap,(K w.params).In base->base.Ns mainGlobals mg->a7 r.prog w (K w.params) mg base (CX w) k fa fd ps (sp w))
  (hsp:∀ (w:World) (H:Hp) (xs:List V) (a:Codec.denoteAll r.args),J1 H->Codec.withinAll r.args a=true->Codec.app r.args r.asked a=true->xg (K w.params) H xs (Codec.encAll r.args a) ->
   sp w xs H (λv H'=>Dw (K w.params) H' v (r.ret.enc (Codec.app r.args r.f a))) λ_ _ _=>False)
  (hCX:∀ (w:World) (H:Hp) (s:Shared) (e:Value) (s':Shared),CX w [] H s (λ_ _ _=>False) e s'->False) :
  PySem.W.WalkOS q loose XP YP r d [] (λf vs=>PySem.call f vs):=by
 intro w Gs s₁ mg mb G Y fa o pm cd doc dV kV ho hd hcd hD hmg hg args vals as hpre hlay qa hwl hlo
 obtain ⟨a,e1,e2⟩:=PySem.W.os_pre_some hpre
 obtain ⟨e3,hwi⟩:=Codec.encAll_of_decAll r.args args a e1
 subst e3
 have KX:=hY w _ Y
 obtain ⟨fd,hb,hF⟩:=F w mg fa _ Y KX G.T.g hmg
 refine PySem.W.enter_call (codeAny_mono (MJ (R:=[]) (cl:=classAt Gs.heap) (d0:=r.ret.enc (Codec.app r.args r.f a)) KX G.T.g G.T.b G.T.builtins G.T.nolimit hg hwl (GY _ _) (E3 hlay) hr hF hb (by rw [Fj];exact hlen)
  (λH xs hO hS=>hsp w H xs a hO hwi e2 hS) λH e s'=>hCX w H s₁ e s') λr' s' hq=>?_)
 obtain ⟨u,as',rfl,h1,h2,h3,h4⟩:=hq
 exact ⟨.inl ⟨u,_,as',rfl,λ_=>rfl,h1,(OpenSpec.post_iff hwell hwi _ _).mpr rfl,λz=>VZ (show false=true from z)⟩,h2,h3,h4⟩
theorem KH {r:OpenSpec} {k:Nat} {q:Program} {loose:List Str} {XP:(Str->Option Value)->Heap->Prop} {YP:World->Heap->Prop} {d:DefRec} {K:Params->UR} {CX:Np} {ps:List Str} {sp:UR->Sp}
  (hwell:r.wellSaid=true) (hdf:d.params.defaults=[]) (hlen:r.args.length=ps.length) (hr:my k callerA)
  (hY:∀ (w:World) (h:Heap),YP w h->(K w.params).In h)
  (F:∀ (w:World) (mg:Str->Option Value) (fa:Addr) (h:Heap),YP w h->(K w.params).In h->h.Ns mainGlobals mg->mg d.name=some (.ref fa) ->
   ∃ fd:FuncData,(∀ (s:Shared) (us:List Value),us.length=ps.length->BindsTo s fd ⟨us,[]⟩ (ps.zip us)) /\
    ∀ base:Heap,(K w.params).In base->base.Ns mainGlobals mg->a7 r.prog w (K w.params) mg base CX k fa fd ps (sp (K w.params)))
  (hsp:∀ (K:UR) (H:Hp) (xs:List V) (a:Codec.denoteAll r.args),J1 H->Codec.withinAll r.args a=true->Codec.app r.args r.asked a=true->xg K H xs (Codec.encAll r.args a) ->
   sp K xs H (λv H'=>Dw K H' v (r.ret.enc (Codec.app r.args r.f a))) λ_ _ _=>False)
  (hCX:∀ (H:Hp) (s:Shared) (e:Value) (s':Shared),CX [] H s (λ_ _ _=>False) e s'->False) :
  PySem.W.WalkOS q loose XP YP r d [] (λf vs=>PySem.call f vs) :=
 MU (K:=K) (CX:=λ_=>CX) (sp:=λw=>sp (K w.params)) hwell hdf hlen hr hY F (λw H xs a h1 h2 h3 h4=>hsp (K w.params) H xs a h1 h2 h3 h4) λ_ H s e s'=>hCX H s e s'
end L2
end
set_option genInjectivity false
set_option genSizeOf false
namespace HR
theorem Uy:0<=W8:=by decide
theorem nG:1<=W8:=by decide
theorem O8:2<=W8:=by decide
theorem Sb:3<=W8:=by decide
theorem T7:4<=W8:=by decide
theorem UM:5<=W8:=by decide
end HR
namespace HR
open PySem PySem.Spec PyProof.Rows L2
def top (i:Nat):Stmt:=PySem.Challenge.pw_halvedruns_s01_answers.main.body.getD i (.Pass ⟨0,0,0,0⟩)
abbrev ue:Stmt:=top 5
abbrev sY:Stmt:=inClass (top 6) 0
abbrev ox:Stmt:=inClass (top 6) 1
abbrev sx:Stmt:=inClass (top 7) 0
abbrev oS:Stmt:=inClass (top 7) 1
abbrev ed:Stmt:=inClass (top 7) 2
abbrev qU:Stmt:=inClass (top 7) 3
abbrev qH:Stmt:=inClass (top 7) 4
abbrev gS:Stmt:=inClass (top 7) 5
abbrev yn:Stmt:=inClass (top 9) 0
abbrev zd:Stmt:=inClass (top 9) 1
abbrev pP:Stmt:=inClass (top 9) 2
abbrev gO:Stmt:=inClass (top 9) 3
abbrev yX:Stmt:=inClass (top 9) 4
abbrev pW:Stmt:=inClass (top 11) 0
abbrev oV:Stmt:=inClass (top 11) 1
abbrev oZ:Stmt:=inClass (top 11) 2
abbrev fJ:Stmt:=inClass (top 11) 3
abbrev kC:Stmt:=inClass (top 11) 4
abbrev oJ:Stmt:=inClass (top 11) 5
abbrev l8:Stmt:=inClass (top 11) 6
abbrev jZ:Stmt:=inClass (top 11) 7
abbrev rk:Stmt:=inClass (top 11) 8
abbrev uU:Stmt:=inClass (top 11) 9
abbrev eI:Stmt:=inClass (top 11) 10
abbrev fh:Stmt:=inClass (top 11) 11
abbrev dB:Stmt:=inClass (top 11) 12
abbrev eF:Stmt:=inClass (top 11) 13
abbrev jo:Stmt:=inClass (top 11) 14
abbrev vk:Stmt:=inClass (top 11) 15
abbrev pG:Stmt:=inClass (top 11) 16
abbrev j3:Stmt:=inClass (top 11) 17
abbrev jn:Stmt:=inClass (top 11) 18
abbrev iX:Stmt:=inClass (top 11) 19
abbrev k6:Stmt:=inClass (top 11) 20
abbrev pD:Stmt:=inClass (top 11) 21
abbrev eE:Stmt:=inClass (top 11) 22
abbrev xS:Stmt:=inClass (top 14) 0
abbrev xP:Stmt:=inClass (top 15) 0
abbrev sI:Stmt:=inClass (top 15) 1
abbrev AL:Stmt:=inClass (top 15) 2
abbrev qK:Stmt:=inClass (top 15) 3
abbrev uE:Stmt:=inClass (top 15) 4
abbrev fX:Stmt:=inClass (top 15) 5
abbrev rV:Stmt:=top 29
abbrev yE:Stmt:=top 32
abbrev za:Stmt:=top 33
abbrev yH:Stmt:=top 34
abbrev sJ:Stmt:=top 35
abbrev vo:Stmt:=top 36
abbrev w9:Stmt:=top 37
abbrev mT:Stmt:=top 38
abbrev wk:Stmt:=top 39
abbrev zh:Stmt:=top 40
abbrev xW:Stmt:=top 41
abbrev uY:Stmt:=top 42
abbrev uR:Stmt:=top 43
abbrev xF:Stmt:=top 44
abbrev pU:Stmt:=top 46
abbrev p5:Stmt:=top 53
abbrev rH:Stmt:=top 54
abbrev lW:Stmt:=top 55
abbrev uC:Stmt:=top 56
abbrev y8:Stmt:=top 57
abbrev rh:Stmt:=top 58
abbrev Ib:Stmt:=top 59
abbrev z6:Stmt:=inClass (top 60) 0
abbrev sy:Stmt:=inClass (top 60) 1
abbrev mQ:Stmt:=inClass (top 60) 2
abbrev tq:Stmt:=inClass (top 60) 3
abbrev wI:Stmt:=inClass (top 62) 0
abbrev wz:Stmt:=top 63
abbrev zV:Stmt:=top 64
abbrev KC:Stmt:=top 65
abbrev z3:Stmt:=top 66
abbrev y1:Stmt:=top 67
abbrev vb:Stmt:=top 68
abbrev rY:Stmt:=top 69
abbrev yV:Stmt:=top 70
abbrev mR:Stmt:=top 71
abbrev Ac:Stmt:=top 72
abbrev oC:Stmt:=top 73
abbrev sZ:Stmt:=top 74
abbrev yA:Stmt:=top 75
abbrev uF:Stmt:=top 76
abbrev tE:Stmt:=top 77
abbrev yC:Stmt:=top 78
abbrev rO:Stmt:=top 79
abbrev Ec:Stmt:=top 82
abbrev u5:Stmt:=inClass (top 85) 0
abbrev pC:Stmt:=inClass (top 85) 1
abbrev ly:Stmt:=inClass (top 85) 2
abbrev nZ:Stmt:=inClass (top 85) 3
abbrev p4:Stmt:=top 86
abbrev CA:Stmt:=top 87
structure bF where
 eK:Addr
 aR:Addr
 gU:Addr
 aG:Addr
 lp:Addr
 cQ:Addr
 pb:Addr
 iz:Addr
 gR:Addr
 qv:Addr
 qB:FuncData
 kz:Addr
 ku:FuncData
 gI:Addr
 gw:FuncData
 kh:Addr
 lq:FuncData
 gF:Addr
 gA:FuncData
 bI:Addr
 bH:FuncData
 jB:Addr
 jI:FuncData
 jC:Addr
 jz:FuncData
 cp:Addr
 cg:FuncData
 qA:Addr
 qy:FuncData
 qe:Addr
 qo:FuncData
 iW:Addr
 iT:FuncData
 ee:Addr
 dU:FuncData
 qr:Addr
 qi:FuncData
 mD:Addr
 mr:FuncData
 gP:Addr
 gq:FuncData
 gH:Addr
 gG:FuncData
 bU:Addr
 bT:FuncData
 dX:Addr
 ef:FuncData
 gN:Addr
 gJ:FuncData
 eV:Addr
 eR:FuncData
 gM:Addr
 gn:FuncData
 jJ:Addr
 jG:FuncData
 mH:Addr
 mm:FuncData
 cJ:Addr
 cI:FuncData
 cW:Addr
 dk:FuncData
 b4:Addr
 bY:FuncData
 cE:Addr
 cK:FuncData
 cT:Addr
 cR:FuncData
 mz:Addr
 mf:FuncData
 iV:Addr
 iZ:FuncData
 gz:Addr
 gk:FuncData
 cS:Addr
 cZ:FuncData
 cG:Addr
 cF:FuncData
 eg:Addr
 dW:FuncData
 iI:Addr
 iR:FuncData
 cM:Addr
 cH:FuncData
 qf:Addr
 qG:FuncData
 qt:Addr
 qz:FuncData
 la:Addr
 lb:FuncData
 sk:Addr
 sO:FuncData
 jA:Addr
 jF:FuncData
 mj:Addr
 mq:FuncData
 dC:Addr
 dD:FuncData
 kx:Addr
 kE:FuncData
 ql:Addr
 qE:FuncData
 lj:Addr
 ni:FuncData
 kb:Addr
 nk:FuncData
 fD:Addr
 iN:FuncData
 gV:Addr
 jK:FuncData
 ji:Addr
 lF:FuncData
 fI:Addr
 fP:FuncData
 jh:Addr
 lU:FuncData
 kP:Addr
 nq:FuncData
 kL:Addr
 m9:FuncData
 gW:Addr
 jN:FuncData
 hZ:Addr
 jP:FuncData
 kO:Addr
 nA:FuncData
 iU:Addr
 i7:FuncData
 mC:Addr
 md:FuncData
 oz:Addr
 nX:FuncData
 eZ:Addr
 eS:FuncData
 qw:Addr
 qm:FuncData
 qF:Addr
 qx:FuncData
 jE:Addr
 jH:FuncData
 Bv:Addr
 A8:FuncData
 sA:Addr
 sR:FuncData
 kg:Addr
 kq:FuncData
 fH:Addr
 fT:FuncData
 k9:Addr
 kT:FuncData
 nN:Addr
 oN:FuncData
 jd:Addr
 lK:FuncData
 mO:Addr
 pM:FuncData
 Et:Addr
 Fs:FuncData
 mP:Addr
 pI:FuncData
 kX:Addr
 m4:FuncData
 gY:Addr
 jQ:FuncData
 km:Addr
 kH:FuncData
 kn:Addr
 mZ:FuncData
 fS:Addr
 fV:FuncData
 mN:Addr
 pO:FuncData
 gy:Addr
 gr:FuncData
 fA:Addr
 iY:FuncData
 kU:Addr
 nB:FuncData
 gT:Addr
 jO:FuncData
 kI:Addr
 lB:FuncData
 lg:Addr
 nv:FuncData
 je:Addr
 lT:FuncData
 yc:Addr
 x8:FuncData
 mv:Addr
 mx:FuncData
 i0:Addr
 iS:FuncData
 dZ:Addr
 d7:FuncData
 gL:Addr
 gu:FuncData
 me:Addr
 mi:FuncData
 vU:Addr
 pT:FuncData
 dz:Addr
 rP:Addr
 bL:Addr
 qp:Addr
structure Txt (K:UR) (mg:Str->Option Value) (a:bF):Prop where
 eG:zr K a.eK
 lN:mg "Opening"=some (.ref a.eK)
 CJ:Mk K a.eK a.kz
 qS:aU K a.eK "hosts"
 kZ:aU K a.eK "turn_asked"
 qO:aU K a.eK "asked"
 tL:aU K a.eK "lost"
 ay:zr K a.aR
 b9:mg "Dispute"=some (.ref a.aR)
 Cw:Mk K a.aR a.kh
 aX:aU K a.aR "hosts"
 dJ:aU K a.aR "low_turn"
 lL:aU K a.aR "agreed"
 du:aU K a.aR "high_turn"
 bz:aU K a.aR "turn_asked"
 jx:aU K a.aR "asked"
 l4:aU K a.aR "questions"
 tG:aU K a.aR "lost"
 dy:aU K a.aR "ended"
 bK:zr K a.gU
 qL:mg "Host"=some (.ref a.gU)
 KP:Mk K a.gU a.qA
 dQ:aU K a.gU "stake"
 mY:aU K a.gU "out"
 eN:aU K a.gU "tellings"
 lP:aU K a.gU "heard"
 au:zr K a.aG
 bb:mg "Affair"=some (.ref a.aG)
 EU:Mk K a.aG a.mD
 gm:aU K a.aG "run"
 fC:aU K a.aG "turns"
 et:aU K a.aG "losses_allowed"
 bw:aU K a.aG "hosts"
 lD:aU K a.aG "opening"
 bO:aU K a.aG "disputes"
 nS:aU K a.aG "purse"
 cz:aU K a.aG "end_found"
 dA:zr K a.lp
 vz:mg "Word"=some (.ref a.lp)
 EH:Mk K a.lp a.qf
 iM:aU K a.lp "dispute"
 k8:aU K a.lp "host"
 kf:aU K a.lp "turn"
 lQ:aU K a.lp "state"
 bJ:zr K a.cQ
 oU:mg "Line"=some (.ref a.cQ)
 Ip:Mk K a.cQ a.qt
 bj:aU K a.cQ "words"
 uj:aU K a.cQ "made"
 yS:aU K a.cQ "came"
 xG:aU K a.cQ "lost"
 m7:zr K a.pb
 Bt:mg "Run"=some (.ref a.pb)
 NL:Mk K a.pb a.sA
 rG:aU K a.pb "orders"
 lJ:aU K a.pb "states"
 aP:zr K a.iz
 zt:mg "Bench"=some (.ref a.iz)
 HU:Mk K a.iz a.nN
 aW:aU K a.iz "line"
 aF:aU K a.iz "affair"
 dG:zr K a.gR
 nR:mg "Reader"=some (.ref a.gR)
 E1:Mk K a.gR a.mv
 nU:aU K a.gR "calls"
 fm:aU K a.gR "place"
 m5:eM K "no_asking" "no_asking" ue a.qv a.qB
 qu:Binds K a.qB ["hosts"] []
 qC:mg "no_asking"=some (.ref a.qv)
 sP:eM K "__init__" "Opening.__init__" sY a.kz a.ku
 sW:Binds K a.ku ["self","turns","n"] []
 nQ:eM K "is_open" "Opening.is_open" ox a.gI a.gw
 ou:Binds K a.gw ["self"] []
 oY:Meth K a.eK "is_open" a.gI
 tj:eM K "__init__" "Dispute.__init__" sx a.kh a.lq
 sj:Binds K a.lq ["self","first","second","beginning","turns"] []
 nM:eM K "is_open" "Dispute.is_open" oS a.gF a.gA
 ej:Binds K a.gA ["self"] []
 eL:Meth K a.aR "is_open" a.gF
 eh:eM K "is_down_to_one_turn" "Dispute.is_down_to_one_turn" ed a.bI a.bH
 b7:Binds K a.bH ["self"] []
 b8:Meth K a.aR "is_down_to_one_turn" a.bI
 rb:eM K "other" "Dispute.other" qU a.jB a.jI
 mK:Binds K a.jI ["self","host"] []
 mI:Meth K a.aR "other" a.jB
 qV:eM K "halve" "Dispute.halve" qH a.jC a.jz
 qZ:Binds K a.jz ["self","first_said","second_said"] []
 rf:Meth K a.aR "halve" a.jC
 ig:eM K "ask_for_middle" "Dispute.ask_for_middle" gS a.cp a.cg
 ip:Binds K a.cg ["self"] []
 ic:Meth K a.aR "ask_for_middle" a.cp
 yp:eM K "__init__" "Host.__init__" yn a.qA a.qy
 x6:Binds K a.qy ["self","stake"] []
 x5:eM K "tell" "Host.tell" zd a.qe a.qo
 yT:Binds K a.qo ["self","turn","state"] []
 xT:Meth K a.gU "tell" a.qe
 pq:eM K "take_back" "Host.take_back" pP a.iW a.iT
 pH:Binds K a.iT ["self","turn"] []
 pj:Meth K a.gU "take_back" a.iW
 kW:eM K "how_much_told" "Host.how_much_told" gO a.ee a.dU
 d9:Binds K a.dU ["self"] []
 dY:Meth K a.gU "how_much_told" a.ee
 yf:eM K "says" "Host.says" yX a.qr a.qi
 uo:Binds K a.qi ["self","turn","run"] []
 uD:Meth K a.gU "says" a.qr
 u7:eM K "__init__" "Affair.__init__" pW a.mD a.mr
 uH:Binds K a.mr ["self","run","turns","k","n","stake"] []
 nL:eM K "has_host" "Affair.has_host" oV a.gP a.gq
 cV:Binds K a.gq ["self","number"] []
 di:Meth K a.aG "has_host" a.gP
 nY:eM K "has_turn" "Affair.has_turn" oZ a.gH a.gG
 j1:Binds K a.gG ["self","turn"] []
 j0:Meth K a.aG "has_turn" a.gH
 fL:eM K "has_host_and_turn" "Affair.has_host_and_turn" fJ a.bU a.bT
 bx:Binds K a.bT ["self","number","turn"] []
 bq:Meth K a.aG "has_host_and_turn" a.bU
 kJ:eM K "has_dispute" "Affair.has_dispute" kC a.dX a.ef
 gQ:Binds K a.ef ["self","number"] []
 gx:Meth K a.aG "has_dispute" a.dX
 oG:eM K "has_pair" "Affair.has_pair" oJ a.gN a.gJ
 j9:Binds K a.gJ ["self","number"] []
 jX:Meth K a.aG "has_pair" a.gN
 l6:eM K "dispute_at" "Affair.dispute_at" l8 a.eV a.eR
 bD:Binds K a.eR ["self","number"] []
 bB:Meth K a.aG "dispute_at" a.eV
 nF:eM K "hosts_in" "Affair.hosts_in" jZ a.gM a.gn
 j4:Binds K a.gn ["self"] []
 jY:Meth K a.aG "hosts_in" a.gM
 qR:eM K "is_out" "Affair.is_out" rk a.jJ a.jG
 gf:Binds K a.jG ["self","number"] []
 gc:Meth K a.aG "is_out" a.jJ
 vm:eM K "said" "Affair.said" uU a.mH a.mm
 dP:Binds K a.mm ["self","number","turn"] []
 dS:Meth K a.aG "said" a.mH
 iO:eM K "how_much_heard" "Affair.how_much_heard" eI a.cJ a.cI
 iJ:Binds K a.cI ["self"] []
 iD:Meth K a.aG "how_much_heard" a.cJ
 jk:eM K "open_disputes" "Affair.open_disputes" fh a.cW a.dk
 fc:Binds K a.dk ["self"] []
 fg:Meth K a.aG "open_disputes" a.cW
 fZ:eM K "open_disputes_of" "Affair.open_disputes_of" dB a.b4 a.bY
 bZ:Binds K a.bY ["self","number"] []
 b3:Meth K a.aG "open_disputes_of" a.b4
 iL:eM K "are_in_dispute" "Affair.are_in_dispute" eF a.cE a.cK
 i3:Binds K a.cK ["self","x","y"] []
 iF:Meth K a.aG "are_in_dispute" a.cE
 jc:eM K "begin_dispute" "Affair.begin_dispute" jo a.cT a.cR
 ja:Binds K a.cR ["self","first","second"] []
 jr:Meth K a.aG "begin_dispute" a.cT
 vv:eM K "hear" "Affair.hear" vk a.mz a.mf
 uI:Binds K a.mf ["self","number","turn","state"] []
 va:Meth K a.aG "hear" a.mz
 pS:eM K "look_at" "Affair.look_at" pG a.iV a.iZ
 lC:Binds K a.iZ ["self","dispute"] []
 lR:Meth K a.aG "look_at" a.iV
 oR:eM K "work_out" "Affair.work_out" j3 a.gz a.gk
 om:Binds K a.gk ["self","dispute"] []
 oW:Meth K a.aG "work_out" a.gz
 jb:eM K "put_out_twice" "Affair.put_out_twice" jn a.cS a.cZ
 jq:Binds K a.cZ ["self","number"] []
 jv:Meth K a.aG "put_out_twice" a.cS
 iH:eM K "put_out_silent" "Affair.put_out_silent" iX a.cG a.cF
 i5:Binds K a.cF ["self","dispute_number","number"] []
 iC:Meth K a.aG "put_out_silent" a.cG
 lu:eM K "end_against" "Affair.end_against" k6 a.eg a.dW
 gK:Binds K a.dW ["self","dispute","how","number"] []
 gC:Meth K a.aG "end_against" a.eg
 pk:eM K "put_out" "Affair.put_out" pD a.iI a.iR
 dH:Binds K a.iR ["self","numbers","winner"] []
 dI:Meth K a.aG "put_out" a.iI
 iA:eM K "leave_disputes" "Affair.leave_disputes" eE a.cM a.cH
 iK:Binds K a.cH ["self"] []
 i8:Meth K a.aG "leave_disputes" a.cM
 zi:eM K "__init__" "Word.__init__" xS a.qf a.qG
 qd:Binds K a.qG ["self","dispute","host","turn","state"] []
 xN:eM K "__init__" "Line.__init__" xP a.qt a.qz
 ux:Binds K a.qz ["self"] []
 sH:eM K "is_full" "Line.is_full" sI a.la a.lb
 nD:Binds K a.lb ["self"] []
 og:Meth K a.cQ "is_full" a.la
 Am:eM K "put" "Line.put" AL a.sk a.sO
 rZ:Binds K a.sO ["self","word"] []
 sV:Meth K a.cQ "put" a.sk
 rl:eM K "let_come" "Line.let_come" qK a.jA a.jF
 qT:Binds K a.jF ["self","number"] []
 qW:Meth K a.cQ "let_come" a.jA
 uJ:eM K "let_go" "Line.let_go" uE a.mj a.mq
 ve:Binds K a.mq ["self","number"] []
 u6:Meth K a.cQ "let_go" a.mj
 jV:eM K "has_word_about" "Line.has_word_about" fX a.dC a.dD
 jT:Binds K a.dD ["self","dispute","host","turn"] []
 jU:Meth K a.cQ "has_word_about" a.dC
 cu:eM K "behind_count" "behind_count" rV a.kx a.kE
 df:Binds K a.kE ["row"] []
 dm:mg "behind_count"=some (.ref a.kx)
 qj:eM K "as_number" "as_number" yE a.ql a.qE
 tT:Binds K a.qE ["holds"] []
 tS:mg "as_number"=some (.ref a.ql)
 tU:eM K "call_line" "call_line" za a.lj a.ni
 yx:Binds K a.ni ["bench","numbers","rows"] []
 yt:mg "call_line"=some (.ref a.lj)
 ud:eM K "call_word" "call_word" yH a.kb a.nk
 yL:Binds K a.nk ["bench","numbers","rows"] []
 ze:mg "call_word"=some (.ref a.kb)
 nJ:eM K "call_dispute" "call_dispute" sJ a.fD a.iN
 rW:Binds K a.iN ["bench","numbers","rows"] []
 sC:mg "call_dispute"=some (.ref a.fD)
 pY:eM K "call_agreed" "call_agreed" vo a.gV a.jK
 vp:Binds K a.jK ["bench","numbers","rows"] []
 uW:mg "call_agreed"=some (.ref a.gV)
 rF:eM K "call_truth" "call_truth" w9 a.ji a.lF
 wV:Binds K a.lF ["bench","numbers","rows"] []
 wX:mg "call_truth"=some (.ref a.ji)
 fR:eM K "state_or_nothing" "state_or_nothing" mT a.fI a.fP
 jw:Binds K a.fP ["turn","state"] []
 i9:mg "state_or_nothing"=some (.ref a.fI)
 rN:eM K "call_heard" "call_heard" wk a.jh a.lU
 wY:Binds K a.lU ["bench","numbers","rows"] []
 wG:mg "call_heard"=some (.ref a.jh)
 uB:eM K "call_says" "call_says" zh a.kP a.nq
 yg:Binds K a.nq ["bench","numbers","rows"] []
 yO:mg "call_says"=some (.ref a.kP)
 uu:eM K "call_host" "call_host" xW a.kL a.m9
 x9:Binds K a.m9 ["bench","numbers","rows"] []
 y6:mg "call_host"=some (.ref a.kL)
 p8:eM K "call_affair" "call_affair" uY a.gW a.jN
 vt:Binds K a.jN ["bench","numbers","rows"] []
 vC:mg "call_affair"=some (.ref a.gW)
 p6:eM K "call_counts" "call_counts" uR a.hZ a.jP
 uZ:Binds K a.jP ["bench","numbers","rows"] []
 vh:mg "call_counts"=some (.ref a.hZ)
 ur:eM K "call_work" "call_work" xF a.kO a.nA
 zg:Binds K a.nA ["bench","numbers","rows"] []
 yy:mg "call_work"=some (.ref a.kO)
 lM:eM K "answer_reading" "answer_reading" pU a.iU a.i7
 pE:Binds K a.i7 ["bench","call","numbers","rows"] []
 pL:mg "answer_reading"=some (.ref a.iU)
 jM:eM K "are_numbers" "are_numbers" p5 a.mC a.md
 mh:Binds K a.md ["row"] []
 mw:mg "are_numbers"=some (.ref a.mC)
 rB:eM K "is_program" "is_program" rH a.oz a.nX
 wN:Binds K a.nX ["row"] []
 w6:mg "is_program"=some (.ref a.oz)
 iy:eM K "are_first_numbers" "are_first_numbers" lW a.eZ a.eS
 l0:Binds K a.eS ["row"] []
 lX:mg "are_first_numbers"=some (.ref a.eZ)
 uk:eM K "orders_of" "orders_of" uC a.qw a.qm
 yN:Binds K a.qm ["row"] []
 xM:mg "orders_of"=some (.ref a.qw)
 ub:eM K "put_value" "put_value" y8 a.qF a.qx
 xK:Binds K a.qx ["order","numbers"] []
 yq:mg "put_value"=some (.ref a.qF)
 mL:eM K "numbers_after" "numbers_after" rh a.jE a.jH
 qN:Binds K a.jH ["order","numbers"] []
 qP:mg "numbers_after"=some (.ref a.jE)
 Ea:eM K "jumps" "jumps" Ib a.Bv a.A8
 HL:Binds K a.A8 ["order","numbers"] []
 He:mg "jumps"=some (.ref a.Bv)
 AI:eM K "__init__" "Run.__init__" z6 a.sA a.sR
 Ad:Binds K a.sR ["self","program","first"] []
 sU:eM K "is_state" "Run.is_state" sy a.kg a.kq
 oE:Binds K a.kq ["self","row"] []
 oj:Meth K a.pb "is_state" a.kg
 mS:eM K "state_behind" "Run.state_behind" mQ a.fH a.fT
 fW:Binds K a.fT ["self","state"] []
 fu:Meth K a.pb "state_behind" a.fH
 sM:eM K "state_at" "Run.state_at" tq a.k9 a.kT
 lz:Binds K a.kT ["self","turn"] []
 lh:Meth K a.pb "state_at" a.k9
 wQ:eM K "__init__" "Bench.__init__" wI a.nN a.oN
 wW:Binds K a.oN ["self"] []
 rC:eM K "call_clear" "call_clear" wz a.jd a.lK
 wB:Binds K a.lK ["bench","numbers","rows"] []
 wH:mg "call_clear"=some (.ref a.jd)
 wL:eM K "call_new" "call_new" zV a.mO a.pM
 z1:Binds K a.pM ["bench","numbers","rows"] []
 Av:mg "call_new"=some (.ref a.mO)
 Ei:eM K "tell" "tell" KC a.Et a.Fs
 HV:Binds K a.Fs ["affair","numbers","state"] []
 Hs:mg "tell"=some (.ref a.Et)
 wq:eM K "call_lie" "call_lie" z3 a.mP a.pI
 Aq:Binds K a.pI ["bench","numbers","rows"] []
 Ak:mg "call_lie"=some (.ref a.mP)
 ui:eM K "call_mute" "call_mute" y1 a.kX a.m4
 y3:Binds K a.m4 ["bench","numbers","rows"] []
 xQ:mg "call_mute"=some (.ref a.kX)
 qc:eM K "call_honest" "call_honest" vb a.gY a.jQ
 uQ:Binds K a.jQ ["bench","numbers","rows"] []
 vy:mg "call_honest"=some (.ref a.gY)
 nE:eM K "pair_refusal" "pair_refusal" rY a.km a.kH
 tm:Binds K a.kH ["affair","x","y"] []
 si:mg "pair_refusal"=some (.ref a.km)
 uz:eM K "call_pair" "call_pair" yV a.kn a.mZ
 yz:Binds K a.mZ ["bench","numbers","rows"] []
 yI:mg "call_pair"=some (.ref a.kn)
 fG:eM K "question_refusal" "question_refusal" mR a.fS a.fV
 jj:Binds K a.fV ["affair","number","host"] []
 jf:mg "question_refusal"=some (.ref a.fS)
 w8:eM K "call_say" "call_say" Ac a.mN a.pO
 AK:Binds K a.pO ["bench","numbers","rows"] []
 AD:mg "call_say"=some (.ref a.mN)
 j5:eM K "answer_question" "answer_question" oC a.gy a.gr
 oK:Binds K a.gr ["bench","word"] []
 oO:mg "answer_question"=some (.ref a.gy)
 oF:eM K "call_deliver" "call_deliver" sZ a.fA a.iY
 tJ:Binds K a.iY ["bench","numbers","rows"] []
 sQ:mg "call_deliver"=some (.ref a.fA)
 uq:eM K "call_lose" "call_lose" yA a.kU a.nB
 yU:Binds K a.nB ["bench","numbers","rows"] []
 yY:mg "call_lose"=some (.ref a.kU)
 p9:eM K "call_double" "call_double" uF a.gT a.jO
 uV:Binds K a.jO ["bench","numbers","rows"] []
 vq:mg "call_double"=some (.ref a.gT)
 oq:eM K "hush_refusal" "hush_refusal" tE a.kI a.lB
 rS:Binds K a.lB ["bench","number","host"] []
 tD:mg "hush_refusal"=some (.ref a.kI)
 uc:eM K "call_hush" "call_hush" yC a.lg a.nv
 yQ:Binds K a.nv ["bench","numbers","rows"] []
 xZ:mg "call_hush"=some (.ref a.lg)
 rD:eM K "call_close" "call_close" rO a.je a.lT
 wZ:Binds K a.lT ["bench","numbers","rows"] []
 wj:mg "call_close"=some (.ref a.je)
 Bd:eM K "answer" "answer" Ec a.yc a.x8
 Fm:Binds K a.x8 ["bench","call","numbers","rows"] []
 Er:mg "answer"=some (.ref a.yc)
 uG:eM K "__init__" "Reader.__init__" u5 a.mv a.mx
 vd:Binds K a.mx ["self","calls"] []
 pA:eM K "is_done" "Reader.is_done" pC a.i0 a.iS
 pB:Binds K a.iS ["self"] []
 pz:Meth K a.gR "is_done" a.i0
 kQ:eM K "read_number" "Reader.read_number" ly a.dZ a.d7
 gh:Binds K a.d7 ["self"] []
 gE:Meth K a.gR "read_number" a.dZ
 oQ:eM K "read_row" "Reader.read_row" nZ a.gL a.gu
 j8:Binds K a.gu ["self","length"] []
 j6:Meth K a.gR "read_row" a.gL
 pX:eM K "answer_next" "answer_next" p4 a.me a.mi
 uL:Binds K a.mi ["bench","reader"] []
 vw:mg "answer_next"=some (.ref a.me)
 Ca:eM K "answers" "answers" CA a.vU a.pT
 GR:Binds K a.pT ["calls"] []
 CC:mg "answers"=some (.ref a.vU)
 Qz:mg "all"=none
 Qv:mg "any"=none
 Q6:mg "dict"=none
 dM:mg "len"=none
 Il:mg "list"=none
 D8:mg "range"=none
 Qy:mg "sum"=none
 zo:mg "tuple"=none
 L8:∃ t,mg "WRONG"=some (.int (1) t)
 P0:∃ t,mg "TWICE"=some (.int (2) t)
 NG:∃ t,mg "SILENT"=some (.int (3) t)
 Ry:∃ t,mg "LEFT"=some (.int (4) t)
 Ja:∃ t,mg "FULL_LINE"=some (.int (60) t)
 bV:∃ t,mg "NOT_AS_TOLD"=some (.int (-1) t)
 JN:∃ t,mg "NO_AFFAIR"=some (.int (-2) t)
 vE:∃ t,mg "NOT_NOW"=some (.int (-3) t)
 sT:∃ t,mg "HEARD_OR_NOT"=some (.int (-4) t)
 zb:∃ t,mg "LINE_IS_FULL"=some (.int (-5) t)
 lG:∃ t,mg "NO_SUCH"=some (.int (-6) t)
 Gf:∃ t,mg "LOST_ENOUGH"=some (.int (-7) t)
 AH:∃ t,mg "ASKED_TOO_SELDOM"=some (.int (-8) t)
 Dx:∃ t,mg "STILL_ON_LINE"=some (.int (-9) t)
 vc:∃ t,mg "HOST_IS_OUT"=some (.int (-10) t)
 Mj:∃ t,mg "NO_PAIR"=some (.int (-11) t)
 vL:∃ t,mg "LIKE_OR_UNLIKE"=some (.int (-12) t)
 DK:∃ t,mg "FIRST_READING"=some (.int (12) t)
 qI:mg "READING_CALLS"=some (.ref a.dz)
 v5:∃ t,mg "MODULUS"=some (.int (1000) t)
 kr:∃ t,mg "ORDER_LENGTH"=some (.int (4) t)
 FX:∃ t,mg "MOST_ORDERS"=some (.int (20) t)
 FD:∃ t,mg "MOST_NUMBERS"=some (.int (6) t)
 Nb:∃ t,mg "LAST_OP"=some (.int (7) t)
 Im:mg "CALLS"=some (.ref a.rP)
 jg:mg "CALLS_WITHOUT_AFFAIR"=some (.ref a.bL)
 FC:mg "SHAPES"=some (.ref a.qp)
theorem bu {N P:List Str} {sc:Scope} (k:sc.kind=.function:=by rfl) (co:sc.isCoroutine=false:=by rfl) (ge:sc.isGenerator=false:=by rfl) (nd:N.Nodup:=by decide +kernel) (pr:N.take P.length=P:=by rfl) (pa:∀ x∈P,sc.names.lookup x=some .local∨sc.names.lookup x=some .cell:=by decide +kernel) (nf:∀ y∈sc.names,y.2≠.free:=by decide +kernel):aA N P sc:=⟨k,co,ge,nd,pr,pa,nf⟩
theorem wF:aA ["hosts","host"] ["hosts"] (aq ue):=bu
theorem DC:aA ["self","turns","n"] ["self","turns","n"] (aq sY):=bu
theorem Ae:aA ["self"] ["self"] (aq ox):=bu
theorem DM:aA ["self","first","second","beginning","turns"] ["self","first","second","beginning","turns"] (aq sx):=bu
theorem zU:aA ["self"] ["self"] (aq oS):=bu
theorem pF:aA ["self"] ["self"] (aq ed):=bu
theorem Cr:aA ["self","host"] ["self","host"] (aq qU):=bu
theorem Cf:aA ["self","first_said","second_said"] ["self","first_said","second_said"] (aq qH):=bu
theorem tN:aA ["self"] ["self"] (aq gS):=bu
theorem Hb:aA ["self","stake"] ["self","stake"] (aq yn):=bu
theorem Iy:aA ["self","turn","state"] ["self","turn","state"] (aq zd):=bu
theorem BA:aA ["self","turn"] ["self","turn"] (aq pP):=bu
theorem jS:aA ["self","told"] ["self"] (aq gO):=bu
theorem ID:aA ["self","turn","run"] ["self","turn","run"] (aq yX):=bu
theorem sD:aA ["self","run","turns","k","n","stake","number"] ["self","run","turns","k","n","stake"] (aq pW):=bu
theorem Aj:aA ["self","number"] ["self","number"] (aq oV):=bu
theorem AE:aA ["self","turn"] ["self","turn"] (aq oZ):=bu
theorem rM:aA ["self","number","turn"] ["self","number","turn"] (aq fJ):=bu
theorem xt:aA ["self","number"] ["self","number"] (aq kC):=bu
theorem Al:aA ["self","number"] ["self","number"] (aq oJ):=bu
theorem yj:aA ["self","number"] ["self","number"] (aq l8):=bu
theorem mM:aA ["self","host"] ["self"] (aq jZ):=bu
theorem CH:aA ["self","number"] ["self","number"] (aq rk):=bu
theorem En:aA ["self","number","turn"] ["self","number","turn"] (aq uU):=bu
theorem hJ:aA ["self","host"] ["self"] (aq eI):=bu
theorem iP:aA ["self","dispute"] ["self"] (aq fh):=bu
theorem fq:aA ["self","number","dispute"] ["self","number"] (aq dB):=bu
theorem hU:aA ["self","x","y","dispute"] ["self","x","y"] (aq eF):=bu
theorem m8:aA ["self","first","second","dispute"] ["self","first","second"] (aq jo):=bu
theorem nV:aA ["self","number","turn","state","host","before","dispute"] ["self","number","turn","state"] (aq vk):=bu
theorem oM:aA ["self","dispute","first_said","second_said"] ["self","dispute"] (aq pG):=bu
theorem jt:aA ["self","dispute","truth","wrong","number"] ["self","dispute"] (aq j3):=bu
theorem nz:aA ["self","number","disputes"] ["self","number"] (aq jn):=bu
theorem u0:aA ["self","dispute_number","number"] ["self","dispute_number","number"] (aq iX):=bu
theorem xD:aA ["self","dispute","how","number"] ["self","dispute","how","number"] (aq k6):=bu
theorem j2:aA ["self","numbers","winner","number","host","gaining"] ["self","numbers","winner"] (aq pD):=bu
theorem dO:aA ["self","dispute","gone","number"] ["self"] (aq eE):=bu
theorem HH:aA ["self","dispute","host","turn","state"] ["self","dispute","host","turn","state"] (aq xS):=bu
theorem G1:aA ["self"] ["self"] (aq xP):=bu
theorem DD:aA ["self"] ["self"] (aq sI):=bu
theorem C9:aA ["self","word","number"] ["self","word"] (aq AL):=bu
theorem B9:aA ["self","number"] ["self","number"] (aq qK):=bu
theorem FK:aA ["self","number"] ["self","number"] (aq uE):=bu
theorem fe:aA ["self","dispute","host","turn","about","word"] ["self","dispute","host","turn"] (aq fX):=bu
theorem DF:aA ["row"] ["row"] (aq rV):=bu
theorem Hg:aA ["holds"] ["holds"] (aq yE):=bu
theorem BF:aA ["bench","numbers","rows","words"] ["bench","numbers","rows"] (aq za):=bu
theorem wO:aA ["bench","numbers","rows","word","told"] ["bench","numbers","rows"] (aq yH):=bu
theorem jD:aA ["bench","numbers","rows","dispute","first","second","told"] ["bench","numbers","rows"] (aq sJ):=bu
theorem yK:aA ["bench","numbers","rows","dispute"] ["bench","numbers","rows"] (aq vo):=bu
theorem zJ:aA ["bench","numbers","rows","affair"] ["bench","numbers","rows"] (aq w9):=bu
theorem zD:aA ["turn","state"] ["turn","state"] (aq mT):=bu
theorem zH:aA ["bench","numbers","rows","affair"] ["bench","numbers","rows"] (aq wk):=bu
theorem wy:aA ["bench","numbers","rows","affair","host"] ["bench","numbers","rows"] (aq zh):=bu
theorem oX:aA ["bench","numbers","rows","affair","number","host","told"] ["bench","numbers","rows"] (aq xW):=bu
theorem tM:aA ["bench","numbers","rows","affair","told"] ["bench","numbers","rows"] (aq uY):=bu
theorem zj:aA ["bench","numbers","rows","line"] ["bench","numbers","rows"] (aq uR):=bu
theorem Bj:aA ["bench","numbers","rows","run"] ["bench","numbers","rows"] (aq xF):=bu
theorem tP:aA ["bench","call","numbers","rows","perform"] ["bench","call","numbers","rows"] (aq pU):=bu
theorem tH:aA ["row","number"] ["row"] (aq p5):=bu
theorem uS:aA ["row","op"] ["row"] (aq rH):=bu
theorem yk:aA ["row"] ["row"] (aq lW):=bu
theorem wR:aA ["row","at"] ["row"] (aq uC):=bu
theorem rJ:aA ["order","numbers","op","left","right"] ["order","numbers"] (aq y8):=bu
theorem lO:aA ["order","numbers","changed","x","y"] ["order","numbers"] (aq rh):=bu
theorem Jw:aA ["order","numbers","x"] ["order","numbers"] (aq Ib):=bu
theorem JL:aA ["self","program","first"] ["self","program","first"] (aq z6):=bu
theorem DP:aA ["self","row"] ["self","row"] (aq sy):=bu
theorem iw:aA ["self","state","order","numbers","place"] ["self","state"] (aq mQ):=bu
theorem DT:aA ["self","turn"] ["self","turn"] (aq tq):=bu
theorem FZ:aA ["self"] ["self"] (aq wI):=bu
theorem FP:aA ["bench","numbers","rows"] ["bench","numbers","rows"] (aq wz):=bu
theorem qg:aA ["bench","numbers","rows","turns","k","n","stake"] ["bench","numbers","rows"] (aq zV):=bu
theorem Lw:aA ["affair","numbers","state","host"] ["affair","numbers","state"] (aq KC):=bu
theorem C4:aA ["bench","numbers","rows","affair"] ["bench","numbers","rows"] (aq z3):=bu
theorem IC:aA ["bench","numbers","rows"] ["bench","numbers","rows"] (aq y1):=bu
theorem xV:aA ["bench","numbers","rows","host"] ["bench","numbers","rows"] (aq vb):=bu
theorem qY:aA ["affair","x","y","x_said","y_said"] ["affair","x","y"] (aq rY):=bu
theorem A3:aA ["bench","numbers","rows","refusal"] ["bench","numbers","rows"] (aq yV):=bu
theorem rp:aA ["affair","number","host","dispute"] ["affair","number","host"] (aq mR):=bu
theorem nu:aA ["bench","numbers","rows","number","host","refusal","dispute","word_number"] ["bench","numbers","rows"] (aq Ac):=bu
theorem mU:aA ["bench","word","host","state"] ["bench","word"] (aq oC):=bu
theorem xj:aA ["bench","numbers","rows","word"] ["bench","numbers","rows"] (aq sZ):=bu
theorem Bm:aA ["bench","numbers","rows","dispute"] ["bench","numbers","rows"] (aq yA):=bu
theorem xJ:aA ["bench","numbers","rows","word"] ["bench","numbers","rows"] (aq uF):=bu
theorem qQ:aA ["bench","number","host","refusal","dispute"] ["bench","number","host"] (aq tE):=bu
theorem By:aA ["bench","numbers","rows","refusal"] ["bench","numbers","rows"] (aq yC):=bu
theorem pZ:aA ["bench","numbers","rows","affair","ends","host"] ["bench","numbers","rows"] (aq rO):=bu
theorem GN:aA ["bench","call","numbers","rows","perform"] ["bench","call","numbers","rows"] (aq Ec):=bu
theorem E5:aA ["self","calls"] ["self","calls"] (aq u5):=bu
theorem Bw:aA ["self"] ["self"] (aq pC):=bu
theorem xq:aA ["self"] ["self"] (aq ly):=bu
theorem As:aA ["self","length"] ["self","length"] (aq nZ):=bu
theorem iB:aA ["bench","reader","call","shape","numbers","rows","row"] ["bench","reader"] (aq p4):=bu
theorem sX:aA ["calls","reader","bench","given","told"] ["calls"] (aq CA):=bu
end HR
set_option genInjectivity true
namespace HR
open PySem PySem.Spec L2
open PyProof.Rows hiding St
theorem C5:bootBuiltins "any"=some (.builtin "any"):=by decide +kernel
theorem CV:bootBuiltins "all"=some (.builtin "all"):=by decide +kernel
theorem C3:bootBuiltins "sum"=some (.builtin "sum"):=by decide +kernel
theorem jR:bootBuiltins "tuple"=some (.type "tuple"):=by decide +kernel
theorem rK:bootBuiltins "list"=some (.type "list"):=by decide +kernel
theorem Hx:bootBuiltins "dict"=some (.type "dict"):=by decide +kernel
theorem FN:bootBuiltins "range"=some (.type "range"):=by decide +kernel
theorem _root_.L2.my.lo {j k:Nat} {A:Around} (h:my k A) (e:j<=k:=by decide):my j A:=h.mono e
section
variable {X:Cx}
theorem aM {x:Str} {n:Int} {pos:Pos} (hg:Gl X x) (h:∃ t,X.mg x=some (.int n t)) (hd:(x == ("__debug__":Str))=false:=by decide):PE X (.Name x pos) (tC (.int n)):=by
 obtain ⟨t,h⟩:=h
 exact Bx hg h ⟨t,rfl⟩ hd
theorem Q8 {e:Expr} {t u:TE} (h1:PE X e t) (h2:PE X e u):PE X e (λσ H Q=>t σ H Q∨u σ H Q):=λpins s σ H Q I h=>by
 rcases h with h | h
 ·exact h1 pins s σ H Q I h
 ·exact h2 pins s σ H Q I h
def LM (K:UR):V->List V->Hp->VK->Prop:=λx xs H Q=>∃ (a:Addr) (ys:List V) (y:V) (ds:List PyData) (d:PyData),x=V.ref a/\xs=[y]/\bc K H a ys/\zM K H ys ds/\Dp K H y d /\
 SeqAt.shaped (.list ds)=true/\SeqAt.shaped d=true/\Q (.int ((ds.countP λz=>PyData.eqv z d:Nat):Int)) H
theorem MF (hu:X.A.units+65 < cLine):Q3 X "list.count" (LM X.K):=by
 intro pins s σ H x xs v us Q I rx rxs h
 obtain ⟨a,ys,y,ds,d,rfl,rfl,hs,hds,hd,sds,sd,q⟩:=h
 cases rx
 cases rxs with
 | cons ry rt =>
  rename_i uy ut
  cases rt
  obtain ⟨its,rv,⟨⟨cls,dd,data,sl⟩,n,ho,hc,hdn,hda⟩,hlen⟩:=I.list hs
  simp only at hc hda
  subst hc hda
  obtain ⟨as,rs⟩:=Dp.readsAll I ds ys its hds rv
  obtain ⟨bs,rd⟩:=Dp.reads I d y uy hd ry
  have rs':ReadsAll s.heap its.toArray.toList ds as:=by simpa using rs
  refine call_meets PySem.F.slot_list_count ⟨_,ho,rfl⟩ PySem.F.entry_list_count (PySem.F.args_list_count_2 _ _)
   (SeqAt.list_countAt a its.toArray n dd sl uy (λz=>PyData.eqv (SeqAt.readOf s.heap z) d)) ⟨ho,SeqAt.items_eqAt rs' rd (SeqAt.canLay_of_shaped sds) (SeqAt.canLay_of_shaped sd) (room_in_shaped sd hu),?_⟩
  have e:its.toArray.toList.countP (λz=>PyData.eqv (SeqAt.readOf s.heap z) d)=ds.countP λz=>PyData.eqv z d:=by
   rw [<- SeqAt.readsAll_map ds _ _ (SeqAt.canLay_of_shaped sds) rs',List.countP_map]
   rfl
  rw [e]
  exact ⟨.int _,H,I.tok _,⟨_,rfl⟩,q⟩
def Tg (K:UR):R2:=λx y H Q=>∃ (a:Addr) (ys:List V) (ds:List PyData) (d:PyData),y=V.ref a/\bc K H a ys/\zM K H ys ds/\Dp K H x d /\
 SeqAt.shaped (.list ds)=true/\SeqAt.shaped d=true/\Q (.bl (ds.any λz=>PyData.eqv z d)) H
theorem QO (hu:X.A.units+65 < cLine):zA X (compareOp .In) (Tg X.K):=by
 intro pins s σ H x y v u Q I rx ry h
 obtain ⟨a,ys,ds,d,rfl,hs,hds,hd,sds,sd,q⟩:=h
 cases ry
 obtain ⟨as,r1⟩:=Dp.reads I (.list ds) (.ref a) (.ref a) (.lst hs hds) rfl
 obtain ⟨bs,r2⟩:=Dp.reads I d x v hd rx
 exact SeqAt.in_list_reads r1 r2 (SeqAt.canLay_of_shaped sds) (SeqAt.canLay_of_shaped sd) (room_in_shaped sd hu) ⟨.bl _,H,I,rfl,q⟩
def SQ (X:Cx) (td ty:TE):TE:=λσ H Q=>td σ H λx H1=>ty σ H1 λy H2=>∃ (a:Addr) (k:Int) (vs:List (Key × Value)) (v:V) (u:Value),x=.ref a/\y=.int k /\
 (∀ h:Heap,X.K.In h->h.DictOf (aY X.prog X.w) a vs)/\valueAt vs (Sum.inl k)=some u/\RelV v u/\Q v H2
theorem EG {o i:Expr} {pos:Pos} {td ty:TE} (ho:PE X o td) (hi:PE X i ty) (hs:Rc i):PE X (.Subscript o i pos) (SQ X td ty):=by
 intro pins s σ H Q I h
 refine K5 PySem.F.slot_dict_getitem.lookup hs (dN (ho pins s σ H _ I h) λu s1 ⟨x,H1,I1,rx,q1⟩=>dN (hi pins s1 σ H1 _ I1 q1) λiv s2 ⟨y,H2,I2,ry,a,k,vs,v,uv,ex,ey,hK,hv,rv,q2⟩=>?_)
 subst ex ey
 obtain rfl:u=Value.ref a:=rx
 have dd:=hK _ I2.Jp
 exact ⟨dd.typeIs,wpAny_getItem_of (yF (k:=Sum.inl k) ry) dd.mapOf hv ⟨v,H2,I2.tok _,rv,q2⟩⟩
def RB (X:Cx) (i:Nat) (t:TA):TE:=λσ H Q=>∃ (f:Addr) (fd:FuncData) (ps:List Str) (sp:Sp) (k:Nat),σ[i]?=some (some (.ref f))/\a7 X.prog X.w X.K X.mg X.base eQ k f fd ps sp/\my k X.A /\
 Wd X.K (.ref f)=true/\Binds X.K fd ps []/\t σ H λvs H1=>sp (vs++[]) H1 Q E0
theorem Jd {x:Str} {p pos:Pos} {e:Expr} {es:List Expr} {t:TA} (i:Nat) (hN:X.N[i]?=some x) (hv:Sa X.env.scope x) (ha:PA X (e::es) t) (hd:(x == ("__debug__":Str))=false:=by decide)
  (hcd:(x == ("__classdict__":Str))=false:=by decide)
  (he:starEach (e::es) X.env=(false,eval e X.env)::starEach es X.env:=by rfl) (hpl:(backTo pos (starEach es X.env)).any (·.1)=false:=by rfl) :
  PE X (.Call (.Name x p) (e::es) [] pos) (RB X i t):=by
 intro pins s σ H Q I h
 obtain ⟨f,fd,ps,sp,k,hf,F,hr,hk,hb,h⟩:=h
 refine wpAny_Call_Name_kw (dN (Oz (X:=X) (i:=i) (pos:=p) hN hv hd hcd pins s σ H (λv H'=>v=.ref f/\H'=H) I ⟨_,hf,rfl,rfl⟩) λu s1 ⟨v,H1,I1,r1,e1,e2⟩=>?_)
 subst e1 e2
 obtain rfl:u=Value.ref f:=r1
 refine PySem.W.callWith_K (h₀:=X.base) I.ok.mod.Pn hk (dN (ha pos pins s1 σ H1 _ I1 h) λus s2 ⟨vs,H2,I2,r,q⟩=>⟨I2.Jp,?_⟩) he hpl
 exact G7 F hr hb .nil aE I2 r q
end
theorem Gv {xs:List V} {its:List Value} (r:Vals xs its):∀ l:List Nat,Vals (l.filterMap (xs[·]?)) (l.filterMap (its[·]?))
 | []=>.nil
 | i::l=>by
  have ih:=Gv r l
  cases e:xs[i]? with
  | none =>
   rw [List.filterMap_cons_none e,List.filterMap_cons_none (r.none_of e)]
   exact ih
  | some x =>
   obtain ⟨u,eu,ru⟩:=r.get e
   rw [List.filterMap_cons_some e,List.filterMap_cons_some eu]
   exact .cons ru ih
def JK (k:Int) (xs:List V):List V:=(sliceRange 0 (xs.length:Nat) k).filterMap (xs[·]?)
section
variable {X:Cx}
def Sl (X:Cx) (te tk:TE):TE:=λσ H Q=>te σ H λx H1=>tk σ H1 λy H2=>∃ (a:Addr) (xs:List V) (k:Int),x=.ref a/\y=.int k/\0 < k/\bc X.K H2 a xs/\∀ p,H2 p=none->Q (.ref p) (upd H2 p (.lst (JK k xs)))
theorem Ml {e st:Expr} {te tk:TE} {pos p2:Pos} (he:PE X e te) (hk:PE X st tk):PE X (.Subscript e (.Slice none none (some st) p2) pos) (Sl X te tk):=by
 intro pins s σ H Q I h
 refine Subscript_ (dN (he pins s σ H _ I h) λv s1 ⟨x,H1,I1,r1,q1⟩=>?_)
 refine wpAny_Slice ?_
 rw [evalPart_none,evalPart_some]
 refine wpAny_pure (wpAny_pure (dN (hk pins s1 σ H1 _ I1 q1) λu s2 ⟨y,H2,I2,r2,a,xs,k,ex,ey,h0,hx,q⟩=>?_))
 subst ex ey
 cases r1
 obtain ⟨tk',rfl⟩:=r2
 have I4:Inv X pins σ H2 { s2 with heap:=s2.heap.push { cls:=.type "slice",data:=.fields #[.none,.none,.int k tk'] } }:=I2.kept (t':=s2.toks) λb ob q=>Heap.get?_push_of_some _ q
 obtain ⟨its,r,ht,hz⟩:=I4.list hx
 have hlen:=r.length
 refine tail_any (ops:=[.ref a,.ref s2.heap.objs.size]) ht.isList.typeIs slot_list_getitem.lookup ?_ (by with_unfolding_all rfl)
 refine wpAny_getItem_list_slice ht.isList (Heap.IsSliceOf.new ..) .none .none (.int k tk') (by intro z;injection z with z;lia) ?_ (by rw [Vf];lia)
 have e:slicePick its.toArray none none (some k)=((sliceRange 0 (xs.length:Nat) k).filterMap (its[·]?)).toArray:=by
  unfold slicePick sliceBounds
  simp only [Option.getD_some,Vf,hlen,show (k > 0)=True from eq_true h0,if_true]
  have e2:(λi:Nat=>its.toArray[i]?)=λi:Nat=>its[i]?:=by funext i;simp
  rw [e2]
 rw [e]
 refine ⟨.ref _,_,I4.laid (t':=s2.toks) (o:=.lst (JK k xs)) (λb ob q=>Heap.get?_push_of_some _ q) (U1 _) ?_,rfl,q _ (I4.dv.fresh (U1 _))⟩
 refine ⟨U8 (List.length_filterMap_le _ _) (U8 (sliceRange_length_le 0 (xs.length:Nat) k xs.length (λ_=>⟨Int.le_refl _,Int.le_refl _⟩) (λz=>absurd h0 z)) hz),_,0,Gv r _,Heap.get?_push_size _ rfl⟩
end
theorem HQ (l:Addr) (a b:Value) (n:Nat) (dd:Option Addr) (sl:Array (Option Value)) (x:Value) (e:Value->Bool) (j:Nat) (hj:(j=0/\e a=true)∨(j=1/\e a=false/\e b=true)) :
  Meets (Builtin.«tuple.index» ⟨[.ref l,x],[]⟩)
   (λA R s=>s.heap.get? l=some { cls:=.type "tuple",dict:=dd,data:=.seq #[a,b] n,slots:=sl }/\(∀ y,y∈#[a,b]->SeqAt.EqAt A.in1 s y x (e y))/\R (.ok (.ret (.int (j:Nat) s.toks))) { s with toks:=s.toks+1 }) :=
 .of_wp λprog w A R s h=>by
  obtain ⟨hp,g,d,tk,os⟩:=s;obtain ⟨hl,he,h⟩:=h
  unfold Builtin.«tuple.index»
  simp only [Std.Legacy.Range.forIn_eq_forIn_range']
  wp_walk using wpAny_loadPart' hl
  have e0:WA 0 [:min #[a,b].size #[a,b].size].size=[0,1]:=by simp [Std.Legacy.Range.size,WA]
  rw [e0]
  unfold List.forIn'.loop
  refine wpAny_bind (wpAny_bind (he a (by simp) prog w _ _ ?_))
  rcases hj with ⟨rfl,ha⟩ | ⟨rfl,ha,hb⟩
  ·rw [ha]
   wp_walk
   exact ⟨_,rfl,by simpa using h⟩
  ·rw [ha]
   simp only [Bool.false_eq_true,if_false]
   refine wpAny_pure ?_
   show wpAny _ _ (List.forIn'.loop _ _ [1] _ _) _ _ _
   unfold List.forIn'.loop
   refine wpAny_bind (wpAny_bind (he b (by simp) prog w _ _ ?_))
   rw [hb]
   wp_walk
   exact ⟨_,rfl,by simpa using h⟩
section
variable {prog:Program} {w:World} {A:Around} {E:Value->Shared->Prop} {s:Shared}
theorem Cj {Q:List Value->Shared->Prop} {r:Addr} {a b c:Int} {t u v:Tok} {n:Nat} (hh:A.handled=none) (hr:IsRange s.heap r a b c t u v) (hsmall:Builtin.Range.small a b c=true)
  (hn:Builtin.Range.rangeSize a b c=n) (hlen:n<=2 ^ 24)
  (hQ:∀ (h':Heap) (tk:Nat) (acc:Array Value),(∀ b o',s.heap.get? b=some o'->h'.get? b=some o')->ItemsOf (λi v=>∃ t,v=.int (a+i * c) t) acc n->Q acc.toList { s with heap:=h',toks:=tk }) :
  wpAny (model prog w) A (collect (.ref r)) Q E s:=by
 unfold collect
 refine wpAny_bind (wpAny_runValue (codeAny_builtin F.entry_proto_collect ?_))
 rw [Around.under_plainId F.plain_proto_collect _]
 show wpAny _ A.in1 (newList [] >>= λl=>again (.builtin "list.__iadd__" ⟨[l,.ref r],[]⟩)) _ _ s
 refine wpAny_bind (wpAny_newObj_type ?_)
 refine wpAny_pure ⟨plainId_quiet F.plain_list_iadd _,codeAny_builtin F.entry_list_iadd ?_⟩
 rw [Around.under_plainId F.plain_list_iadd _]
 show wpAny _ A.in1 (Builtin.List.listExtendWith (.ref s.heap.objs.size) (.ref r) (.ref s.heap.objs.size)) _ _ _
 have hS:(s.heap.push { cls:=.type "list",data:=.seq ([]:List Value).toArray }).get? s.heap.objs.size=some { cls:=.type "list",data:=.seq #[] 0 }:=Heap.get?_push_size _ rfl
 have fin':∀ (h':Heap) (tk:Nat) (acc:Array Value) (c':Nat),(∀ b o,b≠s.heap.objs.size->(s.heap.push { cls:=.type "list",data:=.seq ([]:List Value).toArray }).get? b=some o->h'.get? b=some o) ->
   h'.get? s.heap.objs.size=some { cls:=.type "list",dict:=none,data:=.seq acc c',slots:=#[] }->ItemsOf (λi v=>∃ t,v=.int (a+i * c) t) acc n ->
   wpAny (model prog w) A (match Value.ref s.heap.objs.size with
   | Value.ref a=>do
    match (<- load a).data with
     | Data.seq xs _=>pure xs.toList
     | _=>unsupported "internal:collect"
   | _=>unsupported "internal:collect") Q E { s with heap:=h',toks:=tk }:=λh' tk acc c' hk hS' hI=>by
  show wpAny _ A (load s.heap.objs.size >>= _) _ _ _
  refine wpAny_bind (wpAny_load hS' ?_)
  refine wpAny_pure ?_
  exact hQ h' tk acc (λb o' hb=>hk b o' (Vh (Heap.lt_size hb)) (Heap.get?_push_of_some _ hb)) hI
 refine wpAny_mono (wpAny_extend_range (A:=A) (R:=λr' s'=>∃ (h':Heap) (tk:Nat) (acc:Array Value) (c':Nat),r'=.ok (.ret (.ref s.heap.objs.size))/\s'={ s with heap:=h',toks:=tk } /\
   (∀ b o,b≠s.heap.objs.size->(s.heap.push { cls:=.type "list",data:=.seq ([]:List Value).toArray }).get? b=some o->h'.get? b=some o) /\
   h'.get? s.heap.objs.size=some { cls:=.type "list",dict:=none,data:=.seq acc c',slots:=#[] }/\ItemsOf (λi v=>∃ t,v=.int (a+i * c) t) acc n)
  (s:={ s with heap:=s.heap.push { cls:=.type "list",data:=.seq ([]:List Value).toArray } }) hh (Heap.get?_push_of_some _ hr) hsmall hn hlen _ _ 0 hS λh' tk acc c' hk hS' hI=>⟨h',tk,acc,c',rfl,rfl,hk,hS',hI⟩) (λfin s' h=>?_) (λe s' h=>?_)
 ·cases fin with
  | done f =>
   obtain ⟨h',tk,acc,c',e,rfl,h1,h2,h3⟩:=h
   cases e
   exact fin' h' tk acc c' h1 h2 h3
  | again c'=>exact ⟨h.1,codeAny_mono h.2 λr s'' hr=>by obtain ⟨h',tk,acc,c',rfl,rfl,h1,h2,h3⟩:=hr;exact fin' h' tk acc c' h1 h2 h3⟩
 ·obtain ⟨_,_,_,_,e,_⟩:=h
  cases e
end
theorem Bn (r:Addr) (a b c:Int) (t u v:Tok) (n:Nat) (hsmall:Builtin.Range.small a b c=true) (hn:Builtin.Range.rangeSize a b c=n) (hlen:n<=2 ^ 24) :
  Meets (Builtin.«tuple.__new__» ⟨[.type "tuple",.ref r],[]⟩)
   (λA R s=>A.handled=none/\IsRange s.heap r a b c t u v/\∀ (h':Heap) (tk:Nat) (acc:Array Value),(∀ b o',s.heap.get? b=some o'->h'.get? b=some o')->ItemsOf (λi v=>∃ t,v=.int (a+i * c) t) acc n ->
    R (.ok (.ret (.ref h'.objs.size))) { s with heap:=h'.push { cls:=.type "tuple",data:=.seq acc },toks:=tk }) :=
 .of_wp λprog w A R s h=>by
  obtain ⟨hp,g,d,tk,os⟩:=s;obtain ⟨hh,ht,h⟩:=h
  have hsub:=PySem.sub_tuple_self
  have hinit:=init_tuple_lookup
  have hmh:=madeHere_tuple
  have hT:Shared.TypeIs ⟨hp,g,d,tk,os⟩ (.ref r) "range":=⟨_,ht,rfl⟩
  wp_walk using AutoSeq1.wpAny_loadPart' ht,wpAny_typeOf hT,Cj (A:=A.in1) hh ht hsmall hn hlen
  intro h' tk' acc hk hI
  show wpAny _ _ (Builtin.Tuple.tupleExact acc.toList.toArray >>= λv=>ret v) _ _ _
  unfold Builtin.Tuple.tupleExact
  have hs:acc.size=n:=hI.1
  refine wpAny_bind (wpAny_newObj_type ?_ (by show acc.toList.toArray.size<=sizeLine;rw [sizeLine_eq];simpa [hs] using hlen))
  refine wpAny_pure ⟨_,rfl,?_⟩
  have e:acc.toList.toArray=acc:=by simp
  rw [e]
  exact h h' tk' acc hk hI
theorem Ie:∀ {xs:List V} {us:List Value},xs.length=us.length->(∀ (i:Nat) (x:V) (u:Value),xs[i]?=some x->us[i]?=some u->RelV x u)->Vals xs us
 | [],[],_,_=>.nil
 | [],_::_,h,_=>by simp at h
 | _::_,[],h,_=>by simp at h
 | x::xs,u::us,h,f=>.cons (f 0 x u rfl rfl) (Ie (by simpa using h) λi y v a b=>f (i+1) y v (by simpa using a) (by simpa using b))
section
variable {X:Cx}
theorem N7:m6 X (.type "range") (λxs H Q=>∃ j:Int,xs=[.int j]/\∀ p,H p=none->Q (.ref p) (upd H p (.rng 0 j))):=by
 intro pins s σ H xs us Q I r h
 obtain ⟨j,rfl,q⟩:=h
 obtain ⟨u,rfl,rx⟩:=vals1 r
 obtain ⟨t,rfl⟩:=rx
 refine call_range_1 ⟨.ref s.heap.objs.size,_,I.laid (t':=s.toks+1+1) (o:=.rng 0 j) (λb ob q=>Heap.get?_push_of_some _ q) (U1 _) ?_,rfl,q _ (I.dv.fresh (U1 _))⟩
 exact ⟨_,_,_,Heap.get?_push_size _ rfl⟩
theorem Mc (hc:X.calm=true):m6 X (.type "tuple") (λxs H Q=>∃ (r:Addr) (n:Nat),xs=[.ref r]/\H r=some (.rng 0 (n:Int))/\n<=1000/\∀ p,H p=none->Q (.ref p) (upd H p (.tup ((List.range n).map λ(i:Nat)=>V.int (i:Int))))):=by
 intro pins s σ H xs us Q I r h
 obtain ⟨rr,n,rfl,hr,h1,q⟩:=h
 obtain ⟨u,rfl,rx⟩:=vals1 r
 cases rx
 obtain ⟨t,u,v,e⟩:=I.dv rr _ hr
 have hsm:Builtin.Range.small 0 (n:Int) 1=true:=by
  exact small_one (by decide) (by decide) (Int.le_trans (by decide) (V7 n)) (Int.lt_of_le_of_lt (show (n:Int)<=1000 by lia) (by decide))
 have hn:Builtin.Range.rangeSize 0 (n:Int) 1=n:=by
  unfold Builtin.Range.rangeSize
  rw [if_pos (by decide)]
  by_cases h0:(0:Int) < (n:Int)
  ·rw [if_pos h0,Int.ediv_one]
   omega
  ·rw [if_neg h0]
   omega
 refine callType_new PySem.F.called_tuple (by decide) (PySem.F.typeCall_tuple_1 _) (PySem.F.newCall_tuple_1 _) (λobj=>PySem.F.args_object_init_2 obj _) PySem.F.entry_tuple_new (Bn rr 0 (n:Int) 1 t u v n hsm hn (by lia))
  ⟨I.ok.hd hc,e,λh' tk acc hk hI=>⟨⟨_,Heap.get?_push_size _ rfl,rfl⟩,?_⟩⟩
 have I1:Inv X pins σ H { s with heap:=h',toks:=tk }:=I.kept (t':=tk) hk
 have hl:acc.toList.length=n:=by simpa using hI.1
 have I2:Inv X pins σ (upd H h'.objs.size (.tup ((List.range n).map λ(i:Nat)=>V.int (i:Int)))) { s with heap:=h'.push { cls:=.type "tuple",data:=.seq acc },toks:=tk }:=by
  refine I1.laid (t':=tk) (λb o e=>Heap.get?_push_of_some _ e) (U1 _) (show i4 X.prog X.w _ _ _ (.tup _) from ⟨?_,acc.toList,Ie (by simp [hl]) λi x u hx hu=>?_,?_⟩)
  ·rw [sizeLine_eq];simp;lia
  ·have hu':acc[i]?=some u:=by simpa using hu
   obtain ⟨t,rfl⟩:=hI.2 i u hu'
   rw [Vw] at hx
   have hi:i < n:=by
    have:=(Vn.mp hu).1
    lia
   rw [WR hi] at hx
   cases hx
   exact ⟨t,by simp⟩
  ·simpa using IsTup.new h' acc
 exact ⟨.ref h'.objs.size,_,I2,rfl,q _ (I1.dv.fresh (U1 _))⟩
def Mb (K:UR):V->List V->Hp->VK->Prop:=λx xs H Q=>∃ (a:Addr) (p q y:Int) (j:Nat),x=V.ref a/\xs=[V.int y]/\gg K H a [.int p,.int q]/\((j=0/\p=y)∨(j=1/\p≠y/\q=y))/\Q (.int (j:Nat)) H
theorem Nj:Q3 X "tuple.index" (Mb X.K):=by
 intro pins s σ H x xs v us Q I rx rxs h
 obtain ⟨a,p,q,y,j,rfl,rfl,hs,hj,fin⟩:=h
 cases rx
 obtain ⟨uy,rfl,ty,rfl⟩:=rxs.one
 obtain ⟨its,rv,⟨⟨cls,dd,data,sl⟩,ho,hc,n,hd⟩,hlen⟩:=I.tuple hs
 simp only at hc hd
 subst hc hd
 obtain ⟨u1,u2,rfl,⟨t1,rfl⟩,⟨t2,rfl⟩⟩:=rv.two
 refine call_meets PySem.F.slot_tuple_index ⟨_,ho,rfl⟩ PySem.F.entry_tuple_index (PySem.F.args_tuple_index_2 _ _)
  (HQ a (.int p t1) (.int q t2) n dd sl (.int y ty) (λz=>match z with | .int i _=>i == y | _=>false) j ?_) ⟨ho,λz hz=>?_,⟨.int (j:Nat),H,I.tok _,⟨_,rfl⟩,fin⟩⟩
 ·rcases hj with ⟨rfl,rfl⟩ | ⟨rfl,h1,rfl⟩
  ·exact .inl ⟨rfl,by simp⟩
  ·exact .inr ⟨rfl,by simpa using h1,by simp⟩
 ·have hz':z=.int p t1∨z=.int q t2:=by simpa using hz
  rcases hz' with rfl | rfl
  ·exact SeqAt.EqAt.int_int p t1 y ty
  ·exact SeqAt.EqAt.int_int q t2 y ty
theorem SJ {A:Around} {k:Nat} (hr:my k A):A.units+65 < cLine:=by have:=hr.un;lia
theorem TU {σ:St} {H:Hp} {Q:VK} {a z c:Int} (h:Q (.bl (decide (a<=z)&&decide (z < c))) H) :
  OR (λi j=>.bl (decide (i<=j))) (.int a) (.int z) H (λw H3=>∃ k,w=.bl k/\if k=true then tC (.int c) σ H3 (λw' H4=>OR (λi j=>.bl (decide (i < j))) (.int z) w' H4 Q) else Q (.bl false) H3):=by
 refine ⟨a,z,rfl,rfl,_,rfl,?_⟩
 by_cases e:a<=z
 ·rw [decide_eq_true e] at h ⊢
  rw [if_pos rfl]
  exact ⟨z,c,rfl,rfl,h⟩
 ·rw [decide_eq_false e] at h ⊢
  rw [if_neg (by decide)]
  exact h
end
section
variable {X:Cx} {K:UR}
theorem Fw (hK:X.K=K:=by rfl):SS X (Sw K):=by subst hK;exact P2
theorem Qe (hK:X.K=K:=by rfl):SS X (Sv K):=by subst hK;exact Rq
theorem az (hK:X.K=K:=by rfl):SA X (Sz K):=by subst hK;exact PH
theorem bN (hK:X.K=K:=by rfl):SA X (SM K):=by subst hK;exact QT
theorem NY (hK:X.K=K:=by rfl):zA X (compareOp .In) (Tx K false):=by subst hK;exact Nc
theorem Gy (hK:X.K=K:=by rfl):zA X (compareOp .NotIn) (Tx K true):=by subst hK;exact G8
theorem D5 (hu:X.A.units+64 < cLine) (hK:X.K=K:=by rfl):zA X (compareOp .Eq) (SX K):=by subst hK;exact Rv hu
theorem LV (hu:X.A.units+64 < cLine) (hK:X.K=K:=by rfl):zA X (compareOp .NotEq) (SG K):=by subst hK;exact QU hu
theorem PD (hu:X.A.units+65 < cLine) (hK:X.K=K:=by rfl):zA X (compareOp .In) (Tg K):=by subst hK;exact QO hu
def Uh (K:UR):List V->Hp->VK->Prop:=λxs H Q=>∃ p ys,xs=[.ref p]/\(bc K H p ys∨gg K H p ys)/\Q (.int ys.length) H
theorem a6 (hK:X.K=K:=by rfl):m6 X (.builtin "len") (Uh K):=by subst hK;exact Iz
def RA (K:UR):List V->Hp->VK->Prop:=λxs H Q=>∃ p ys,xs=[.ref p]/\((bc K H p ys/\∀ l,H l=none->Q (.ref l) (upd H l (.tup ys)))∨(gg K H p ys/\Q (.ref p) H))
theorem vD (hK:X.K=K:=by rfl):m6 X (.type "tuple") (RA K):=by subst hK;exact FU
def Q5 (K:UR):List V->Hp->VK->Prop:=λxs H Q=>∃ p ys,xs=[.ref p]/\(bc K H p ys∨gg K H p ys)/\∀ l,H l=none->Q (.ref l) (upd H l (.lst ys))
theorem CI (hK:X.K=K:=by rfl):m6 X (.type "list") (Q5 K):=by subst hK;exact G3
def RV (K:UR):List V->Hp->VK->Prop:=λxs H Q=>∃ (a:Addr) (ps:List Addr) (kvs:List (Key × V)),xs=[.ref a]/\bc K H a (ps.map V.ref)/\Paired (λp kv=>gg K H p [kV kv.1,kv.2]) ps kvs /\
  ∀ p,H p=none->Q (.ref p) (upd H p (.dK (u9 [] kvs)))
theorem Kx (hc:X.calm=true) (hK:X.K=K:=by rfl):m6 X (.type "dict") (RV K):=by subst hK;exact Kp hc
theorem Lg (hc:X.calm=true) (hK:X.K=K:=by rfl):m6 X (.builtin "any") (Tu K):=by subst hK;exact QM hc
theorem Lb (hc:X.calm=true) (hK:X.K=K:=by rfl):m6 X (.builtin "all") (Se K):=by subst hK;exact Rt hc
theorem L7 (hc:X.calm=true) (hK:X.K=K:=by rfl):m6 X (.builtin "sum") (Th K):=by subst hK;exact RG hc
theorem MB (hu:X.A.units+65 < cLine) (hK:X.K=K:=by rfl):Q3 X "list.count" (LM K):=by subst hK;exact MF hu
theorem Ke (hK:X.K=K:=by rfl):Q3 X "tuple.index" (Mb K):=by subst hK;exact Nj
theorem kR {tg l:Expr} {tl:TE} (hl:PE X l tl) (hK:X.K=K:=by rfl):PI X tg l (Qx K tl):=by subst hK;exact Pw hl
theorem Hn {tg l:Expr} {tl:TE} (hl:PE X l tl) (hK:X.K=K:=by rfl):PI X tg l (S9 K tl):=by subst hK;exact QL hl
theorem ai {e:Expr} {f:Str} {pos:Pos} {ta:TE} (he:PE X e ta) (hb:attributeBase e f X.env (eval e X.env)=eval e X.env) (hK:X.K=K:=by rfl):PE X (.Attribute e f pos) (Sn K ta f):=by subst hK;exact RX he hb
theorem aQ {o value:Expr} {f:Str} {pos pos':Pos} {ta tv:TE} (ha:PE X o ta) (hv:PE X value tv) (hs:swapsWith value (some (.Attribute o f pos')) pos.line X.env=pure false) (hK:X.K=K:=by rfl) :
  PS X (.Assign [.Attribute o f pos'] value pos) (Tf K ta tv f):=by subst hK;exact Rf ha hv hs
theorem gX {o value:Expr} {f:Str} {pos tpos:Pos} {ta tv:TE} {op:Operator} {rd:V->V->Hp->VK->Prop} (ha:PE X o ta) (hv:PE X value tv) (hop:O4 X op rd) (hK:X.K=K:=by rfl) :
  PS X (.AugAssign (.Attribute o f tpos) op value pos) (LK K ta tv rd f):=by subst hK;exact MT ha hv hop
def Ro (K:UR) (ta:TE):TT:=λσ H Q=>ta σ H λx H'=>∃ k,Ru K x H' k/\Q k H'
theorem zk {e:Expr} {ta:TE} (ha:PE X e ta) (he:∀ whole,isTrue e X.env whole=(do let v <- whole;standAt e.pos;holding [v] (truthy v))) (hK:X.K=K:=by rfl):PT X e (Ro K ta):=by subst hK;exact Oo ha he
def QQ (K:UR) (te tk:TE):TE:=λσ H Q=>te σ H λx H1=>tk σ H1 λy H2=>∃ (a:Addr) (xs:List V) (k:Int),x=.ref a/\y=.int k/\0 < k/\bc K H2 a xs/\∀ p,H2 p=none->Q (.ref p) (upd H2 p (.lst (JK k xs)))
theorem N2 {e st:Expr} {te tk:TE} {pos p2:Pos} (he:PE X e te) (hk:PE X st tk) (hK:X.K=K:=by rfl):PE X (.Subscript e (.Slice none none (some st) p2) pos) (QQ K te tk):=by subst hK;exact Ml he hk
theorem zR {o e:Expr} {es:List Expr} {T:String} {name:Str} {id:String} {r:V->List V->Hp->VK->Prop} {to:TE} {t:TA} {apos pos:Pos} (pa:PlainAttrs T) (slot:Slot T name id) (hty:typeOf (.builtin id)=pure (.type "method_descriptor")) (hm:Q3 X id r) (ho:PE X o to) (ha:PA X (e::es) t)
  (hbase:attributeBase o name X.env (eval o X.env)=eval o X.env:=by rfl)
  (hfew:((backTo pos (starEach (e::es) X.env)).all (λx=>!x.1)&&(backToKw pos (keywordEach [] X.env)).all (λx=>x.1.isSome)
   && decide ((e::es).length+([]:List Keyword).length+(if ([]:List Keyword).isEmpty then 0 else 1) < 30))=true:=by rfl)
  (hline:(apos.endLine == pos.line)=true:=by rfl) (hs:starEach (e::es) X.env=(false,eval e X.env)::starEach es X.env:=by rfl)
  (hpl:(backTo pos (starEach es X.env)).any (·.1)=false:=by rfl) (hK:X.K=K:=by rfl):PE X (.Call (.Attribute o name apos) (e::es) [] pos) (Uw K T r to t):=by
 subst hK
 exact SH pa slot hty hm ho ha hbase hfew hline hs hpl
def Sm (t:TA):TE:=λσ H Q=>t σ H λxs H1=>xs.length<=sizeLine/\∀ (p:Addr) (o:Obj),H1 p=none->o.cls=.type "tuple"->o.dict=none->Q (.ref p) (upd H1 p (.frz o (.tup xs)))
theorem PF {es:List Expr} {t:TA} {x1:Nat} {pos:Pos} (h:PA X es t):PE X (.Tuple es x1 pos) (Sm t):=by
 intro pins s σ H Q I hq
 refine wpAny_Tuple_spliced (dN (h pos pins s σ H _ I hq) λus s1 ⟨xs,H1,I1,r,z,q⟩=>⟨by rw [<- r.length];exact z,?_⟩)
 have hf:H1 s1.heap.objs.size=none:=I1.dv.fresh (U1 _)
 refine ⟨.ref s1.heap.objs.size,upd H1 s1.heap.objs.size (.frz { cls:=.type "tuple",data:=.seq us.toArray } (.tup xs)),I1.laid (t':=s1.toks) (λb u e=>Heap.get?_push_of_some _ e) (U1 _) ?_,rfl,q _ _ hf rfl rfl⟩
 exact ⟨Heap.get?_push_size _ rfl,z,us,r,⟨_,Heap.get?_push_size _ rfl,rfl,_,rfl⟩⟩
def Uv (T:String) (r:V->List V->Hp->VK->Prop) (to:TE) (t:TA):TE:=λσ H Q=>to σ H λx H1=>(∃ (p:Addr) (o:Obj) (u:HO),x=.ref p/\H1 p=some (.frz o u)/\o.cls=.type T/\o.dict=none)/\t σ H1 λxs H2=>r x xs H2 Q
theorem QR {o e:Expr} {es:List Expr} {T:String} {name:Str} {id:String} {r:V->List V->Hp->VK->Prop} {to:TE} {t:TA} {apos cpos:Pos} (pa:PlainAttrs T) (slot:Slot T name id) (hty:typeOf (.builtin id)=pure (.type "method_descriptor")) (hm:Q3 X id r) (ho:PE X o to) (ha:PA X (e::es) t)
  (hbase:attributeBase o name X.env (eval o X.env)=eval o X.env:=by rfl)
  (hfew:((backTo cpos (starEach (e::es) X.env)).all (λx=>!x.1)&&(backToKw cpos (keywordEach [] X.env)).all (λx=>x.1.isSome)
   && decide ((e::es).length+([]:List Keyword).length+(if ([]:List Keyword).isEmpty then 0 else 1) < 30))=true:=by rfl)
  (hline:(apos.endLine == cpos.line)=true:=by rfl) (hs:starEach (e::es) X.env=(false,eval e X.env)::starEach es X.env:=by rfl) (hplain:(backTo cpos (starEach es X.env)).any (·.1)=false:=by rfl) :
  PE X (.Call (.Attribute o name apos) (e::es) [] cpos) (Uv T r to t):=by
 intro pins s σ H Q I h
 refine wpAny_Call_method_late hbase hfew hline rfl (dN (ho pins s σ H _ I h) λv s1 ⟨x,H1,I1,r1,⟨p,ob,u,ex,hp,hc,hd⟩,q1⟩=>?_)
 subst ex
 obtain rfl:v=Value.ref p:=r1
 obtain ⟨hg,_⟩:=I1.dv p _ hp
 refine ⟨T,id,pa,slot,hty,⟨ob,hg,hc⟩,λa e=>?_,?_⟩
 ·cases e
  exact ⟨ob,hg,hd⟩
 have hA:=ha cpos pins s1 σ H1 _ I1 q1
 rw [hs] at hA ⊢
 refine Calls.callWith_builtin (by show (false || (backTo cpos (starEach es X.env)).any (·.1))=false;rw [hplain]<;>rfl) (Calls.evalArgs_plain ?_)
 exact dN hA λus s2 ⟨vs,H2,I2,r2,q2⟩=>hm pins s2 σ H2 (.ref p) vs (.ref p) us Q I2 rfl r2 q2
end
theorem fE {K:UR} {H:Hp} {p C dx:Addr} {fs:List (Str × V)} {f:Str} {v:V} {Q:V->Prop} (h:H p=some (.ins C dx fs)) (c:zr K C) (n:aU K C f) (l:fs.lookup f=some v) (q:Q v):∃ a C dx fs v,V.ref p=.ref a/\H a=some (.ins C dx fs)/\zr K C/\aU K C f/\fs.lookup f=some v/\Q v:=⟨p,C,dx,fs,v,rfl,h,c,n,l,q⟩
theorem iE {K:UR} {H:Hp} {p:Addr} {xs:List V} {i:Int} {v:V} {Q:V->Prop} (s:bc K H p xs) (e:J9 xs i=some v) (q:Q v):∃ a xs j v,V.ref p=.ref a/\V.int i=.int j/\bc K H a xs/\J9 xs j=some v/\Q v:=⟨p,xs,i,v,rfl,rfl,s,e,q⟩
theorem xE {α β:Type} {x:β} {f:α->β} {Q:α->Prop} {w:α} (e:x=f w) (q:Q w):∃ w,x=f w/\Q w:=⟨w,e,q⟩
theorem mE {H:Hp} {p C dx:Addr} {fs:List (Str × V)} {m:Str} {R:Prop} (h:H p=some (.ins C dx fs)) (l:fs.lookup m=none) (r:R):∃ a dx fs,V.ref p=.ref a/\H a=some (.ins C dx fs)/\fs.lookup m=none/\R:=⟨p,dx,fs,rfl,h,l,r⟩
theorem vF {K:UR} {σ:St} {i:Nat} {H:Hp} {p C dx:Addr} {fs:List (Str × V)} {f:Str} {v:V} {Q:V->Prop} (s:σ[i]?=some (some (.ref p))) (h:H p=some (.ins C dx fs)) (c:zr K C) (n:aU K C f) (l:fs.lookup f=some v) (q:Q v) :
 ∃ x,σ[i]?=some (some x)/\∃ a C dx fs v,x=.ref a/\H a=some (.ins C dx fs)/\zr K C/\aU K C f/\fs.lookup f=some v/\Q v:=⟨_,s,fE h c n l q⟩
theorem vM {σ:St} {i:Nat} {H:Hp} {p C dx:Addr} {fs:List (Str × V)} {m:Str} {R:V->Prop} (s:σ[i]?=some (some (.ref p))) (h:H p=some (.ins C dx fs)) (l:fs.lookup m=none) (r:R (.ref p)) :
 ∃ x,σ[i]?=some (some x)/\∃ a dx fs,x=.ref a/\H a=some (.ins C dx fs)/\fs.lookup m=none/\R x:=⟨_,s,mE h l r⟩
theorem fM {K:UR} {H:Hp} {p C dx p2 C2 dx2:Addr} {fs fs2:List (Str × V)} {f m:Str} {R:V->Prop} (h:H p=some (.ins C dx fs)) (c:zr K C) (n:aU K C f) (l:fs.lookup f=some (.ref p2)) (h2:H p2=some (.ins C2 dx2 fs2)) (l2:fs2.lookup m=none) (r:R (.ref p2)) :
 ∃ a C dx fs v,V.ref p=.ref a/\H a=some (.ins C dx fs)/\zr K C/\aU K C f/\fs.lookup f=some v/\∃ a dx fs,v=.ref a/\H a=some (.ins C2 dx fs)/\fs.lookup m=none/\R v:=fE h c n l (mE h2 l2 r)
theorem DZ {K:UR} {σ:St} {i:Nat} {H:Hp} {p C dx p2 C2 dx2:Addr} {fs fs2:List (Str × V)} {f m:Str} {R:V->Prop} (s:σ[i]?=some (some (.ref p))) (h:H p=some (.ins C dx fs)) (c:zr K C) (n:aU K C f) (l:fs.lookup f=some (.ref p2)) (h2:H p2=some (.ins C2 dx2 fs2)) (l2:fs2.lookup m=none) (r:R (.ref p2)) :
 ∃ x,σ[i]?=some (some x)/\∃ a C dx fs v,x=.ref a/\H a=some (.ins C dx fs)/\zr K C/\aU K C f/\fs.lookup f=some v/\∃ a dx fs,v=.ref a/\H a=some (.ins C2 dx fs)/\fs.lookup m=none/\R v:=⟨_,s,fM h c n l h2 l2 r⟩
theorem sE {K:UR} {H:Hp} {p C dx:Addr} {fs:List (Str × V)} {f:Str} {R:Addr->Addr->Addr->List (Str × V)->Prop} (h:H p=some (.ins C dx fs)) (c:zr K C) (n:aU K C f) (l:fs.length < 1000) (r:R p C dx fs):∃ a C dx fs,V.ref p=.ref a/\H a=some (.ins C dx fs)/\zr K C/\aU K C f/\fs.length < 1000/\R a C dx fs:=⟨p,C,dx,fs,rfl,h,c,n,l,r⟩
theorem vS {K:UR} {σ:St} {i:Nat} {H:Hp} {p C dx:Addr} {fs:List (Str × V)} {f:Str} {R:Addr->Addr->Addr->List (Str × V)->Prop} (s:σ[i]?=some (some (.ref p))) (h:H p=some (.ins C dx fs)) (c:zr K C) (n:aU K C f) (l:fs.length < 1000) (r:R p C dx fs) :
 ∃ x,σ[i]?=some (some x)/\∃ a C dx fs,x=.ref a/\H a=some (.ins C dx fs)/\zr K C/\aU K C f/\fs.length < 1000/\R a C dx fs:=⟨_,s,sE h c n l r⟩
theorem iG {S:Addr->List V->Prop} {p:Addr} {xs:List V} {i:Int} {v:V} {Q:V->Prop} (s:S p xs) (e:J9 xs i=some v) (q:Q v):∃ a xs j v,V.ref p=.ref a/\V.int i=.int j/\S a xs/\J9 xs j=some v/\Q v:=⟨p,xs,i,v,rfl,rfl,s,e,q⟩
theorem dE {H:Hp} {p:Addr} {y v:V} {Q:V->Prop} (g:lH H p y (some v)) (q:Q v):∃ a v,V.ref p=.ref a/\lH H a y (some v)/\Q v:=⟨p,v,rfl,g,q⟩
theorem vI {σ:St} {k:Nat} {S:Addr->List V->Prop} {p:Addr} {xs:List V} {i:Int} {v:V} {Q:V->Prop} (s:σ[k]?=some (some (.ref p))) (h:S p xs) (e:J9 xs i=some v) (q:Q v):∃ x,σ[k]?=some (some x)/\∃ a xs j v,x=.ref a/\V.int i=.int j/\S a xs/\J9 xs j=some v/\Q v:=⟨_,s,iG h e q⟩
theorem x2 {α β γ δ:Type} {x:β} {f:α->β} {y:δ} {g:γ->δ} {Q:α->γ->Prop} {w:α} {u:γ} (e:x=f w) (d:y=g u) (q:Q w u):∃ w,x=f w/\∃ u,y=g u/\Q w u:=⟨w,e,u,d,q⟩
theorem x3 {α β γ δ ε ζ:Type} {x:β} {f:α->β} {y:δ} {g:γ->δ} {z:ζ} {h:ε->ζ} {Q:α->γ->ε->Prop} {w:α} {u:γ} {t:ε} (e:x=f w) (d:y=g u) (c:z=h t) (q:Q w u t):∃ w,x=f w/\∃ u,y=g u/\∃ t,z=h t/\Q w u t:=⟨w,e,u,d,t,c,q⟩
theorem Q9:∀ {k:Key} {v:Value},zL k v=true->RelV (kV k) v:=λ{k v} h=>by
 rcases fi h with ⟨i,t,rfl,rfl⟩ | ⟨x,t,rfl,rfl⟩
 ·exact ⟨t,rfl⟩
 ·exact ⟨t,rfl⟩
section
variable {X:Cx}
theorem NH (hc:X.calm=true):m6 X (.type "list") (λxs H Q=>∃ (d:Addr) (kvs:List (Key × V)),xs=[.ref d]/\H d=some (.dK kvs)/\∀ p,H p=none->Q (.ref p) (upd H p (.lst (kvs.map λkv=>kV kv.1)))):=by
 intro pins s σ H xs us Q I r h
 obtain ⟨d,kvs,rfl,hd,q⟩:=h
 obtain ⟨u,rfl,rx⟩:=vals1 r
 cases rx
 obtain ⟨hz,lo,vs,hkv,hD⟩:=LA I.dv hd
 obtain ⟨ep,hat⟩:=hD.dictAt
 have hl:kvs.length=vs.length:=Paired.length hkv
 refine PySem.W.kdl_call (PySem.W.kdl_dict (knd:=aY X.prog X.w) (kvs:=vs) (ep:=ep) lo) (I.ok.hd hc) hat (by lia) λh' tk acc c' hk hS hI=>?_
 refine ⟨.ref s.heap.objs.size,_,I.laid (t':=tk) (o:=.lst (kvs.map λkv=>kV kv.1)) hk (U1 _) ⟨by rw [UT];exact hz,acc.toList,c',Ie (by rw [UT];simp [hI.1];assumption) λi x u hx hu=>?_,by simpa using hS⟩,rfl,q _ (I.dv.fresh (U1 _))⟩
 have hu':acc[i]?=some u:=by simpa using hu
 obtain ⟨k,y,e1,e2⟩:=hI.2 i u hu'
 rw [Vw] at hx
 cases e3:kvs[i]? with
 | none=>rw [e3] at hx;cases hx
 | some kv =>
  rw [e3] at hx
  cases hx
  have:kv.1=k:=by
   have:=congrArg (λl=>l[i]?) hkv.keys
   simp only [Vw,e3,e1,Option.map_some] at this
   exact Option.some.inj this
  show RelV (kV kv.1) u
  rw [this]
  exact Q9 e2
end
section
variable {P:Program} {w:World} {K:UR} {mg:Str->Option Value} {base:Heap} {a:bF}
theorem ax.laid {H:Hp} {p:Addr} {o:HO} (h:H p=none):ax H (upd H p o):=λb u e=>by rw [ak (aC e h)];exact e
theorem take_snoc {α:Type} {l:List α} {i:Nat} {x:α} (h:l[i]?=some x):l.take (i+1)=l.take i++[x]:=by
 rw [List.take_add_one,h]
 rfl
theorem rT {α β:Type} {f:α->β} {l:List α} {i:Nat} {y:β} (h:(l.map f)[i]?=some y):∃ x,l[i]?=some x/\y=f x:=by
 rw [Vw] at h
 cases e:l[i]? with
 | none=>rw [e] at h;cases h
 | some x=>rw [e] at h;exact ⟨x,rfl,(Option.some.inj h).symm⟩
theorem EZ {σ:St} {H:Hp} {A B:Hp->Prop} (h:A H):Ti σ H (λb H3=>if b=true then A H3 else B H3):=by
 show if true=true then A H else B H
 rw [if_pos rfl]
 exact h
def IG (z:Int):Bool:=decide (0<=z)&&decide (z < 1000)
def Ez (K:UR) (a:bF):Sp:=λvs H Q _=>∃ (p:Addr) (ns:List Int),vs=[.ref p]/\bc K H p (ns.map V.int)/\ns.length < sizeLine/\∀ H',ax H H'->Q (.bl (ns.all IG)) H'
theorem sS (T:Txt K mg a):a7 P w K mg base eQ 1 a.mC a.md ["row"] (Ez K a):=by
 refine T.jM.ok tH ?_ ?_
 ·rintro _ _ _ _ ⟨_,_,rfl,_⟩
  rfl
 ·rintro cdv A outer s H _ Q E hr ⟨p,ns,rfl,hS,hz,k⟩
  refine ⟨_,(ao (aB (aT (Lb (K:=K) rfl) (by rfl) T.Qz CV (aa (xm rfl tH.nd (kR (K:=K) (pv 0)) (eU (own:=[("number",1)]) (by show xC ["row","number"] (aq p5) _ _=true;decide +kernel)) (λ_ _ _ _ _=>ff (i:=1) tH.nd rfl (Or.inl rfl)) (λ_ _ _ _ _=>oP) (λ_ _ _ _ _=>(vW lA J8 aw (pv 1) (aM (by rfl) T.v5)))) aj)))),?_⟩
  refine xE rfl ⟨p,rfl,⟨_,hS⟩,λD hD=>tZ (xs:=ns.map V.int) (λi H'=>H' D=some (.lst ((ns.take i).map λz=>V.bl (IG z)))/\ax H H') ⟨ae,ax.laid hD⟩ (λi H' _ h=>h.2.seq hS) ?_ ?_⟩
  ·rintro i x H' hx ⟨h1,h2⟩
   obtain ⟨z,hz',rfl⟩:=rT hx
   refine ⟨rfl,EZ (xE rfl (TU ⟨_,h1,?_,?_,?_⟩))⟩
   ·rw [UT,Vr];lia
   ·rw [ae,take_snoc hz',Vk];rfl
   ·intro b o e;rw [ak (aC e hD)];exact h2 b o e
  ·rintro H' ⟨h1,h2⟩
   rw [UT,VV] at h1
   refine ⟨D,ns.map IG,rfl,bc.of (by rw [h1,V0];rfl),?_⟩
   rw [List.all_map]
   exact k H' h2
def x4 (K:UR) (a:bF):Sp:=λvs H Q _=>∃ (p:Addr) (ns:List Int),vs=[.ref p]/\bc K H p (ns.map V.int)/\ns.length < sizeLine/\∀ H',ax H H'->Q (.bl ((decide (1<=ns.length)&&decide (ns.length<=6))&&ns.all IG)) H'
theorem zf (T:Txt K mg a):a7 P w K mg base eQ 2 a.eZ a.eS ["row"] (x4 K a):=by
 refine T.iy.ok yk ?_ ?_
 ·rintro _ _ _ _ ⟨_,_,rfl,_⟩
  rfl
 ·rintro cdv A outer s H _ Q E hr ⟨p,ns,rfl,hS,hz,k⟩
  refine ⟨_,(ao (aB (BZ (vW lA lA aw (aT (a6 (K:=K)) (by rfl) T.dM Vd (aa (pv 0) aj)) (aM (by rfl) T.FD)) (B8 (bC (sS (K:=K) T) hr.lo rfl T.mw T.jM.kp T.mh .nil aE (aa (pv 0) aj)))))),?_⟩
  refine xE rfl ⟨p,xE rfl ⟨.inl hS,?_⟩⟩
  have e1:((ns.map V.int).length:Int)=(ns.length:Int):=by rw [UT]
  rw [e1]
  refine ⟨1,xE rfl ⟨rfl,xE rfl ?_⟩⟩
  by_cases h1:(1:Int)<=(ns.length:Int)
  ·rw [decide_eq_true h1]
   refine bf ⟨_,xE rfl ⟨rfl,xE rfl ?_⟩⟩
   by_cases h2:(ns.length:Int)<=6
   ·rw [decide_eq_true h2]
    refine bf (xE rfl ⟨p,ns,rfl,hS,hz,λH' q=>?_⟩)
    have:=k H' q
    rw [decide_eq_true (show 1<=ns.length by lia),decide_eq_true (show ns.length<=6 by lia)] at this
    exact this
   ·rw [decide_eq_false h2]
    have:=k H (ax.refl H)
    rw [decide_eq_false (show ¬ ns.length<=6 by lia),Bool.and_false] at this
    exact bp this
  ·rw [decide_eq_false h1]
   have:=k H (ax.refl H)
   rw [decide_eq_false (show ¬ 1<=ns.length by lia),Wu] at this
   refine bp (xE rfl (bp this))
def o4 (o:U9):List V:=[.int (o.op:Nat),.int (o.x:Nat),.int (o.y:Nat),.int (o.z:Nat)]
def l9 (l:List Nat):List V:=l.map λ(n:Nat)=>V.int (n:Int)
def xB (l:List Nat) (i:Nat):Nat:=l.getD (i % l.length) 0
theorem iu (l:List Nat):(l9 l).length=l.length:=UT ..
theorem Lf {l:List Nat} (h:0 < l.length) (i:Nat):l[i % l.length]?=some (xB l i):=by
 unfold xB
 have e:i % l.length < l.length:=Nat.mod_lt _ h
 rw [VY,VI e]
 rfl
theorem Ax {l:List Nat} (hn:∀ n∈l,n < 1000) (h:0 < l.length) (i:Nat):xB l i < 1000:=hn _ (Vx (Lf h i))
theorem GO {l:List Nat} (h:0 < l.length) {x:Nat}:J9 (l9 l) ((x:Int) % ((l9 l).length:Int))=some (.int (xB l x:Nat)):=by
 refine at_of (j:=x % l.length) (by rw [iu];rfl) ?_
 unfold l9
 rw [Vw,Lf h]
 rfl
theorem ON (x:Nat):decide (V.int (x:Int)=V.int 0)=decide (x=0):=by
 by_cases e:x=0
 ·subst e;rfl
 ·rw [decide_eq_false e,decide_eq_false]
  intro h
  injection h with h
  lia
theorem BP {x y:Int} {A B:Prop} (h1:x=y->A) (h2:¬ x=y->B):if decide (V.int x=V.int y)=true then A else B:=by
 by_cases e:x=y
 ·subst e
  rw [decide_eq_true rfl,if_pos rfl]
  exact h1 rfl
 ·rw [decide_eq_false (λh=>e (by injection h)),if_neg (by decide)]
  exact h2 e
noncomputable def kS (o:U9) (l:List Nat):Int:=if o.op=3 then (o.y:Int) else if o.op=0 then ((xB l o.y:Int)+xB l o.z) % 1000 else if o.op=1 then ((xB l o.y:Int)+1000 - xB l o.z) % 1000 else (xB l o.y:Int) * xB l o.z % 1000
def IF (K:UR) (a:bF):Sp:=λvs H Q _=>∃ (p q:Addr) (o:U9) (l:List Nat),vs=[.ref p,.ref q]/\gg K H p (o4 o)/\gg K H q (l9 l)/\0 < l.length/\(∀ n∈l,n < 1000)/\Q (.int (kS o l)) H
theorem Ho (T:Txt K mg a):a7 P w K mg base eQ 1 a.qF a.qx ["order","numbers"] (IF K a):=by
 refine T.ub.ok rJ ?_ ?_
 ·rintro _ _ _ _ ⟨_,_,_,_,rfl,_⟩
  rfl
 ·rintro cdv A outer s H _ Q E hr ⟨p,q,o,l,rfl,hP,hL,h0,hn,k⟩
  refine ⟨_,(ah (aN (i:=2) rJ.nd rfl (Or.inl rfl) (aJ (bN (K:=K)) (pv 0) aw (λ_ _=>rfl)))
   (ah (bg (a8 ua (pv 2) aw (bo _)) (ao (aB (aJ (bN (K:=K)) (pv 0) aw (λ_ _=>rfl)))) aO)
   (ah (aN (i:=3) rJ.nd rfl (Or.inl rfl) (aJ (bN (K:=K)) (pv 1) (b5 tF (aJ (bN (K:=K)) (pv 0) aw (λ_ _=>rfl)) (aT (a6 (K:=K)) (by rfl) T.dM Vd (aa (pv 1) aj))) (λ_ _=>rfl)))
   (ah (aN (i:=4) rJ.nd rfl (Or.inl rfl) (aJ (bN (K:=K)) (pv 1) (b5 tF (aJ (bN (K:=K)) (pv 0) aw (λ_ _=>rfl)) (aT (a6 (K:=K)) (by rfl) T.dM Vd (aa (pv 1) aj))) (λ_ _=>rfl)))
   (ah (bg (a8 ua (pv 2) aw (bo _)) (ao (aB (b5 tF (b5 zZ (pv 3) (pv 4)) (aM (by rfl) T.v5)))) aO)
   (ah (bg (a8 ua (pv 2) aw (bo _)) (ao (aB (b5 tF (b5 HJ (b5 zZ (pv 3) (aM (by rfl) T.v5)) (pv 4)) (aM (by rfl) T.v5)))) aO)
   (ao (aB (b5 tF (b5 RY (pv 3) (pv 4)) (aM (by rfl) T.v5)))))))))),?_⟩
  have hL0:(0:Int) < ((l9 l).length:Int):=by rw [iu];lia
  refine vI rfl hP (at_of (j:=0) rfl rfl) ?_
  refine xE rfl ⟨rfl,xE rfl ?_⟩
  refine BP (λh3=>?_) λh3=>?_
  ·refine vI rfl hP (at_of (j:=2) rfl rfl) ?_
   have e:kS o l=(o.y:Int):=by unfold kS;rw [if_pos (by lia)]
   rw [e] at k
   exact k
  refine xE rfl (vI rfl hP (at_of (j:=2) rfl rfl) (xE rfl ⟨q,xE rfl ⟨.inr hL,_,xE rfl ⟨rfl,hL0,q,_,_,xE rfl ⟨rfl,hL,GO h0,?_⟩⟩⟩⟩))
  refine xE rfl (vI rfl hP (at_of (j:=3) rfl rfl) (xE rfl ⟨q,xE rfl ⟨.inr hL,_,xE rfl ⟨rfl,hL0,q,_,_,xE rfl ⟨rfl,hL,GO h0,?_⟩⟩⟩⟩))
  refine xE rfl ⟨rfl,xE rfl ?_⟩
  refine BP (λh4=>?_) λh4=>?_
  ·refine x2 rfl rfl ⟨_,xE rfl ⟨rfl,_,xE rfl ⟨rfl,(by show (0:Int) < 1000;decide),?_⟩⟩⟩
   have e:kS o l=((xB l o.y:Int)+xB l o.z) % 1000:=by unfold kS;rw [if_neg (by lia),if_pos (by lia)]
   rw [e] at k
   exact k
  refine xE rfl ⟨rfl,xE rfl ?_⟩
  refine BP (λh5=>?_) λh5=>?_
  ·refine xE rfl ⟨_,xE rfl ⟨rfl,xE rfl ⟨_,xE rfl ⟨rfl,_,xE rfl ⟨rfl,(by show (0:Int) < 1000;decide),?_⟩⟩⟩⟩⟩
   have e:kS o l=((xB l o.y:Int)+1000 - xB l o.z) % 1000:=by unfold kS;rw [if_neg (by lia),if_neg (by lia),if_pos (by lia)]
   rw [e] at k
   exact k
  have b:=Ax hn h0 o.y
  refine x2 rfl rfl ⟨_,xE rfl ⟨rfl,.inl ⟨by exact V7 _,by omega⟩,_,xE rfl ⟨rfl,(by show (0:Int) < 1000;decide),?_⟩⟩⟩
  have e:kS o l=(xB l o.y:Int) * xB l o.z % 1000:=by unfold kS;rw [if_neg (by lia),if_neg (by lia),if_neg (by lia)]
  rw [e] at k
  exact k
def Cc (o:U9) (l:List Nat):Bool:=if o.op=5 then decide (xB l o.x=0) else (decide (o.op=6)&&decide (xB l o.x < xB l o.y))
def Pb (K:UR) (a:bF):Sp:=λvs H Q _=>∃ (p q:Addr) (o:U9) (l:List Nat),vs=[.ref p,.ref q]/\gg K H p (o4 o)/\gg K H q (l9 l)/\0 < l.length/\Q (.bl (Cc o l)) H
theorem Pa (T:Txt K mg a):a7 P w K mg base eQ 1 a.Bv a.A8 ["order","numbers"] (Pb K a):=by
 refine T.Ea.ok Jw ?_ ?_
 ·rintro _ _ _ _ ⟨_,_,_,_,rfl,_⟩
  rfl
 ·rintro cdv A outer s H _ Q E hr ⟨p,q,o,l,rfl,hP,hL,h0,k⟩
  refine ⟨_,(ah (aN (i:=2) Jw.nd rfl (Or.inl rfl) (aJ (bN (K:=K)) (pv 1) (b5 tF (aJ (bN (K:=K)) (pv 0) aw (λ_ _=>rfl)) (aT (a6 (K:=K)) (by rfl) T.dM Vd (aa (pv 1) aj))) (λ_ _=>rfl)))
   (ah (bg (a8 ua (aJ (bN (K:=K)) (pv 0) aw (λ_ _=>rfl)) aw (bo _)) (ao (aB (nP ua (pv 2) aw (bo _)))) aO)
   (ao (aB (BZ (nP ua (aJ (bN (K:=K)) (pv 0) aw (λ_ _=>rfl)) aw (bo _)) (B8 (nP J8 (pv 2) (aJ (bN (K:=K)) (pv 1) (b5 tF (aJ (bN (K:=K)) (pv 0) aw (λ_ _=>rfl)) (aT (a6 (K:=K)) (by rfl) T.dM Vd (aa (pv 1) aj))) (λ_ _=>rfl)) (bo _)))))))),?_⟩
  have hL0:(0:Int) < ((l9 l).length:Int):=by rw [iu];lia
  refine xE rfl (vI rfl hP (at_of (j:=1) rfl rfl) (xE rfl ⟨q,xE rfl ⟨.inr hL,_,xE rfl ⟨rfl,hL0,q,_,_,xE rfl ⟨rfl,hL,GO h0,?_⟩⟩⟩⟩))
  refine vI rfl hP (at_of (j:=0) rfl rfl) ⟨rfl,xE rfl ?_⟩
  refine BP (λh3=>?_) λh3=>?_
  ·refine xE rfl ⟨rfl,?_⟩
   unfold Cc at k
   rw [if_pos (by lia),<- ON] at k
   exact k
  unfold Cc at k
  rw [if_neg (by lia)] at k
  refine vI rfl hP (at_of (j:=0) rfl rfl) ⟨rfl,xE rfl ?_⟩
  refine BP (λh4=>?_) λh4=>?_
  ·refine x2 rfl rfl (vI rfl hP (at_of (j:=2) rfl rfl) (xE rfl ⟨q,xE rfl ⟨.inr hL,_,xE rfl ⟨rfl,hL0,q,_,_,xE rfl ⟨rfl,hL,GO h0,_,xE rfl ⟨rfl,?_⟩⟩⟩⟩⟩))
   rw [decide_eq_true (show o.op=6 by lia),Wg] at k
   have e:decide ((xB l o.x:Int) < (xB l o.y:Int))=decide (xB l o.x < xB l o.y):=by simp only [Int.ofNat_lt]
   rw [<- e] at k
   exact k
  ·rw [decide_eq_false (show ¬ o.op=6 by lia),Wu] at k
   exact k
end
section
variable {P:Program} {w:World} {K:UR} {mg:Str->Option Value} {base:Heap} {a:bF}
theorem AO {o:U9} {l:List Nat} (hy:o.y < 1000):0<=kS o l/\kS o l < 1000:=by
 unfold kS
 split
 ·lia
 ·split
  ·lia
  ·split
   ·lia
   ·lia
theorem Hl (l:List Nat) (i v:Nat):(l9 l).set i (.int (v:Int))=l9 (l.set i v):=by
 unfold l9
 rw [List.map_set]
noncomputable def rj (o:U9) (l:List Nat):List Nat:=if o.op<=3 then l.set (o.x % l.length) (kS o l).toNat else if o.op=4 then (l.set (o.x % l.length) (xB l o.y)).set (o.y % l.length) (xB l o.x) else l
theorem Ew (o:U9) (l:List Nat):(rj o l).length=l.length:=by
 unfold rj
 split
 ·simp
 ·split<;>simp
theorem Hu {n j:Nat} {z:Int} (e:z=(j:Int)) (h:j < n):Pp n z=some j:=by
 subst e
 unfold Pp
 rw [if_pos (V7 j),if_pos (by lia),WM]
theorem gg.same {H H':Hp} {p:Addr} {xs:List V} (e:ax H H') (h:gg K H p xs):gg K H' p xs:=by
 rcases h with (h | ⟨o,h⟩) | h
 ·exact .inl (.inl (e _ _ h))
 ·exact .inl (.inr ⟨o,e _ _ h⟩)
 ·exact .inr h
theorem cO {H H1:Hp} {p:Addr} {o:HO} (e:ax H H1) (h:H p=none):ax H (upd H1 p o):=λb u q=>by
 rw [ak (aC q h)]
 exact e b u q
theorem OU {x y:Int} {A B:Prop} (h1:x<=y->A) (h2:¬ x<=y->B):if decide (x<=y)=true then A else B:=by
 by_cases e:x<=y
 ·rw [decide_eq_true e,if_pos rfl]
  exact h1 e
 ·rw [decide_eq_false e,if_neg (by decide)]
  exact h2 e
def BV (K:UR) (a:bF):Sp:=λvs H Q _=>∃ (p q:Addr) (o:U9) (l:List Nat),vs=[.ref p,.ref q]/\gg K H p (o4 o)/\gg K H q (l9 l)/\0 < l.length/\(∀ n∈l,n < 1000)/\o.y < 1000 /\
 ∀ (H':Hp) (c:Addr),ax H H'->H c=none->H' c=some (.lst (l9 (rj o l)))->Q (.ref c) H'
theorem Cq (T:Txt K mg a):a7 P w K mg base eQ 2 a.jE a.jH ["order","numbers"] (BV K a):=by
 refine T.mL.ok lO ?_ ?_
 ·rintro _ _ _ _ ⟨_,_,_,_,rfl,_⟩
  rfl
 ·rintro cdv A outer s H _ Q E hr ⟨p,q,o,l,rfl,hP,hL,h0,hn,hy,k⟩
  refine ⟨_,(ah (aN (i:=2) lO.nd rfl (Or.inl rfl) (gb (CI (K:=K)) (by rfl) T.Il rK (aa (pv 1) aj)))
   (ah (aN (i:=3) lO.nd rfl (Or.inl rfl) (b5 tF (aJ (bN (K:=K)) (pv 0) aw (λ_ _=>rfl)) (aT (a6 (K:=K)) (by rfl) T.dM Vd (aa (pv 1) aj))))
   (ah (bg (a8 lA (aJ (bN (K:=K)) (pv 0) aw (λ_ _=>rfl)) aw (bo _)) (ao (Kb (bC (Ho (K:=K) T) hr.lo rfl T.yq T.ub.kp T.xK .nil aE (aa (pv 0) (aa (pv 1) aj))) (Ka (pv 2) (pv 3) set_list))) (ao (bg (a8 ua (aJ (bN (K:=K)) (pv 0) aw (λ_ _=>rfl)) aw (bo _)) (ah (aN (i:=4) lO.nd rfl (Or.inl rfl) (b5 tF (aJ (bN (K:=K)) (pv 0) aw (λ_ _=>rfl)) (aT (a6 (K:=K)) (by rfl) T.dM Vd (aa (pv 1) aj))))
   (ah (Kb (aJ (bN (K:=K)) (pv 1) (pv 4) (λ_ _=>rfl)) (Ka (pv 2) (pv 3) set_list))
   (ao (Kb (aJ (bN (K:=K)) (pv 1) (pv 3) (λ_ _=>rfl)) (Ka (pv 2) (pv 4) set_list))))) aO)))
   (ao (aB (pv 2)))))),?_⟩
  have hL0:(0:Int) < ((l9 l).length:Int):=by rw [iu];lia
  have hx:o.x % l.length < l.length:=Nat.mod_lt _ h0
  have hyl:o.y % l.length < l.length:=Nat.mod_lt _ h0
  have ex:((o.x:Int) % ((l9 l).length:Int))=((o.x % l.length:Nat):Int):=by rw [iu];rfl
  have ey:((o.y:Int) % ((l9 l).length:Int))=((o.y % l.length:Nat):Int):=by rw [iu];rfl
  refine xE rfl ⟨q,xE rfl ⟨.inr hL,λc hc=>?_⟩⟩
  have s1:ax H (upd H c (.lst (l9 l))):=ax.laid hc
  have hP1:=gg.same s1 hP
  have hL1:=gg.same s1 hL
  refine vI rfl hP1 (at_of (j:=1) rfl rfl) (xE rfl ⟨q,xE rfl ⟨.inr hL1,_,xE rfl ⟨rfl,hL0,?_⟩⟩⟩)
  refine vI rfl hP1 (at_of (j:=0) rfl rfl) ⟨_,xE rfl ⟨rfl,xE rfl ?_⟩⟩
  refine OU (λh3=>?_) λh3=>?_
  ·refine x2 rfl rfl ⟨p,q,o,l,rfl,hP1,hL1,h0,hn,?_⟩
   refine x2 rfl rfl ⟨c,_,_,xE rfl ⟨rfl,ae,Hu ex (by rw [iu];exact hx),?_⟩⟩
   refine xE rfl ?_
   refine k _ c (cO s1 hc) hc ?_
   rw [ae]
   obtain ⟨v,hv⟩:∃ v:Nat,kS o l=(v:Int):=⟨(kS o l).toNat,by have:=AO (l:=l) hy;lia⟩
   unfold rj
   rw [if_pos (by lia),hv,Hl,WM]
  refine vI rfl hP1 (at_of (j:=0) rfl rfl) ⟨rfl,xE rfl ?_⟩
  refine BP (λh4=>?_) λh4=>?_
  ·refine vI rfl hP1 (at_of (j:=2) rfl rfl) (xE rfl ⟨q,xE rfl ⟨.inr hL1,_,xE rfl ⟨rfl,hL0,?_⟩⟩⟩)
   refine x2 rfl rfl ⟨q,_,_,xE rfl ⟨rfl,hL1,GO h0,x2 rfl rfl ⟨c,_,_,xE rfl ⟨rfl,ae,Hu ex (by rw [iu];exact hx),?_⟩⟩⟩⟩
   have s2:=cO (o:=.lst ((l9 l).set (o.x % l.length) (.int (xB l o.y:Nat)))) s1 hc
   refine x2 rfl rfl ⟨q,_,_,xE rfl ⟨rfl,gg.same s2 hL,GO h0,x2 rfl rfl ⟨c,_,_,xE rfl ⟨rfl,ae,Hu ey (by rw [Vs,iu];exact hyl),?_⟩⟩⟩⟩
   refine xE rfl ?_
   refine k _ c (cO s2 hc) hc ?_
   rw [ae]
   unfold rj
   rw [if_neg (by lia),if_pos (by lia),Hl,Hl]
  ·refine xE rfl ?_
   refine k _ c s1 hc ?_
   unfold rj
   rw [if_neg (by lia),if_neg (by lia)]
   exact ae
end
def BN (o:U9):Prop:=o.op<=7/\o.x < 1000/\o.y < 1000/\o.z < 1000
structure ir (p:List U9) (n:Nat) (s:UU):Prop where
 at_:s.at_ < p.length
 len:s.nums.length=n
 pos:0 < n
 nums:∀ v∈s.nums,v < 1000
theorem zS {l:List Nat} {i v:Nat} (h:∀ x∈l,x < 1000) (hv:v < 1000):∀ x∈l.set i v,x < 1000:=λx hx=>by
 rcases List.mem_or_eq_of_mem_set hx with q | q
 ·exact h x q
 ·lia
theorem MM {o:U9} {l:List Nat} (ho:BN o) (hl:∀ v∈l,v < 1000) (h0:0 < l.length):∀ v∈rj o l,v < 1000:=by
 unfold rj
 split
 ·have:=AO (o:=o) (l:=l) ho.2.2.1
  exact zS hl (by lia)
 ·split
  ·exact zS (zS hl (Ax hl h0 _)) (Ax hl h0 _)
  ·exact hl
theorem KW {o:U9} {l:List Nat} (ho:BN o) (hl:∀ v∈l,v < 1000) (h0:0 < l.length) :
  (kS o l).toNat=(if o.op=3 then o.y else if o.op=0 then xB l o.y+xB l o.z else if o.op=1 then xB l o.y+1000 - xB l o.z % 1000 else xB l o.y * xB l o.z) % 1000:=by
 have h1:=Ax hl h0 o.y
 have h2:=Ax hl h0 o.z
 have h3:=ho.2.2.1
 unfold kS
 split
 ·lia
 ·split
  ·lia
  ·split
   ·lia
   ·have e:(xB l o.y:Int) * (xB l o.z:Int)=((xB l o.y * xB l o.z:Nat):Int):=by push_cast;rfl
    rw [e]
    lia
theorem Lo {p:List U9} {n:Nat} {s:UU} {o:U9} (h:ir p n s) (hp:p[s.at_]?=some o) (ho:BN o) :
  Wb p s=⟨(if Cc o s.nums=true then o.z else s.at_+1) % p.length,rj o s.nums⟩:=by
 have e0:s.at_ % p.length=s.at_:=Nat.mod_eq_of_lt h.at_
 have hl:0 < s.nums.length:=by have:=h.len;have:=h.pos;lia
 have hn:∀ i,Vbapaj.num s i=xB s.nums i:=λi=>rfl
 have pv:=KW ho h.nums hl
 have h1:=Ax h.nums hl o.x
 have h2:=Ax h.nums hl o.y
 unfold Wb
 rw [e0,hp]
 simp only [hn,Vbapaj.withNum,Vbapaj.M]
 unfold Cc rj
 by_cases c0:o.op=0
 ·simp [c0] at pv ⊢
  rw [pv]
 by_cases c1:o.op=1
 ·simp [c1] at pv ⊢
  rw [pv]
 by_cases c2:o.op=2
 ·simp [c2] at pv ⊢
  rw [pv]
 by_cases c3:o.op=3
 ·simp [c3] at pv ⊢
  rw [pv]
 by_cases c4:o.op=4
 ·simp [c4,Nat.mod_eq_of_lt h1,Nat.mod_eq_of_lt h2]
 by_cases c5:o.op=5
 ·simp [c5]
  split<;>rfl
 by_cases c6:o.op=6
 ·simp [c6]
  split<;>rfl
 have h3:=ho.1
 have c7:o.op=7:=by lia
 simp [c7]
theorem Lp {p:List U9} {n:Nat} {s:UU} (h:ir p n s) (hp:∀ o∈p,BN o):ir p n (Wb p s):=by
 obtain ⟨o,ho⟩:∃ o,p[s.at_]?=some o:=⟨_,VI h.at_⟩
 have hl:0 < s.nums.length:=by have:=h.len;have:=h.pos;lia
 have ok:=hp o (Vx ho)
 rw [Lo h ho ok]
 exact ⟨Nat.mod_lt _ (Nat.lt_of_le_of_lt (Vt _) h.at_),by rw [Ew];exact h.len,h.pos,MM ok h.nums hl⟩
theorem z4 (p:List U9):∀ (k:Nat) (s:UU),V1 p (k+1) s=Wb p (V1 p k s)
 | 0,s=>rfl
 | k+1,s=>by
  show V1 p (k+1) (Wb p s)=_
  rw [z4 p k]
  rfl
theorem A6 {p:List U9} {n:Nat} {s:UU} (h:ir p n s) (hp:∀ o∈p,BN o):∀ k,ir p n (V1 p k s)
 | 0=>h
 | k+1=>by
  rw [z4]
  exact Lp (A6 h hp k) hp
def FL (s:UU):List V:=.int (s.at_:Nat)::l9 s.nums
def Uu (lo ls:Addr):List (Str × V):=[("orders",.ref lo),("states",.ref ls)]
structure sg (a:bF) (H:Hp) (r lo ls:Addr) (os ts:List Addr) (prog:List U9) (b:UU):Prop where
 run:∃ dx,H r=some (.ins a.pb dx (Uu lo ls))
 BR:H lo=some (.lst (os.map V.ref))
 Ol:os.length=prog.length
 UA:∀ (i:Nat) (q:Addr) (o:U9),os[i]?=some q->prog[i]?=some o->H q=some (.tup (o4 o))
 ES:H ls=some (.lst (ts.map V.ref))
 KN:0 < ts.length
 ne:lo≠ls
 sat:∀ (i:Nat) (t:Addr),ts[i]?=some t->H t=some (.tup (FL (V1 prog i b)))
structure yM (p:List U9):Prop where
 pos:0 < p.length
 le:p.length<=20
 BR:∀ o∈p,BN o
theorem SU (x:V) (r:List V):zQ (x::r) (some 1) none=r:=by
 unfold zQ HT.p7
 simp
section
variable {P:Program} {w:World} {K:UR} {mg:Str->Option Value} {base:Heap} {a:bF}
theorem OM {σ:St} {H:Hp} {Q:VK} {c:Bool} {ta tb:TE} (v:V) (h1:c=true->∀ Q:VK,Q v H->ta σ H Q) (h2:c=false->∀ Q:VK,Q v H->tb σ H Q) (h:Q v H):if c=true then ta σ H Q else tb σ H Q:=by
 cases c with
 | true=>exact bf (h1 rfl Q h)
 | false=>exact bp (h2 rfl Q h)
theorem L0 {xs:List V} {v:V} (h:xs[xs.length - 1]?=some v):J9 xs (-1)=some v:=by
 have hl:=(Vn.mp h).1
 unfold J9 Pp
 rw [if_neg (by decide),if_pos (by lia)]
 show xs[(-1+(xs.length:Int)).toNat]?=some v
 rw [show (-1+(xs.length:Int)).toNat=xs.length - 1 by lia]
 exact h
def zE (K:UR) (a:bF):Sp:=λvs H Q _=>∃ (r lo ls t:Addr) (os ts:List Addr) (prog:List U9) (b s:UU) (n:Nat),vs=[.ref r,.ref t]/\sg a H r lo ls os ts prog b/\yM prog/\n<=6/\ir prog n s/\gg K H t (FL s) /\
 ∀ (H':Hp) (t':Addr),ax H H'->H t'=none->H' t'=some (.tup (FL (Wb prog s)))->Q (.ref t') H'
theorem l7 (T:Txt K mg a):a7 P w K mg base eQ 3 a.fH a.fT ["self","state"] (zE K a):=by
 refine T.mS.ok iw ?_ ?_
 ·rintro _ _ _ _ ⟨_,_,_,_,_,_,_,_,_,_,rfl,_⟩
  rfl
 ·rintro cdv A outer s H _ Q E hr ⟨r,lo,ls,t,os,ts,prog,b,s0,n,rfl,R,OP,hn6,OS,hT,k⟩
  refine ⟨_,(ah (aN (i:=2) iw.nd rfl (Or.inl rfl) (aJ (az (K:=K)) (ai (K:=K) (pv 0) rfl) (aJ (bN (K:=K)) (pv 1) aw (λ_ _=>rfl)) (λ_ _=>rfl)))
   (ah (aN (i:=3) iw.nd rfl (Or.inl rfl) (AW (Qe (K:=K)) (pv 1) (zw aw) L9))
   (ah (aN (i:=4) iw.nd rfl (Or.inl rfl) (ow (bG (bC (Pa (K:=K) T) hr.lo rfl T.He T.Ea.kp T.HL .nil aE (aa (pv 2) (aa (pv 3) aj)))) (aJ (bN (K:=K)) (pv 2) aw (λ_ _=>rfl)) (b5 zZ (aJ (bN (K:=K)) (pv 1) aw (λ_ _=>rfl)) aw)))
   (ao (aB (gb (vD (K:=K)) (by rfl) T.zo jR (aa (b5 lZ (aS (aa (b5 tF (pv 4) (aT (a6 (K:=K)) (by rfl) T.dM Vd (aa (ai (K:=K) (pv 0) rfl) aj))) aj)) (bC (Cq (K:=K) T) hr.lo rfl T.qP T.mL.kp T.qN .nil aE (aa (pv 2) (aa (pv 3) aj)))) aj))))))),?_⟩
  obtain ⟨dx,hr0⟩:=R.run
  obtain ⟨o,ho⟩:∃ o,prog[s0.at_]?=some o:=⟨_,VI OS.at_⟩
  obtain ⟨q,hq⟩:∃ q,os[s0.at_]?=some q:=⟨_,VI (by rw [R.Ol];exact OS.at_)⟩
  have hQ:=R.UA _ q o hq ho
  have ok:=OP.BR o (Vx ho)
  have hl:0 < s0.nums.length:=by have:=OS.len;have:=OS.pos;lia
  refine vF rfl hr0 T.m7 T.rG rfl (vI rfl hT (at_of (j:=0) rfl rfl) (iE (bc.of R.BR) (at_of (j:=s0.at_) (v:=.ref q) rfl (by rw [Vw,hq];rfl)) ?_))
  refine xE rfl ⟨1,rfl,t,xE rfl ⟨hT,(by show ¬ _;unfold FL HT.p7;simp),λnn hnn=>?_⟩⟩
  have s1:ax H (upd H nn (.tup (zQ (FL s0) (some 1) none))):=ax.laid hnn
  have hN:gg K (upd H nn (.tup (zQ (FL s0) (some 1) none))) nn (l9 s0.nums):=gg.of (by rw [ae];unfold FL;rw [SU])
  refine x2 rfl rfl ⟨q,nn,o,s0.nums,rfl,gg.of (s1 _ _ hQ),hN,hl,xE rfl ?_⟩
  generalize hpl:(if Cc o s0.nums=true then o.z else s0.at_+1:Nat)=pl
  refine OM (.int (pl:Int)) (λhc Q' hq'=>⟨_,rfl,q,_,3,_,rfl,rfl,gg.of (s1 _ _ hQ),at_of (j:=3) (v:=.int (pl:Int)) rfl (by rw [<- hpl,if_pos hc];rfl),hq'⟩)
   (λhc Q' hq'=>⟨_,rfl,t,_,0,_,rfl,rfl,gg.same s1 hT,at_of (j:=0) rfl rfl,_,_,rfl,rfl,(by rw [<- hpl,if_neg (by rw [hc];decide)] at hq';exact hq')⟩) ?_
  refine xE rfl (vF rfl (s1 _ _ hr0) T.m7 T.rG rfl ⟨lo,xE rfl ⟨.inl (bc.of (s1 _ _ R.BR)),_,xE rfl ⟨rfl,?_,?_,λc hc=>?_⟩⟩⟩)
  ·show (0:Int) < ((os.map V.ref).length:Int)
   rw [UT,R.Ol]
   have:=OP.pos
   lia
  ·show 1<=sizeLine
   decide
  have s2:=cO (o:=.lst [.int ((pl:Int) % ((os.map V.ref).length:Int))]) s1 (s1.free hc)
  refine x2 rfl rfl ⟨q,nn,o,s0.nums,rfl,gg.of (s2 _ _ hQ),?_,hl,OS.nums,ok.2.2.1,λH3 d sm hd hd3=>?_⟩
  ·have:=ax.laid (o:=.lst [.int ((pl:Int) % ((os.map V.ref).length:Int))]) hc
   exact gg.same this hN
  refine ⟨c,d,_,xE rfl ⟨rfl,sm _ _ ae,hd3,?_,λe he=>?_⟩⟩
  ·show 1+(l9 (rj o s0.nums)).length<=sizeLine
   rw [iu,Ew,OS.len,sizeLine_eq]
   lia
  have s3:ax H H3:=s2.trans sm
  refine ⟨e,xE rfl (.inl ⟨bc.of ae,λt' ht'=>?_⟩)⟩
  have he3:H e=none:=s3.free he
  have s4:=cO (o:=.lst ([.int ((pl:Int) % ((os.map V.ref).length:Int))]++l9 (rj o s0.nums))) s3 he3
  refine k _ t' (cO s4 (s4.free ht')) (s4.free ht') ?_
  rw [ae,Lo OS ho ok,hpl,UT,R.Ol]
  rfl
def Sk (ls:Addr) (n:Nat) (H:Hp):Nat:=match H ls with
 | some (.lst xs)=>n+1 - xs.length
 | _=>0
def R9 (l:Addr) (H H':Hp):Prop:=∀ b o,H b=some o->b≠l->H' b=some o
def DJ (K:UR) (a:bF):Sp:=λvs H Q _=>∃ (r lo ls:Addr) (os ts:List Addr) (prog:List U9) (b:UU) (n m:Nat),vs=[.ref r,.int (m:Int)]/\sg a H r lo ls os ts prog b/\yM prog/\n<=6/\ir prog n b/\m<=2000/\ts.length<=2001 /\
 ∀ (H':Hp) (t:Addr) (ts':List Addr),R9 ls H H'->sg a H' r lo ls os ts' prog b->ts'.length<=2001->H' t=some (.tup (FL (V1 prog m b)))->Q (.ref t) H'
theorem qM (T:Txt K mg a):a7 P w K mg base eQ 4 a.k9 a.kT ["self","turn"] (DJ K a):=by
 refine T.sM.ok DT ?_ ?_
 ·rintro _ _ _ _ ⟨_,_,_,_,_,_,_,_,_,rfl,_⟩
  rfl
 ·rintro cdv A outer s H _ Q E hr ⟨r,lo,ls,os,ts,prog,b,n,m,rfl,R,OP,hn6,OB,hm,htl,k⟩
  refine ⟨_,(ah (Fb PassesOwn.never (a8 lA (aT (a6 (K:=K)) (by rfl) T.dM Vd (aa (ai (K:=K) (pv 0) rfl) aj)) (pv 1) (bo _)) (ao (bQ (zR (K:=K) WT PySem.F.slot_list_append PySem.F.type_list_append BU (ai (K:=K) (pv 0) rfl) (aa (aI (pv 0) T.m7 T.fu (l7 (K:=K) T) hr.lo T.fW .nil aE (aa (aJ (az (K:=K)) (ai (K:=K) (pv 0) rfl) (QB NM aw) (λ_ _=>rfl)) aj)) aj)))))
   (ao (aB (aJ (az (K:=K)) (ai (K:=K) (pv 0) rfl) (pv 1) (λ_ _=>rfl))))),?_⟩
  refine JU (λσ H'=>σ=[some (.ref r),some (.int (m:Int))]/\∃ ts',R9 ls H H'/\sg a H' r lo ls os ts' prog b/\ts'.length<=2001) (λσ H'=>Sk ls m H') ⟨rfl,ts,λb o e _=>e,R,htl⟩ ?_ ?_
  ·rintro σ H1 ⟨rfl,ts1,bt,R1,hl1⟩
   obtain ⟨dx,hr1⟩:=R1.run
   have lsr:ls≠r:=aV R1.ES hr1 (by intro z;cases z)
   refine vF rfl hr1 T.m7 T.lJ rfl ⟨ls,xE rfl ⟨.inl (bc.of R1.ES),xE rfl ⟨_,xE rfl ⟨rfl,xE rfl ?_⟩⟩⟩⟩
   rw [UT]
   refine OU (λh1=>?_) λh1=>?_
   ·obtain ⟨t1,ht1⟩:∃ t1,ts1[ts1.length - 1]?=some t1:=⟨_,VI (by have:=R1.KN;lia)⟩
    have hS:=R1.sat _ _ ht1
    refine ⟨_,rfl,r,a.pb,dx,_,_,rfl,hr1,T.m7,T.lJ,rfl,.inl ⟨rfl,_,bc.of R1.ES⟩,_,rfl,r,dx,_,rfl,hr1,rfl,_,rfl,r,a.pb,dx,_,_,rfl,hr1,T.m7,T.lJ,rfl,1,rfl,ls,_,_,_,rfl,rfl,bc.of R1.ES,
     L0 (v:=.ref t1) (by rw [UT,Vw,ht1];rfl),?_⟩
    refine ⟨r,lo,ls,t1,os,ts1,prog,b,_,n,rfl,R1,OP,hn6,A6 OB OP.BR _,gg.of hS,λH2 t2 sm ht2 hH2=>?_⟩
    have hls2:=sm _ _ R1.ES
    refine ⟨ls,_,xE rfl ⟨rfl,hls2,by rw [UT,sizeLine_eq];lia,?_⟩⟩
    have keep:∀ (c:Addr) (u:HO),H1 c=some u->c≠ls->upd H2 ls (.lst (ts1.map V.ref++[.ref t2])) c=some u:=λc u e ne=>by
     rw [ak ne]
     exact sm _ _ e
    have ntl:t2≠ls:=λe=>by rw [e] at ht2;rw [R1.ES] at ht2;cases ht2
    refine ⟨⟨rfl,ts1++[t2],λc u e ne=>keep c u (bt c u e ne) ne,⟨⟨dx,keep _ _ hr1 lsr.symm⟩,keep _ _ R1.BR ?_,R1.Ol,λi q o hq ho=>?_,?_,?_,R1.ne,λi t ht=>?_⟩,?_⟩,?_⟩
    ·exact R1.ne
    ·have hq2:=R1.UA i q o hq ho
     exact keep _ _ hq2 (aV hq2 R1.ES (by intro z;cases z))
    ·rw [ae,Vk];rfl
    ·rw [VD];have:=R1.KN;lia
    ·by_cases hi:i < ts1.length
     ·rw [W2 hi] at ht
      have q2:=R1.sat i t ht
      exact keep _ _ q2 (aV q2 R1.ES (by intro z;cases z))
     ·rw [WK (by exact We.mp ‹_›)] at ht
      have hi2:i=ts1.length:=by
       have:=(Vn.mp ht).1
       simp at this
       lia
      subst hi2
      rw [WU] at ht
      cases ht
      rw [ak ntl,hH2]
      have e3:ts1.length=ts1.length - 1+1:=by have:=R1.KN;lia
      rw [e3,z4]
      rfl
    ·rw [VD];simp;lia
    ·unfold Sk
     rw [ae,R1.ES]
     simp only [VD,UT,List.length_singleton]
     lia
   ·obtain ⟨t1,ht1⟩:∃ t1,ts1[m]?=some t1:=⟨_,VI (by lia)⟩
    refine vF rfl hr1 T.m7 T.lJ rfl (xE rfl (iE (bc.of R1.ES) (at_of (j:=m) (v:=.ref t1) rfl (by rw [Vw,ht1];rfl)) ?_))
    exact k H1 t1 ts1 bt R1 hl1 (R1.sat m t1 ht1)
  ·rintro σ H1 Q1 Q2 hq ⟨v,e1,a1,C1,dx1,fs,v',e2,h1,c1,n1,l1,p,ys,e3,hs,v2,e4,i,j,e5,e6,kk,e7,q⟩
   exact ⟨v,e1,a1,C1,dx1,fs,v',e2,h1,c1,n1,l1,p,ys,e3,hs,v2,e4,i,j,e5,e6,kk,e7,hq _ _ q⟩
end
def vZ (o:U9):List Int:=[(o.op:Int),(o.x:Int),(o.y:Int),(o.z:Int)]
def tY (p:List U9):List Int:=p.flatMap vZ
theorem Co (p:List U9):(tY p).length=4 * p.length:=by
 induction p with
 | nil=>rfl
 | cons o r ih=>show (vZ o++tY r).length=4 * (r.length+1);rw [VD,ih];simp [vZ];lia
theorem Fc:∀ {p:List U9} {i:Nat} {o:U9},p[i]?=some o->((tY p).drop (4 * i)).take 4=vZ o
 | [],i,o,h=>by simp at h
 | q::r,0,o,h=>by
  cases h
  show (vZ q++tY r).take 4=vZ q
  rw [List.take_append_of_le_length (by simp [vZ])]
  simp [vZ]
 | q::r,i+1,o,h=>by
  have ih:=Fc (p:=r) (i:=i) (o:=o) (by simpa using h)
  show ((vZ q++tY r).drop (4 * (i+1))).take 4=vZ o
  rw [show 4 * (i+1)=(vZ q).length+4 * i by simp [vZ];lia,List.drop_append,Xk (by exact V8 _ _),Nat.add_sub_cancel_left]
  exact ih
def stepI (k:Int) (ns:List Int):List Int:=(sliceRange 0 (ns.length:Nat) k).filterMap (ns[·]?)
theorem M7 (k:Int) (ns:List Int):JK k (ns.map V.int)=(stepI k ns).map V.int:=by
 unfold JK stepI
 rw [UT,List.map_filterMap]
 congr 1
 funext i
 rw [Vw]
def nH (ns:List Int):Bool:=(decide (ns.length % 4=0)&&(decide (1<=ns.length / 4)&&decide (ns.length / 4<=20)))&&(ns.all IG&&(stepI 4 ns).all λz=>decide (z<=7))
section
variable {P:Program} {w:World} {K:UR} {mg:Str->Option Value} {base:Heap} {a:bF}
def F9 (m n:Nat) (ns:List Int):Bool:=decide (ns.length=n+1)&&match ns with
 | []=>false
 | z::r=>(decide (0<=z)&&decide (z < (m:Int)))&&r.all IG
theorem Qk (s:UU):(FL s).length=s.nums.length+1:=by
 unfold FL
 rw [Vj,iu]
theorem Eh {x y:Int} {A B:Prop} (h1:¬ x=y->A) (h2:x=y->B):if (!decide (V.int x=V.int y))=true then A else B:=by
 by_cases e:x=y
 ·subst e
  rw [decide_eq_true rfl]
  exact bp (h2 rfl)
 ·rw [decide_eq_false (λh=>e (by injection h))]
  exact bf (h1 e)
def Du (K:UR) (a:bF):Sp:=λvs H Q _=>∃ (r lo ls p:Addr) (os ts:List Addr) (prog:List U9) (b:UU) (ns:List Int),vs=[.ref r,.ref p]/\sg a H r lo ls os ts prog b/\bc K H p (ns.map V.int)/\ns.length<=100 /\
 ∀ H':Hp,ax H H'->Q (.bl (F9 prog.length b.nums.length ns)) H'
theorem xi (T:Txt K mg a):a7 P w K mg base eQ 2 a.kg a.kq ["self","row"] (Du K a):=by
 refine T.sU.ok DP ?_ ?_
 ·rintro _ _ _ _ ⟨_,_,_,_,_,_,_,_,_,rfl,_⟩
  rfl
 ·rintro cdv A outer s H _ Q E hr ⟨r,lo,ls,p,os,ts,prog,b,ns,rfl,R,hS,hz,k⟩
  refine ⟨_,(ah (bg (a8 Fy (aT (a6 (K:=K)) (by rfl) T.dM Vd (aa (pv 1) aj)) (aT (a6 (K:=K)) (by rfl) T.dM Vd (aa (aJ (az (K:=K)) (ai (K:=K) (pv 0) rfl) aw (λ_ _=>rfl)) aj)) (bo _)) (ao (aB Ed)) aO)
   (ao (aB (BZ (vW lA J8 aw (aJ (az (K:=K)) (pv 1) aw (λ_ _=>rfl)) (aT (a6 (K:=K)) (by rfl) T.dM Vd (aa (ai (K:=K) (pv 0) rfl) aj))) (B8 (bC (sS (K:=K) T) hr.lo rfl T.mw T.jM.kp T.mh .nil aE (aa (AW (Fw (K:=K)) (pv 1) (zw aw) L9) aj))))))),?_⟩
  obtain ⟨dx,hr0⟩:=R.run
  obtain ⟨t0,ht0⟩:∃ t0,ts[0]?=some t0:=⟨_,VI R.KN⟩
  have hT0:H t0=some (.tup (FL b)):=R.sat 0 t0 ht0
  refine xE rfl ⟨p,xE rfl ⟨.inl hS,vF rfl hr0 T.m7 T.lJ rfl (iE (bc.of R.ES) (at_of (j:=0) (v:=.ref t0) rfl (by rw [Vw,ht0];rfl)) ⟨t0,xE rfl ⟨.inr (gg.of hT0),rfl,xE rfl ?_⟩⟩)⟩⟩
  rw [UT,Qk]
  refine Eh (λhne=>?_) λheq=>?_
  ·have:=k H (ax.refl H)
   unfold F9 at this
   rw [decide_eq_false (by lia),Wu] at this
   exact this
  match ns,hS,hz,k,heq with
  | [],_,_,_,heq=>exact absurd heq (by simp;lia)
  | z::rest,hS,hz,k,heq =>
   have e0:(z::rest).length=b.nums.length+1:=by lia
   unfold F9 at k
   rw [decide_eq_true e0,Wg] at k
   have k:∀ H':Hp,ax H H'->Q (V.bl ((decide (0<=z)&&decide (z < (prog.length:Int)))&&rest.all IG)) H':=k
   refine vI rfl hS (at_of (j:=0) rfl rfl) ⟨0,z,rfl,rfl,xE rfl ?_⟩
   by_cases c1:(0:Int)<=z
   ·rw [decide_eq_true c1] at k ⊢
    refine bf (vF rfl hr0 T.m7 T.rG rfl ⟨lo,xE rfl ⟨.inl (bc.of R.BR),_,xE rfl ⟨rfl,xE rfl ?_⟩⟩⟩)
    rw [UT,R.Ol]
    by_cases c2:z < (prog.length:Int)
    ·rw [decide_eq_true c2] at k ⊢
     refine bf (xE rfl ⟨1,rfl,p,xE rfl ⟨hS,λc hc=>⟨c,rest,rfl,bc.of ?_,?_,λH' sm=>?_⟩⟩⟩)
     ·rw [ae,Vc,SU]
     ·rw [sizeLine_eq];simp at hz;lia
     ·exact k H' ((ax.laid hc).trans sm)
    ·rw [decide_eq_false c2] at k ⊢
     exact bp (k H (ax.refl H))
   ·rw [decide_eq_false c1] at k ⊢
    exact bp (xE rfl (bp (k H (ax.refl H))))
def Gb (K:UR) (a:bF):Sp:=λvs H Q _=>∃ (p:Addr) (ns:List Int),vs=[.ref p]/\bc K H p (ns.map V.int)/\ns.length<=100/\∀ H',ax H H'->Q (.bl (nH ns)) H'
theorem F6 (T:Txt K mg a):a7 P w K mg base eQ 2 a.oz a.nX ["row"] (Gb K a):=by
 refine T.rB.ok uS ?_ ?_
 ·rintro _ _ _ _ ⟨_,_,rfl,_⟩
  rfl
 ·rintro cdv A outer s H _ Q E hr ⟨p,ns,rfl,hS,hz,k⟩
  refine ⟨_,(ah (bg (PW.pt (GG (a8 Fy (b5 tF (aT (a6 (K:=K)) (by rfl) T.dM Vd (aa (pv 0) aj)) (aM (by rfl) T.kr)) aw (bo _)) (Cy (ia (y4 lA lA aw (b5 Bk (aT (a6 (K:=K)) (by rfl) T.dM Vd (aa (pv 0) aj)) (aM (by rfl) T.kr)) (aM (by rfl) T.FX)))))) (ao (aB Ed)) aO)
   (ao (aB (BZ (bC (sS (K:=K) T) hr.lo rfl T.mw T.jM.kp T.mh .nil aE (aa (pv 0) aj)) (B8 (aT (Lb (K:=K) rfl) (by rfl) T.Qz CV (aa (xm rfl uS.nd (kR (K:=K) (N2 (K:=K) (pv 0) (aM (by rfl) T.kr))) (eU (own:=[("op",1)]) (by show xC ["row","op"] (aq rH) _ _=true;decide +kernel)) (λ_ _ _ _ _=>ff (i:=1) uS.nd rfl (Or.inl rfl)) (λ_ _ _ _ _=>oP) (λ_ _ _ _ _=>(nP lA (pv 1) (aM (by rfl) T.Nb) (bo _)))) aj))))))),?_⟩
  have kF:nH ns=false->Q (.bl false) H:=λe=>by have:=k H (ax.refl H);rw [e] at this;exact this
  refine xE rfl ⟨p,xE rfl ⟨.inl hS,_,xE rfl ⟨rfl,(by show (0:Int) < 4;decide),rfl,xE rfl ?_⟩⟩⟩
  rw [UT]
  refine Eh (λh4=>?_) λh4=>?_
  ·refine bf (kF ?_)
   unfold nH
   rw [decide_eq_false (show ¬ ns.length % 4=0 by lia),Wu,Wu]
  have h4':ns.length % 4=0:=by lia
  refine xE rfl ⟨p,xE rfl ⟨.inl hS,_,xE rfl ⟨rfl,⟨by decide,by decide⟩,1,xE rfl ⟨rfl,xE rfl ?_⟩⟩⟩⟩
  rw [UT]
  by_cases c1:(1:Int)<=(ns.length:Int) / 4
  ·rw [decide_eq_true c1]
   refine bf ⟨_,xE rfl ⟨rfl,xE rfl ?_⟩⟩
   by_cases c2:(ns.length:Int) / 4<=20
   ·rw [decide_eq_true c2]
    refine bp ?_
    refine xE rfl ⟨p,ns,rfl,hS,by rw [sizeLine_eq];lia,λH1 s1=>xE rfl ?_⟩
    have eP:nH ns=(ns.all IG&&(stepI 4 ns).all λz=>decide (z<=7)):=by
     unfold nH
     rw [decide_eq_true h4',decide_eq_true (show 1<=ns.length / 4 by lia),decide_eq_true (show ns.length / 4<=20 by lia)]
     rfl
    rw [eP] at k
    cases hA:ns.all IG with
    | false =>
     rw [hA] at k
     exact bp (k H1 s1)
    | true =>
     rw [hA,Wg] at k
     refine bf (xE rfl ⟨p,_,4,rfl,rfl,by decide,s1.seq hS,λc hc=>⟨c,rfl,⟨_,bc.of ae⟩,λD hD=>?_⟩⟩)
     rw [M7] at hD ⊢
     have s2:ax H (upd H1 c (.lst ((stepI 4 ns).map V.int))):=cO s1 (s1.free hc)
     have hlen:(stepI 4 ns).length<=100:=by
      have:=List.length_filterMap_le (λi:Nat=>ns[i]?) (sliceRange 0 (ns.length:Nat) 4)
      have:=sliceRange_length_le 0 (ns.length:Nat) 4 ns.length (λ_=>⟨Int.le_refl _,Int.le_refl _⟩) (λz=>absurd (by decide) z)
      unfold stepI
      lia
     refine tZ (xs:=(stepI 4 ns).map V.int) (λi H'=>H' D=some (.lst (((stepI 4 ns).take i).map λz=>V.bl (decide (z<=7))))/\ax (upd H1 c (.lst ((stepI 4 ns).map V.int))) H') ⟨ae,ax.laid hD⟩ (λi H' _ h=>bc.of (h.2 _ _ ae)) ?_ ?_
     ·rintro i x H' hx ⟨h1,h2⟩
      obtain ⟨z,hz',rfl⟩:=rT hx
      refine ⟨rfl,EZ (xE rfl ⟨_,xE rfl ⟨rfl,_,h1,?_,?_,?_⟩⟩)⟩
      ·rw [UT,Vr,sizeLine_eq];lia
      ·rw [ae,take_snoc hz',Vk];rfl
      ·exact cO h2 hD
     ·rintro H' ⟨h1,h2⟩
      rw [UT,VV] at h1
      refine ⟨D,(stepI 4 ns).map λz=>decide (z<=7),rfl,bc.of (by rw [h1,V0];rfl),?_⟩
      rw [List.all_map]
      exact k H' (s2.trans h2)
   ·rw [decide_eq_false c2]
    refine bf (kF ?_)
    unfold nH
    rw [decide_eq_false (show ¬ ns.length / 4<=20 by lia)]
    simp
  ·rw [decide_eq_false c1]
   refine bp (xE rfl (bf (kF ?_)))
   unfold nH
   rw [decide_eq_false (show ¬ 1<=ns.length / 4 by lia)]
   simp
theorem Nf {lo c:Int} {n:Nat} {g:TG} {tt:TT} {te:TE} {vs:List Nat} {σ:St} {H1:Hp} {D:Addr} {Qd:Hp->Prop} (Pv:Nat->Hp->Prop) (h0:Pv 0 (upd H1 D (.lst [])))
  (hs:∀ i H,i < n->Pv i H->g (.int (lo+(i:Nat) * c)) (wipe σ vs) H λσ2 H2=>wipe σ2 vs=wipe σ vs/\tt σ2 H2 λb H3 =>
   if b=true then te σ2 H3 λy H4=>∃ acc,H4 D=some (.lst acc)/\acc.length < sizeLine/\Pv (i+1) (upd H4 D (.lst (acc++[y]))) else Pv (i+1) H3) (hd:∀ H,Pv n H->Qd H) :
  ∃ W:Nat->Nat->Hp->Prop,(∃ m,W 0 m (upd H1 D (.lst [])))/\∀ i m H,W i m H ->
   ((Sh lo c n).stop i H/\Qd H)∨((Sh lo c n).go i H/\∃ Nx:Hp->Prop,(∀ H',Nx H'->∃ m',m' < m/\W (i+1) m' H')/\∀ x H',(Sh lo c n).Ql i H x H'->g x (wipe σ vs) H' λσ2 H2=>wipe σ2 vs=wipe σ vs/\tt σ2 H2 λb H3 =>
    if b=true then te σ2 H3 λy H4=>∃ acc,H4 D=some (.lst acc)/\acc.length < sizeLine/\Nx (upd H4 D (.lst (acc++[y]))) else Nx H3):=by
 refine ⟨λi m H=>m=n - i/\i<=n/\Pv i H,⟨n,by simp,Vt _,h0⟩,?_⟩
 rintro i m H ⟨rfl,hi,p⟩
 by_cases hlt:i < n
 ·refine .inr ⟨hlt,Pv (i+1),λH' p'=>⟨n - (i+1),by lia,rfl,hlt,p'⟩,λx H' y=>?_⟩
  obtain ⟨e,y⟩:=y
  subst e y
  exact hs i _ hlt p
 ·have e:i=n:=by lia
  subst e
  exact .inl ⟨U1 _,hd H p⟩
theorem QH:∀ n:Fin 21,Builtin.Range.small 0 ((4 * n.val:Nat):Int) 4=true:=by decide +kernel
theorem Ub (xs:List V) (i:Nat):zQ xs (some ((4 * i:Nat):Int)) (some ((4 * i+4:Nat):Int))=(xs.drop (4 * i)).take 4:=by
 unfold zQ
 rw [HT.DW,HT.DW]
 by_cases h:4 * i<=xs.length
 ·rw [WV h]
  by_cases h2:4 * i+4<=xs.length
  ·rw [WV h2,show 4 * i+4 - 4 * i=4 by lia]
  ·rw [Nat.min_eq_right (by lia),List.take_of_length_le (by rw [W4];exact U1 _),List.take_of_length_le (by rw [W4];lia)]
 ·rw [Xk (show xs.length<=4 * i by lia),Xk (show xs.length<=min (4 * i) xs.length by lia)]
  simp
def NS (H:Hp) (os:List Addr) (prog:List U9):Prop:=os.length=prog.length/\∀ (i:Nat) (q:Addr) (o:U9),os[i]?=some q->prog[i]?=some o->H q=some (.tup (o4 o))
def HC (K:UR) (a:bF):Sp:=λvs H Q _=>∃ (p:Addr) (prog:List U9),vs=[.ref p]/\bc K H p ((tY prog).map V.int)/\prog.length<=20 /\
 ∀ (H':Hp) (c:Addr) (os:List Addr),ax H H'->H c=none->H' c=some (.lst (os.map V.ref))->NS H' os prog->Q (.ref c) H'
theorem HB (T:Txt K mg a):a7 P w K mg base eQ 1 a.qw a.qm ["row"] (HC K a):=by
 refine T.uk.ok wR ?_ ?_
 ·rintro _ _ _ _ ⟨_,_,rfl,_⟩
  rfl
 ·rintro cdv A outer s H _ Q E hr ⟨p,prog,rfl,hS,hz,k⟩
  refine ⟨_,(ao (aB (xm rfl wR.nd (Nk rfl T.D8 (aa aw (aa (aT (a6 (K:=K)) (by rfl) T.dM Vd (aa (pv 0) aj)) (aa (aM (by rfl) T.kr) aj)))) (eU (own:=[("at",1)]) (by show xC ["row","at"] (aq uC) _ _=true;decide +kernel)) (λ_ _ _ _ _=>ff (i:=1) wR.nd rfl (Or.inl rfl)) (λ_ _ _ _ _=>oP) (λ_ _ _ _ _=>(gb (vD (K:=K)) (by rfl) T.zo jR (aa (AW (Fw (K:=K)) (pv 0) (zw (pv 1)) (zw (b5 zZ (pv 1) (aM (by rfl) T.kr)))) aj)))))),?_⟩
  refine xE rfl ⟨p,xE rfl ⟨.inl hS,0,_,4,prog.length,rfl,⟨by decide,by decide,?_,?_⟩,λD hD=>Nf (λi H'=>∃ os,H' D=some (.lst (os.map V.ref))/\NS H' os (prog.take i)/\ax H H') ⟨[],ae,⟨rfl,λi q o h=>by simp at h⟩,ax.laid hD⟩ ?_ ?_⟩⟩
  ·rw [UT,Co]
   exact QH ⟨prog.length,by lia⟩
  ·rw [UT,Co]
   unfold Builtin.Range.rangeSize
   rw [if_pos (by decide)]
   by_cases h0:(0:Int) < ((4 * prog.length:Nat):Int)
   ·rw [if_pos h0]
    lia
   ·rw [if_neg h0]
    lia
  ·rintro i H1 hi ⟨os,h1,h2,s1⟩
   obtain ⟨o,ho⟩:∃ o,prog[i]?=some o:=⟨_,VI hi⟩
   have eC:zQ ((tY prog).map V.int) (some (0+(i:Int) * 4)) (some (0+(i:Int) * 4+4))=o4 o:=by
    rw [show (0+(i:Int) * 4)=((4 * i:Nat):Int) by push_cast;lia,show ((4 * i:Nat):Int)+4=((4 * i+4:Nat):Int) by push_cast;rfl,Ub,<- List.map_drop,<- List.map_take,Fc ho]
    rfl
   have ol:os.length=i:=by have:=h2.1;rw [Vr] at this;lia
   refine ⟨rfl,EZ (x2 rfl rfl (x2 rfl rfl ⟨_,xE rfl ⟨rfl,xE rfl ⟨p,xE rfl ⟨s1.seq hS,λc hc=>⟨c,xE rfl (.inl ⟨bc.of ae,λt ht=>?_⟩)⟩⟩⟩⟩⟩))⟩
   rw [eC] at ht ⊢
   have nDc:D≠c:=aC h1 hc
   have s2:ax H1 (upd H1 c (.lst (o4 o))):=ax.laid hc
   have nDt:D≠t:=aC (s2 _ _ h1) ht
   have s3:ax H1 (upd (upd H1 c (.lst (o4 o))) t (.tup (o4 o))):=s2.trans (ax.laid ht)
   refine ⟨os.map V.ref,s3 _ _ h1,?_,os++[t],?_,⟨?_,λj q o' hq ho'=>?_⟩,cO (s1.trans s3) hD⟩
   ·rw [UT,sizeLine_eq];lia
   ·rw [ae,Vk];rfl
   ·rw [VD,Vr];simp;lia
   ·by_cases hj:j < os.length
    ·rw [W2 hj] at hq
     have ho2:(prog.take i)[j]?=some o':=by rw [Xg (by lia)] at ho' ⊢;exact ho'
     have q2:=h2.2 j q o' hq ho2
     rw [ak (aV q2 h1 (by intro z;cases z))]
     exact s3 _ _ q2
    ·have hj2:j=os.length:=by
      have:=(Vn.mp hq).1
      simp at this
      lia
     subst hj2
     rw [WK (U1 _),WU] at hq
     cases hq
     rw [Xg (by lia),ol,ho] at ho'
     cases ho'
     rw [ak nDt.symm,ae]
  ·rintro H1 ⟨os,h1,h2,s1⟩
   rw [VV] at h2
   exact k H1 D os s1 hD h1 h2
def Jl (K:UR) (a:bF):Sp:=λvs H Q _=>∃ (r dx p f:Addr) (prog:List U9) (nums:List Nat),vs=[.ref r,.ref p,.ref f]/\H r=some (.ins a.pb dx [])/\H p=some (.lst ((tY prog).map V.int))/\H f=some (.lst (l9 nums))/\prog.length<=20/\nums.length<=6 /\
 ∀ (H':Hp) (lo ls:Addr) (os ts:List Addr),(∀ b o,H b=some o->b≠r->H' b=some o)->H lo=none->H ls=none->sg a H' r lo ls os ts prog ⟨0,nums⟩->ts.length=1->Q .dF H'
theorem Jz (T:Txt K mg a):a7 P w K mg base eQ 2 a.sA a.sR ["self","program","first"] (Jl K a):=by
 refine T.AI.ok JL ?_ ?_
 ·rintro _ _ _ _ ⟨_,_,_,_,_,_,rfl,_⟩
  rfl
 ·rintro cdv A outer s H _ Q E hr ⟨r,dx,p,f,prog,nums,rfl,hr0,hp,hf,hz,hn,k⟩
  refine ⟨_,(ah (aQ (K:=K) (pv 0) (bC (HB (K:=K) T) hr.lo rfl T.xM T.uk.kp T.yN .nil aE (aa (pv 1) aj)) rfl)
   (ao (aQ (K:=K) (pv 0) (aS (aa (gb (vD (K:=K)) (by rfl) T.zo jR (aa (b5 lZ (aS (aa aw aj)) (pv 2)) aj)) aj)) rfl))),?_⟩
  refine xE rfl ⟨p,prog,rfl,bc.of hp,hz,λH1 lo os s1 hlo0 hlo1 hO=>?_⟩
  refine xE rfl ⟨r,a.pb,dx,[],rfl,s1 _ _ hr0,T.m7,T.rG,by show 0 < 1000;decide,?_⟩
  have hr1:=s1 _ _ hr0
  have ner:∀ {b:Addr} {xs:List V},H1 b=some (.lst xs)->b≠r:=λe=>aV e hr1 (by intro z;cases z)
  have ner2:∀ {b:Addr} {xs:List V},H1 b=some (.tup xs)->b≠r:=λe=>aV e hr1 (by intro z;cases z)
  generalize hH2:upd H1 r (HO.ins a.pb dx (aZ (Str.ofString "orders") (V.ref lo) []))=H2
  have B2:∀ b o,H1 b=some o->b≠r->H2 b=some o:=λb o e ne=>by rw [<- hH2,ak ne];exact e
  have hr2:H2 r=some (.ins a.pb dx [("orders",.ref lo)]):=by rw [<- hH2,ae];rfl
  have hf2:H2 f=some (.lst (l9 nums)):=B2 _ _ (s1 _ _ hf) (ner (s1 _ _ hf))
  refine ⟨nG,λc hc=>xE rfl ⟨c,f,_,xE rfl ⟨rfl,ae,(by rw [ak (aC hf2 hc)];exact hf2),?_,λe he=>⟨e,xE rfl (.inl ⟨bc.of ae,λt ht=>⟨nG,λls hls=>?_⟩⟩)⟩⟩⟩⟩
  ·show 1+(l9 nums).length<=sizeLine
   rw [iu,sizeLine_eq]
   lia
  have s5:=(ax.trans (ax.laid (o:=.lst [.int 0]) hc) (ax.laid (o:=.lst ([.int 0]++l9 nums)) he)).trans (ax.laid (o:=.tup ([.int 0]++l9 nums)) ht)
  have s6:=s5.trans (ax.laid (o:=.lst [.ref t]) hls)
  refine vS rfl (s6 _ _ hr2) T.m7 T.lJ (by show 1 < 1000;decide) ?_
  have ls0:H1 ls=none:=by
   cases q:H1 ls with
   | none=>rfl
   | some o =>
    have h2:=s5.free hls
    have nr:ls≠r:=λz=>by rw [z,hr2] at h2;cases h2
    rw [B2 _ _ q nr] at h2
    cases h2
  have q4:=(ax.trans (ax.laid (o:=.lst [V.int 0]) hc) (ax.laid (o:=.lst ([V.int 0]++l9 nums)) he)) r _ hr2
  have tr:t≠r:=λz=>by rw [z,q4] at ht;cases ht
  have lr:ls≠r:=λz=>by rw [z,s5 _ _ hr2] at hls;cases hls
  refine k _ lo ls os [t] (λb o e ne=>by rw [ak ne];exact s6 _ _ (B2 _ _ (s1 _ _ e) ne)) hlo0 (s1.free ls0) ⟨⟨dx,?_⟩,?_,hO.1,λi q o hq ho=>?_,?_,Nat.zero_lt_one,aC hlo1 ls0,λi u hu=>?_⟩ rfl
  ·rw [ae];rfl
  ·rw [ak (ner hlo1)];exact s6 _ _ (B2 _ _ hlo1 (ner hlo1))
  ·have q2:=hO.2 i q o hq ho
   rw [ak (ner2 q2)]
   exact s6 _ _ (B2 _ _ q2 (ner2 q2))
  ·rw [ak lr,ae];rfl
  ·match i,hu with
   | 0,hu =>
    cases hu
    rw [ak tr,ak (aC (ae) hls),ae]
    rfl
   | i+1,hu=>simp at hu
end
abbrev Tl:=List (Nat × List (Option UU))
def dw (g:Tl) (t:Nat):Option (List (Option UU)):=(g.find? λp=>decide (p.1=t)).map (·.2)
def zG (g:Tl) (t:Nat) (v:List (Option UU)):Tl:=if g.any (λp=>decide (p.1=t)) then g.map (λp=>if p.1=t then (p.1,v) else p) else g++[(t,v)]
def wg (g:Tl) (t:Nat):Tl:=g.filter λp=>decide (p.1≠t)
def rA (g:Tl):Nat:=(g.map λp=>p.2.length).sum
def kY (b:List VF) (t:Nat):List VF:=b.filter λx=>decide (x.turn=t)
structure TB (g:Tl) (b:List VF):Prop where
 nd:(g.map (·.1)).Nodup
 no:∀ t,dw g t=none->kY b t=[]
 is:∀ t l,dw g t=some l->l≠[]/\l.reverse=(kY b t).map (·.says)
 sum:rA g=b.length
theorem TB.nil:TB [] []:=⟨by simp,λ_ _=>rfl,λt l h=>by simp [dw] at h,rfl⟩
theorem FJ {g:Tl} {t:Nat}:dw g t=none ↔ ∀ p∈g,p.1≠t:=by
 unfold dw
 rw [Option.map_eq_none_iff,WW]
 simp
theorem LF {g:Tl} {t:Nat} (h:¬ (g.any (λp=>decide (p.1=t)))=true):∀ q∈g,¬ q.1=t:=λq hq e=>h (WQ.mpr ⟨q,hq,decide_eq_true e⟩)
theorem GH (g:Tl) (t u:Nat) (v:List (Option UU)):dw (zG g t v) u=if u=t then some v else dw g u:=by
 unfold zG
 split
 ·rename_i h
  induction g with
  | nil=>simp at h
  | cons p r ih =>
   unfold dw at ih ⊢
   rw [Vc,Vy,Vy]
   by_cases hp:p.1=t
   ·rw [if_pos hp]
    by_cases hu:u=t
    ·subst hu
     simp [hp]
    ·rw [if_neg hu]
     have n1:¬ p.1=u:=λe=>hu (by rw [<- e,hp])
     simp only [n1,decide_false]
     by_cases hr:(r.any λp=>decide (p.1=t))=true
     ·have:=ih hr
      rw [if_neg hu] at this
      exact this
     ·have hr':∀ q∈r,¬ q.1=t:=LF hr
      congr 2
      rw [Wc (g:=id) (λq hq=>by rw [if_neg (hr' q hq)];rfl),List.map_id]
   ·rw [if_neg hp]
    have hr:(r.any λp=>decide (p.1=t))=true:=by simpa [hp] using h
    have:=ih hr
    by_cases hu:p.1=u
    ·have hut:¬ u=t:=λe=>hp (by rw [hu,e])
     simp [hu,hut]
    ·simp only [hu,decide_false]
     exact this
 ·rename_i h
  have h':∀ q∈g,¬ q.1=t:=LF h
  unfold dw
  rw [List.find?_append]
  by_cases hu:u=t
  ·subst hu
   have:g.find? (λp=>decide (p.1=u))=none:=by rw [WW];intro q hq;simpa using h' q hq
   rw [this]
   simp
  ·rw [if_neg hu]
   cases e:g.find? (λp=>decide (p.1=u)) with
   | none =>
    have hn:¬ t=u:=λz=>hu z.symm
    simp [hn]
   | some q=>rfl
theorem NC {g:Tl} {t:Nat} {v:List (Option UU)} (h:(g.map (·.1)).Nodup):((zG g t v).map (·.1)).Nodup:=by
 unfold zG
 split
 ·have e:(g.map (λp=>if p.1=t then (p.1,v) else p)).map (·.1)=g.map (·.1):=by
   rw [V0]
   exact Wc λp _=>by show (if p.1=t then (p.1,v) else p).1=p.1;split<;>rfl
  rw [e]
  exact h
 ·rename_i hn
  have h':∀ q∈g,¬ q.1=t:=LF hn
  rw [Vk]
  refine HD h λm=>?_
  obtain ⟨q,hq,e⟩:=Vb.mp m
  exact h' q hq e
theorem Mu {g:Tl} {t:Nat} {v:List (Option UU)} (h:(g.map (·.1)).Nodup):rA (zG g t v)+((dw g t).getD []).length=rA g+v.length:=by
 unfold zG
 split
 ·rename_i hy
  induction g with
  | nil=>simp at hy
  | cons p r ih =>
   have hnd:¬ p.1∈r.map (·.1)/\(r.map (·.1)).Nodup:=V9.mp h
   unfold rA dw at ih ⊢
   rw [Vc,Vc,Wo,Vc,Wo,Vy]
   by_cases hp:p.1=t
   ·have hr':∀ q∈r,¬ q.1=t:=λq hq e=>hnd.1 (Vb.mpr ⟨q,hq,by rw [e,hp]⟩)
    rw [if_pos hp,Wc (g:=id) (λq hq=>by rw [if_neg (hr' q hq)];rfl),List.map_id]
    simp only [hp,decide_true,Option.map_some,Option.getD_some]
    lia
   ·have hr:(r.any λp=>decide (p.1=t))=true:=by simpa [hp] using hy
    have:=ih hnd.2 hr
    rw [if_neg hp]
    simp only [hp,decide_false]
    lia
 ·rename_i hn
  have h':∀ q∈g,¬ q.1=t:=LF hn
  have e:dw g t=none:=FJ.mpr h'
  rw [e]
  unfold rA
  rw [Vk,List.sum_append]
  simp
theorem TB.tell {g:Tl} {b:List VF} (h:TB g b) (t:Nat) (s:Option UU):TB (zG g t ((dw g t).getD []++[s])) ({ turn:=t,says:=s }::b):=by
 have hof:∀ u,kY ({ turn:=t,says:=s }::b) u=if u=t then { turn:=t,says:=s }::kY b t else kY b u:=λu=>by
  unfold kY
  rw [Ve]
  by_cases hu:u=t
  ·subst hu;simp
  ·have:¬ t=u:=λe=>hu e.symm
   simp [hu,this]
 refine ⟨NC h.nd,λu hu=>?_,λu l hu=>?_,?_⟩
 ·rw [GH] at hu
  rw [hof]
  by_cases e:u=t
  ·rw [if_pos e] at hu;cases hu
  ·rw [if_neg e] at hu ⊢;exact h.no u hu
 ·rw [GH] at hu
  rw [hof]
  by_cases e:u=t
  ·rw [if_pos e] at hu ⊢
   cases hu
   refine ⟨by simp,?_⟩
   rw [List.reverse_append,Vc]
   cases q:dw g t with
   | none =>
    rw [h.no t q]
    rfl
   | some l =>
    show _::(l.reverse)=_
    rw [(h.is t l q).2]
  ·rw [if_neg e] at hu ⊢;exact h.is u l hu
 ·have:=Mu (g:=g) (t:=t) (v:=(dw g t).getD []++[s]) h.nd
  rw [VD] at this
  have e:=h.sum
  simp at this ⊢
  lia
theorem E4 (g:Tl) (t u:Nat):dw (wg g t) u=if u=t then none else dw g u:=by
 by_cases hu:u=t
 ·rw [if_pos hu]
  refine FJ.mpr λp hp e=>?_
  have:=(V5.mp hp).2
  simp at this
  exact this (by rw [e,hu])
 ·rw [if_neg hu]
  unfold dw wg
  congr 1
  induction g with
  | nil=>rfl
  | cons p r ih =>
   rw [Ve,Vy]
   by_cases hp:p.1=t
   ·have n1:¬ p.1=u:=λe=>hu (by rw [<- e,hp])
    have n2:(decide (p.1≠t))=false:=by simp [hp]
    rw [n2,if_neg (by decide)]
    simp only [n1,decide_false]
    exact ih
   ·have n2:(decide (p.1≠t))=true:=by simp [hp]
    rw [n2,if_pos rfl,Vy,ih]
theorem MX {g:Tl} {t:Nat} (h:(g.map (·.1)).Nodup):((wg g t).map (·.1)).Nodup:=List.Nodup.sublist (List.Sublist.map _ (List.filter_sublist)) h
theorem EI:∀ {g:Tl} {t:Nat},(g.map (·.1)).Nodup->rA (wg g t)+((dw g t).getD []).length=rA g
 | [],t,_=>rfl
 | p::r,t,h=>by
  have hnd:¬ p.1∈r.map (·.1)/\(r.map (·.1)).Nodup:=V9.mp h
  have ih:=EI (g:=r) (t:=t) hnd.2
  unfold rA wg dw at ih ⊢
  rw [Ve,Vy,Vc,Wo]
  by_cases hp:p.1=t
  ·have hr':∀ q∈r,¬ q.1=t:=λq hq e=>hnd.1 (Vb.mpr ⟨q,hq,by rw [e,hp]⟩)
   have n2:(decide (p.1≠t))=false:=by simp [hp]
   rw [n2,if_neg (by decide)]
   have n3:r.find? (λp=>decide (p.1=t))=none:=by rw [WW];intro q hq;simpa using hr' q hq
   rw [n3] at ih
   simp only [hp,decide_true,Option.map_some,Option.getD_some]
   simp at ih
   simp
   lia
  ·have n2:(decide (p.1≠t))=true:=by simp [hp]
   rw [n2,if_pos rfl,Vc,Wo]
   simp only [hp,decide_false]
   lia
theorem TB.len {g:Tl} {b:List VF} (h:TB g b) (t:Nat):((dw g t).getD []).length=(kY b t).length:=by
 cases q:dw g t with
 | none=>rw [h.no t q];rfl
 | some l =>
  have:=congrArg List.length (h.is t l q).2
  rw [List.length_reverse,UT] at this
  exact this
theorem Oc (b:List VF) (t:Nat):(b.filter λx=>x.turn != t).length+(kY b t).length=b.length:=by
 unfold kY
 induction b with
 | nil=>rfl
 | cons x r ih =>
  rw [Ve,Ve]
  by_cases hx:x.turn=t
  ·simp [hx];lia
  ·simp [hx];lia
theorem TB.back {g:Tl} {b:List VF} (h:TB g b) (t:Nat):TB (wg g t) (b.filter λx=>x.turn != t):=by
 have hof:∀ u,¬ u=t->kY (b.filter λx=>x.turn != t) u=kY b u:=λu hu=>by
  unfold kY
  rw [List.filter_filter]
  refine List.filter_congr λx _=>?_
  by_cases hx:x.turn=u
  ·have:¬ x.turn=t:=λe=>hu (by rw [<- hx,e])
   simp [hx,hu]
  ·simp [hx]
 have hot:kY (b.filter λx=>x.turn != t) t=[]:=by
  unfold kY
  rw [List.filter_filter,List.filter_eq_nil_iff]
  intro x _
  by_cases hx:x.turn=t<;>simp [hx]
 refine ⟨MX h.nd,λu hu=>?_,λu l hu=>?_,?_⟩
 ·rw [E4] at hu
  by_cases e:u=t
  ·rw [e];exact hot
  ·rw [if_neg e] at hu;rw [hof u e];exact h.no u hu
 ·rw [E4] at hu
  by_cases e:u=t
  ·rw [if_pos e] at hu;cases hu
  ·rw [if_neg e] at hu;rw [hof u e];exact h.is u l hu
 ·have h1:=EI (g:=g) (t:=t) h.nd
  have h2:=h.len t
  have h3:=Oc b t
  have h4:=h.sum
  lia
theorem TB.says {g:Tl} {b:List VF} (h:TB g b) (t:Nat):(b.find? λx=>x.turn == t).map (·.says)=(dw g t).bind λl=>l.getLast?:=by
 have e:b.find? (λx=>x.turn == t)=(kY b t).head?:=by
  unfold kY
  rw [List.head?_filter]
  congr 1
 rw [e,<- List.head?_map]
 cases q:dw g t with
 | none=>rw [h.no t q];rfl
 | some l =>
  rw [<- (h.is t l q).2,List.head?_reverse]
  rfl
section
variable {β:Type}
def zc (g:List (Nat × β)) (t:Nat):Option β:=(g.find? λp=>decide (p.1=t)).map (·.2)
def C0 (g:List (Nat × β)) (t:Nat) (v:β):List (Nat × β):=if g.any (λp=>decide (p.1=t)) then g.map (λp=>if p.1=t then (p.1,v) else p) else g++[(t,v)]
def Hm (g:List (Nat × β)) (t:Nat):List (Nat × β):=g.filter λp=>decide (p.1≠t)
theorem Cv (i t:Nat):decide ((Sum.inl (i:Int):Key)=Sum.inl (t:Int))=decide (i=t):=by
 by_cases e:i=t
 ·subst e;simp
 ·rw [decide_eq_false e,decide_eq_false]
  intro h
  injection h with h
  lia
theorem key_ne (i t:Nat):decide ((Sum.inl (i:Int):Key)≠Sum.inl (t:Int))=decide (i≠t):=by
 have:=Cv i t
 by_cases e:i=t
 ·subst e;simp
 ·rw [decide_eq_false e] at this
  have h:=of_decide_eq_false this
  rw [decide_eq_true h,decide_eq_true e]
def DR (S:V->β->Prop) (kvs:List (Key × V)) (g:List (Nat × β)):Prop:=Paired (λ(kv:Key × V) (p:Nat × β)=>kv.1=Sum.inl ((p.1:Nat):Int)/\S kv.2 p.2) kvs g
variable {S S':V->β->Prop}
theorem DR.len {kvs:List (Key × V)} {g:List (Nat × β)} (h:DR S kvs g):kvs.length=g.length:=Paired.length h
theorem DR.get:∀ {kvs:List (Key × V)} {g:List (Nat × β)},DR S kvs g->∀ t:Nat,(zc g t=none/\k7 kvs (Sum.inl (t:Int))=none)∨∃ b v,zc g t=some b/\k7 kvs (Sum.inl (t:Int))=some v/\S v b
 | _,_,.nil,t=>.inl ⟨rfl,rfl⟩
 | kv::kvs,p::g,.cons r h,t=>by
  have ih:=DR.get h t
  unfold zc k7 at ih ⊢
  rw [Vy,Vy,r.1,Cv]
  by_cases e:p.1=t
  ·rw [decide_eq_true e]
   exact .inr ⟨p.2,kv.2,rfl,rfl,r.2⟩
  ·rw [decide_eq_false e]
   exact ih
theorem DR.any {t:Nat}:∀ {kvs:List (Key × V)} {g:List (Nat × β)},DR S kvs g->(kvs.any λkv=>decide (kv.1=Sum.inl (t:Int)))=g.any λp=>decide (p.1=t)
 | _,_,.nil=>rfl
 | kv::kvs,p::g,.cons r h=>by rw [VP,VP,r.1,Cv,DR.any h]
theorem DR.snoc:∀ {kvs:List (Key × V)} {g:List (Nat × β)} {t:Nat} {v:V} {b:β},DR S kvs g->S v b->DR S (kvs++[(Sum.inl (t:Int),v)]) (g++[(t,b)])
 | _,_,_,_,_,.nil,s=>.cons ⟨rfl,s⟩ .nil
 | _,_,_,_,_,.cons r h,s=>.cons r (DR.snoc h s)
theorem DR.map {t:Nat} {v:V} {b:β} (s:S v b):∀ {kvs:List (Key × V)} {g:List (Nat × β)},DR S kvs g->DR S (kvs.map λkv=>if kv.1=Sum.inl (t:Int) then (kv.1,v) else kv) (g.map λp=>if p.1=t then (p.1,b) else p)
 | _,_,.nil=>.nil
 | kv::kvs,p::g,.cons r h=>by
  refine .cons ?_ (DR.map s h)
  have k:=Cv p.1 t
  show (if kv.1=Sum.inl (t:Int) then (kv.1,v) else kv).1=Sum.inl (((if p.1=t then (p.1,b) else p).1:Nat):Int)/\S (if kv.1=Sum.inl (t:Int) then (kv.1,v) else kv).2 (if p.1=t then (p.1,b) else p).2
  by_cases e:p.1=t
  ·rw [if_pos e,if_pos (by rw [r.1,e])]
   exact ⟨r.1,s⟩
  ·rw [decide_eq_false e] at k
   rw [if_neg e,if_neg (by rw [r.1];exact of_decide_eq_false k)]
   exact r
theorem DR.put {kvs:List (Key × V)} {g:List (Nat × β)} {t:Nat} {v:V} {b:β} (h:DR S kvs g) (s:S v b):DR S (putK kvs (Sum.inl (t:Int)) v) (C0 g t b):=by
 unfold putK C0
 rw [h.any]
 split
 ·exact DR.map s h
 ·exact DR.snoc h s
theorem DR.drop {t:Nat}:∀ {kvs:List (Key × V)} {g:List (Nat × β)},DR S kvs g->DR S (uh kvs (Sum.inl (t:Int))) (Hm g t)
 | _,_,.nil=>.nil
 | kv::kvs,p::g,.cons r h=>by
  have ih:=DR.drop (t:=t) h
  unfold uh Hm at ih ⊢
  rw [Ve,Ve,r.1,key_ne]
  split
  ·exact .cons r ih
  ·exact ih
theorem DR.imp (f:∀ v b,S v b->S' v b):∀ {kvs:List (Key × V)} {g:List (Nat × β)},DR S kvs g->DR S' kvs g
 | _,_,.nil=>.nil
 | _,_,.cons r h=>.cons ⟨r.1,f _ _ r.2⟩ (DR.imp f h)
theorem DR.at:∀ {kvs:List (Key × V)} {g:List (Nat × β)} {i:Nat} {kv:Key × V},DR S kvs g->kvs[i]?=some kv->∃ p,g[i]?=some p/\kv.1=Sum.inl ((p.1:Nat):Int)/\S kv.2 p.2
 | _,_,i,kv,.nil,e=>by simp at e
 | _,_,0,kv,.cons r h,e=>by cases e;exact ⟨_,rfl,r⟩
 | _,_,i+1,kv,.cons r h,e=>by
  obtain ⟨p,q1,q2⟩:=DR.at (i:=i) h (by simpa using e)
  exact ⟨p,by simpa using q1,q2⟩
end
def Keeps (l:List Addr) (H H':Hp):Prop:=∀ b o,H b=some o->¬ b∈l->H' b=some o
theorem Keeps.refl (l:List Addr) (H:Hp):Keeps l H H:=λ_ _ e _=>e
theorem Keeps.trans {l:List Addr} {H H1 H2:Hp} (a:Keeps l H H1) (b:Keeps l H1 H2):Keeps l H H2:=λc o e n=>b c o (a c o e n) n
theorem Keeps.same {l:List Addr} {H H1:Hp} (s:ax H H1):Keeps l H H1:=λb o e _=>s b o e
theorem Keeps.upd {l:List Addr} {H:Hp} {p:Addr} {o:HO} (m:p∈l):Keeps l H (upd H p o):=λb u e n=>by
 rw [ak (λz=>n (by rw [z];exact m))]
 exact e
theorem Keeps.free {l:List Addr} {H H':Hp} (k:Keeps l H H') {p:Addr} (h:H' p=none) (n:¬ p∈l):H p=none:=by
 cases q:H p with
 | none=>rfl
 | some o =>
  rw [k p o q n] at h
  cases h
theorem Keeps.wide {l m:List Addr} {H H':Hp} (k:Keeps l H H') (s:∀ x∈l,x∈m):Keeps m H H':=λb o e n=>k b o e λz=>n (s b z)
theorem Lc {d:Addr} {ob:Obj} {kvs:List (Key × V)} {g:TG} {tt:TT} {te:TE} {vs:List Nat} {σ:St} {H1:Hp} {D:Addr} {Qd:Hp->Prop} (Pv:Nat->Hp->Prop) (h0:Pv 0 (upd H1 D (.lst []))) (hl:∀ i H,i<=kvs.length->Pv i H->H d=some (.frz ob (.dK kvs)))
  (hs:∀ i k x H,kvs[i]?=some (k,x)->Pv i H->g x (wipe σ vs) H λσ2 H2=>wipe σ2 vs=wipe σ vs/\tt σ2 H2 λb H3 =>
   if b=true then te σ2 H3 λy H4=>∃ acc,H4 D=some (.lst acc)/\acc.length < sizeLine/\Pv (i+1) (upd H4 D (.lst (acc++[y]))) else Pv (i+1) H3) (hd:∀ H,Pv kvs.length H->Qd H) :
  ∃ W:Nat->Nat->Hp->Prop,(∃ m,W 0 m (upd H1 D (.lst [])))/\∀ i m H,W i m H ->
   ((Tb d ob kvs).stop i H/\Qd H)∨((Tb d ob kvs).go i H/\∃ Nx:Hp->Prop,(∀ H',Nx H'->∃ m',m' < m/\W (i+1) m' H')/\∀ x H',(Tb d ob kvs).Ql i H x H'->g x (wipe σ vs) H' λσ2 H2=>wipe σ2 vs=wipe σ vs/\tt σ2 H2 λb H3 =>
    if b=true then te σ2 H3 λy H4=>∃ acc,H4 D=some (.lst acc)/\acc.length < sizeLine/\Nx (upd H4 D (.lst (acc++[y]))) else Nx H3):=by
 refine ⟨λi m H=>m=kvs.length - i/\i<=kvs.length/\Pv i H,⟨kvs.length,by simp,Vt _,h0⟩,?_⟩
 rintro i m H ⟨rfl,hi,p⟩
 have q:=hl i H hi p
 by_cases hlt:i < kvs.length
 ·refine .inr ⟨⟨q,hlt⟩,Pv (i+1),λH' p'=>⟨kvs.length - (i+1),by lia,rfl,hlt,p'⟩,λx H' y=>?_⟩
  obtain ⟨e,k,y⟩:=y
  subst e
  exact hs i k x _ y p
 ·have e:i=kvs.length:=by lia
  subst e
  exact .inl ⟨⟨q,U1 _⟩,hd H p⟩
def kj (H:Hp) (v:V) (s:Option UU):Prop:=match s with
 | none=>v=.dF
 | some r=>∃ q,v=.ref q/\H q=some (.tup (FL r))
def CO (bad:List Addr) (H:Hp) (v:V) (l:List (Option UU)):Prop:=∃ (ad:Addr) (vs:List V),v=.ref ad/\¬ ad∈bad/\H ad=some (.lst vs)/\Paired (kj H) vs l
def uP (bad:List Addr) (H:Hp) (t:Addr) (g:Tl):Prop:=∃ kvs,H t=some (.dK kvs)/\DR (CO bad H) kvs g
noncomputable def Sr (st:Nat) (out:Bool) (t h:Addr):List (Str × V):=[("stake",.int (st:Int)),("out",.bl out),("tellings",.ref t),("heard",.ref h)]
def tf (a:bF) (H:Hp) (p t h:Addr) (st:Nat) (out:Bool):Prop:=∃ dx,H p=some (.ins a.gU dx (Sr st out t h))
theorem kj.qh {H H':Hp} {v:V} {s:Option UU} (k:∀ b xs,H b=some (.tup xs)->H' b=some (.tup xs)) (h:kj H v s):kj H' v s:=by
 cases s with
 | none=>exact h
 | some r =>
  obtain ⟨q,e,hq⟩:=h
  exact ⟨q,e,k _ _ hq⟩
theorem um {H H':Hp} (k:∀ b xs,H b=some (.tup xs)->H' b=some (.tup xs)):∀ {vs:List V} {l:List (Option UU)},Paired (kj H) vs l->Paired (kj H') vs l
 | _,_,.nil=>.nil
 | _,_,.cons r h=>.cons (r.qh k) (um k h)
theorem CO.qh {bad l:List Addr} {H H':Hp} {v:V} {x:List (Option UU)} (k:∀ b xs,H b=some (.tup xs)->H' b=some (.tup xs)) (kl:∀ b xs,H b=some (.lst xs)->¬ b∈bad->H' b=some (.lst xs)) (h:CO bad H v x):CO bad H' v x:=by
 obtain ⟨ad,vs,e,n,hv,hp⟩:=h
 exact ⟨ad,vs,e,n,kl _ _ hv n,um k hp⟩
theorem qD {α β:Type} {F:α->β->Prop}:∀ {l:List α} {m:List β} {x:α} {y:β},Paired F l m->F x y->Paired F (l++[x]) (m++[y])
 | _,_,_,_,.nil,h=>.cons h .nil
 | _,_,_,_,.cons r t,h=>.cons r (qD t h)
theorem CT {α β:Type} {F:α->β->Prop}:∀ {l:List α} {m:List β},Paired F l m->l≠[]->∃ x y,l[l.length - 1]?=some x/\m.getLast?=some y/\F x y
 | _,_,.nil,h=>absurd rfl h
 | [x],[y],.cons r .nil,_=>⟨x,y,rfl,rfl,r⟩
 | x::x2::l,y::y2::m,.cons r (.cons r2 t),_=>by
  obtain ⟨u,v,h1,h2,h3⟩:=CT (l:=x2::l) (m:=y2::m) (.cons r2 t) (by simp)
  exact ⟨u,v,by simpa using h1,by simpa [List.getLast?_cons_cons] using h2,h3⟩
section
variable {P:Program} {w:World} {K:UR} {mg:Str->Option Value} {base:Heap} {a:bF}
def Hr (K:UR) (a:bF):Sp:=λvs H Q _=>∃ (p dx:Addr) (st:Nat),vs=[.ref p,.int (st:Int)]/\H p=some (.ins a.gU dx []) /\
 ∀ (H':Hp) (t h:Addr),Keeps [p] H H'->H t=none->H h=none->t≠h->tf a H' p t h st false->H' t=some (.dK [])->H' h=some (.dK [])->Q .dF H'
theorem HG (T:Txt K mg a):a7 P w K mg base eQ 1 a.qA a.qy ["self","stake"] (Hr K a):=by
 refine T.yp.ok Hb ?_ ?_
 ·rintro _ _ _ _ ⟨_,_,_,rfl,_⟩
  rfl
 ·rintro cdv A outer s H _ Q E hr ⟨p,dx,st,rfl,hp,k⟩
  refine ⟨_,(ah (aQ (K:=K) (pv 0) (pv 1) rfl)
   (ah (aQ (K:=K) (pv 0) Ed rfl)
   (ah (aQ (K:=K) (pv 0) EE rfl)
   (ao (aQ (K:=K) (pv 0) EE rfl))))),?_⟩
  refine xE rfl (vS rfl hp T.bK T.dQ (by show 0 < 1000;decide) ?_)
  refine vS rfl ae T.bK T.mY (by show 1 < 1000;decide) ?_
  rw [b6]
  refine λt ht=>?_
  have nt:t≠p:=λz=>by rw [z,ae] at ht;cases ht
  have ht0:H t=none:=by rw [ak nt] at ht;exact ht
  refine vS rfl (by rw [ak nt.symm];exact ae) T.bK T.eN (by show 2 < 1000;decide) ?_
  refine λh hh=>?_
  have nh:h≠p:=λz=>by rw [z,ae] at hh;cases hh
  have nth:t≠h:=λz=>by rw [<- z,ak nt,ae] at hh;cases hh
  have hh0:H h=none:=by rw [ak nh,ak nth.symm,ak nh] at hh;exact hh
  refine vS rfl (by rw [ak nh.symm];exact ae) T.bK T.lP (by show 3 < 1000;decide) ?_
  refine k _ t h (λb o e n=>?_) ht0 hh0 nth ⟨dx,ae⟩ ?_ ?_
  ·have nb:b≠p:=λz=>n (by rw [z];exact UX.mpr rfl)
   rw [ak nb,ak (aC e hh0),ak nb,ak (aC e ht0),ak nb]
   exact e
  ·rw [ak nt,ak nth,ak nt,ae]
  ·rw [ak nh,ae]
def HI (K:UR) (a:bF):Sp:=λvs H Q _=>∃ (p t h:Addr) (st:Nat) (out:Bool) (n:Nat) (v:V) (s:Option UU) (bad:List Addr) (g:Tl),vs=[.ref p,.int (n:Int),v]/\tf a H p t h st out/\uP bad H t g/\kj H v s/\g.length<=1000/\(∀ l,dw g n=some l->l.length<=1000)/\(∀ x∈bad,H x≠none) /\
 ∀ (H':Hp),Keeps [t] H H'->uP bad H' t (zG g n ((dw g n).getD []++[s]))->Q .dF H'
theorem Hw (T:Txt K mg a):a7 P w K mg base eQ 1 a.qe a.qo ["self","turn","state"] (HI K a):=by
 refine T.x5.ok Iy ?_ ?_
 ·rintro _ _ _ _ ⟨_,_,_,_,_,_,_,_,_,_,rfl,_⟩
  rfl
 ·rintro cdv A outer s H _ Q E hr ⟨p,t,h,st,out,n,v,s0,bad,g,rfl,⟨dx,hp⟩,⟨kvs,ht,hD⟩,hv,hg,hgl,hb,k⟩
  refine ⟨_,(ao (HY (mF hr) (ai (K:=K) (pv 0) rfl) (pv 1) (b5 lZ (Oa (mF hr) (ai (K:=K) (pv 0) rfl) (pv 1) (aS aj) ⟨rfl,rfl,rfl,rfl⟩) (aS (aa (pv 2) aj))) rfl)),?_⟩
  have hz:=sizeLine_eq
  have pt:p≠t:=aV hp ht (by intro z;cases z)
  refine vF rfl hp T.bK T.eN rfl ⟨t,rfl,.inl ⟨_,.inl ht⟩,xE rfl ⟨Uy,λe he=>⟨_,lH.k (k:=Sum.inl (n:Int)) (ax.laid he _ _ ht),?_⟩⟩⟩
  obtain ⟨ad,vs,e1,e2,e3,e4⟩:∃ ad vs,(k7 kvs (Sum.inl (n:Int))).getD (.ref e)=.ref ad/\upd H e (.lst []) ad=some (.lst vs)/\Paired (kj H) vs ((dw g n).getD [])/\vs.length<=1000:=by
   rcases hD.get n with ⟨q1,q2⟩ | ⟨l,v',q1,q2,ad,vs,rfl,_,q3,q4⟩
   ·rw [q2,show dw g n=none from q1]
    exact ⟨e,[],rfl,ae,.nil,Vt _⟩
   ·have q1:dw g n=some l:=q1
    rw [q2,q1]
    exact ⟨ad,vs,rfl,ax.laid he _ _ q3,q4,by rw [Paired.length q4];exact hgl l q1⟩
  rw [e1]
  refine xE rfl ⟨nG,λc hc=>⟨ad,c,vs,xE rfl ⟨rfl,ax.laid hc _ _ e2,ae,by show vs.length+1<=sizeLine;lia,λl hl=>?_⟩⟩⟩
  have s3:=(ax.trans (ax.laid (o:=.lst []) he) (ax.laid (o:=.lst [v]) hc)).trans (ax.laid (o:=.lst (vs++[v])) hl)
  have hl0:H l=none:=(ax.trans (ax.laid (o:=.lst []) he) (ax.laid (o:=.lst [v]) hc)).free hl
  refine vF rfl (s3 _ _ hp) T.bK T.eN rfl (xE rfl ⟨t,xE rfl ⟨Ih.k (k:=Sum.inl (n:Int)) (s3 _ _ ht) (by rw [hD.len];lia),?_⟩⟩)
  have lt:l≠t:=λz=>by rw [z,ht] at hl0;cases hl0
  have kt:∀ b xs,H b=some (.tup xs)->upd (upd (upd (upd H e (.lst [])) c (.lst [v])) l (.lst (vs++[v]))) t (.dK (putK kvs (Sum.inl (n:Int)) (.ref l))) b=some (.tup xs):=λb xs q=>by
   rw [ak (aV q ht (by intro z;cases z))]
   exact s3 _ _ q
  refine k _ (λb o q nb=>?_) ⟨_,ae,?_⟩
  ·rw [ak (λz=>nb (by rw [z];exact UX.mpr rfl))]
   exact s3 _ _ q
  ·refine DR.put (DR.imp (λv' l' hh=>CO.qh (l:=[]) kt (λb xs q nb=>?_) hh) hD) ⟨l,vs++[v],rfl,λm=>hb l m hl0,?_,qD (um kt e3) (hv.qh kt)⟩
   ·rw [ak (aV q ht (by intro z;cases z))]
    exact s3 _ _ q
   ·rw [ak lt,ae]
def A9 (K:UR) (a:bF):Sp:=λvs H Q _=>∃ (p t h:Addr) (st:Nat) (out:Bool) (n:Nat) (bad:List Addr) (g:Tl),vs=[.ref p,.int (n:Int)]/\tf a H p t h st out/\uP bad H t g /\
 ∀ (H':Hp),Keeps [t] H H'->uP bad H' t (wg g n)->Q .dF H'
theorem BC (T:Txt K mg a):a7 P w K mg base eQ 1 a.iW a.iT ["self","turn"] (A9 K a):=by
 refine T.pq.ok BA ?_ ?_
 ·rintro _ _ _ _ ⟨_,_,_,_,_,_,_,_,rfl,_⟩
  rfl
 ·rintro cdv A outer s H _ Q E hr ⟨p,t,h,st,out,n,bad,g,rfl,⟨dx,hp⟩,⟨kvs,ht,hD⟩,k⟩
  refine ⟨_,(ao (bQ (OV (ai (K:=K) (pv 0) rfl) (pv 1) ib ⟨rfl,rfl,rfl,rfl⟩))),?_⟩
  refine vF rfl hp T.bK T.eN rfl ⟨t,rfl,.inl ⟨_,.inl ht⟩,xE rfl ⟨kvs,Sum.inl (n:Int),ht,rfl,λv hv=>?_,λhn=>?_⟩⟩
  ·refine k _ (Keeps.upd (UX.mpr rfl)) ⟨_,ae,DR.drop (DR.imp (λv' l' hh=>CO.qh (l:=[]) (λb xs q=>?_) (λb xs q nb=>?_) hh) hD)⟩
   ·rw [ak (aV q ht (by intro z;cases z))];exact q
   ·rw [ak (aV q ht (by intro z;cases z))];exact q
  ·refine k _ (Keeps.refl _ _) ⟨kvs,ht,?_⟩
   have:=DR.drop (t:=n) hD
   rw [IP (Oi hn)] at this
   exact this
def xw (K:UR) (a:bF):Sp:=λvs H Q _=>∃ (p t h:Addr) (st:Nat) (out:Bool) (bad:List Addr) (g:Tl),vs=[.ref p]/\tf a H p t h st out/\uP bad H t g/\g.length<=1000 /\
 ∀ (H':Hp),ax H H'->Q (.int (rA g:Nat)) H'
theorem Pk (g:Tl):((g.map λp=>(p.2.length:Int)).sum:Int)=((rA g:Nat):Int):=by
 unfold rA
 induction g with
 | nil=>rfl
 | cons p r ih=>rw [Vc,Wo,Vc,Wo,ih];push_cast;rfl
theorem jW (T:Txt K mg a):a7 P w K mg base eQ 1 a.ee a.dU ["self"] (xw K a):=by
 refine T.kW.ok jS ?_ ?_
 ·rintro _ _ _ _ ⟨_,_,_,_,_,_,_,rfl,_⟩
  rfl
 ·rintro cdv A outer s H _ Q E hr ⟨p,t,h,st,out,bad,g,rfl,⟨dx,hp⟩,⟨kvs,ht,hD⟩,hg,k⟩
  refine ⟨_,(ao (aB (aT (L7 (K:=K) rfl) (by rfl) T.Qy C3 (aa (LG (xm rfl jS.nd (GZ (ai (K:=K) (pv 0) rfl)) (eU (own:=[("told",1)]) (by show xC ["self","told"] (aq gO) _ _=true;decide +kernel)) (λ_ _ _ _ _=>ff (i:=1) jS.nd rfl (Or.inl rfl)) (λ_ _ _ _ _=>oP) (λ_ _ _ _ _=>(aT (a6 (K:=K)) (by rfl) T.dM Vd (aa (pv 1) aj))))) aj)))),?_⟩
  have hz:=sizeLine_eq
  have pt:p≠t:=aV hp ht (by intro z;cases z)
  refine ⟨t,_,ht,trivial,λod=>?_⟩
  refine vF rfl (by rw [ak pt];exact hp) T.bK T.eN rfl ⟨t,od,kvs,rfl,ae,λD hDn=>Lc (λi H'=>H' D=some (.lst ((g.take i).map λp=>V.int (p.2.length:Int)))/\ax (upd H t (.frz od (.dK kvs))) H') ⟨ae,ax.laid hDn⟩ (λi H' _ q=>q.2 _ _ ae) ?_ ?_⟩
  ·rintro i kk x H' hx ⟨h1,h2⟩
   obtain ⟨pp,q1,q2,ad,vs,rfl,_,q3,q4⟩:=hD.at hx
   refine ⟨rfl,EZ (xE rfl ⟨ad,xE rfl ⟨.inl (bc.of (h2 _ _ (by rw [ak (aV q3 ht (by intro z;cases z))];exact q3))),_,h1,?_,?_,?_⟩⟩)⟩
   ·rw [UT,Vr];lia
   ·rw [ae,take_snoc q1,Vk,Paired.length q4];rfl
   ·exact cO h2 hDn
  ·rintro H' ⟨h1,h2⟩
   rw [hD.len,VV] at h1
   refine ⟨h2 _ _ ae,?_⟩
   have Dt:D≠t:=λz=>by rw [z,ae] at hDn;cases hDn
   refine ⟨D,g.map λp=>(p.2.length:Int),rfl,bc.of (by rw [ak Dt,h1,V0];rfl),?_⟩
   rw [Pk]
   refine k _ λb o q=>?_
   by_cases hb:b=t
   ·subst hb
    rw [ht] at q
    cases q
    exact ae
   ·rw [ak hb]
    exact h2 _ _ (by rw [ak hb];exact q)
def IQ (g:Tl) (prog:List U9) (b:UU) (n:Nat):Option UU:=match dw g n with
 | some l=>(l.getLast?).getD none
 | none=>some (V1 prog n b)
def Hi (K:UR) (a:bF):Sp:=λvs H Q _=>∃ (p t h r lo ls:Addr) (os ts:List Addr) (st:Nat) (out:Bool) (m nn:Nat) (bad:List Addr) (g:Tl) (prog:List U9) (b:UU),vs=[.ref p,.int (m:Int),.ref r]/\tf a H p t h st out/\uP bad H t g /\
 (∀ l,dw g m=some l->l≠[])/\sg a H r lo ls os ts prog b/\yM prog/\nn<=6/\ir prog nn b/\m<=2000/\ts.length<=2001 /\
 ∀ (H':Hp) (v:V) (ts':List Addr),R9 ls H H'->sg a H' r lo ls os ts' prog b->ts'.length<=2001->kj H' v (IQ g prog b m)->Q v H'
theorem Bu (T:Txt K mg a):a7 P w K mg base eQ 5 a.qr a.qi ["self","turn","run"] (Hi K a):=by
 refine T.yf.ok ID ?_ ?_
 ·rintro _ _ _ _ ⟨_,_,_,_,_,_,_,_,_,_,_,_,_,_,_,_,rfl,_⟩
  rfl
 ·rintro cdv A outer s H _ Q E hr ⟨p,t,h,r,lo,ls,os,ts,st,out,m,nn,bad,g,prog,b,rfl,⟨dx,hp⟩,⟨kvs,ht,hD⟩,hne,R,OP,h6,OS,hm,htl,k⟩
  refine ⟨_,(ah (bg (Fv (RW (mF hr) (pv 1) (ai (K:=K) (pv 0) rfl))) (ao (aB (aJ (az (K:=K)) (ug (mF hr) (ai (K:=K) (pv 0) rfl) (pv 1) (λ_ _=>rfl)) (QB NM aw) (λ_ _=>rfl)))) aO)
   (ao (aB (aI (pv 2) T.m7 T.lh (qM (K:=K) T) hr.lo T.lz .nil aE (aa (pv 1) aj))))),?_⟩
  refine ⟨_,rfl,_,rfl,fE hp T.bK T.eN rfl ⟨t,_,rfl,lH.k (k:=Sum.inl (m:Int)) ht,_,rfl,?_⟩⟩
  rcases hD.get m with ⟨q1,q2⟩ | ⟨l,v',q1,q2,ad,vs,rfl,_,q3,q4⟩
  ·rw [q2]
   have q1:dw g m=none:=q1
   obtain ⟨dr,hr1⟩:=R.run
   refine bp (vM rfl hr1 rfl (xE rfl ⟨r,lo,ls,os,ts,prog,b,nn,m,rfl,R,OP,h6,OS,hm,htl,λH' tt ts' bt R' l' hh=>?_⟩))
   refine k H' (.ref tt) ts' bt R' l' ?_
   unfold IQ
   rw [q1]
   exact ⟨tt,rfl,hh⟩
  ·rw [q2]
   have q1:dw g m=some l:=q1
   have hvs:vs≠[]:=λz=>hne l q1 (by rw [z] at q4;cases q4;rfl)
   obtain ⟨x,y,w1,w2,w3⟩:=CT q4 hvs
   refine bf (vF rfl hp T.bK T.eN rfl (xE rfl (dE (by have:=lH.k (k:=Sum.inl (m:Int)) ht;rw [q2] at this;exact this) ⟨1,rfl,ad,vs,_,x,rfl,rfl,bc.of q3,L0 w1,?_⟩)))
   refine k H x ts (λb o e _=>e) R htl ?_
   unfold IQ
   rw [q1]
   show kj H x (l.getLast?.getD none)
   rw [w2]
   exact w3
end
theorem kG {H:Hp} {p q C C' dx dx':Addr} {f f':Str} {v v':V} {r r':List (Str × V)} (h:H p=some (.ins C dx ((f,v)::r))) (h':H q=some (.ins C' dx' ((f',v')::r'))) (ne:f≠f'):p≠q :=
 aV h h' λe=>by injection e with _ _ e;injection e with e _;injection e with e _;exact ne e
noncomputable def Lq (d h t:Nat) (sv:V):List (Str × V):=[("dispute",.int (d:Int)),("host",.int (h:Int)),("turn",.int (t:Int)),("state",sv)]
def wu (a:bF) (H:Hp) (q:Addr) (x:Vm):Prop:=∃ dx sv,H q=some (.ins a.lp dx (Lq x.dispute x.host x.turn sv))/\kj H sv x.answer
noncomputable def GW (wd:Addr) (made came lost:Nat):List (Str × V):=[("words",.ref wd),("made",.int (made:Int)),("came",.int (came:Int)),("lost",.int (lost:Int))]
def E9 (l:List Vm):List (Nat × Vm):=l.map λx=>(x.id,x)
def WS (a:bF) (H:Hp) (v:V) (x:Vm):Prop:=∃ q,v=.ref q/\wu a H q x
structure mW (a:bF) (H:Hp) (ln wd:Addr) (line:List Vm) (next came gone:Nat):Prop where
 ins:∃ dx,H ln=some (.ins a.cQ dx (GW wd next came gone))
 UP:∃ kvs,H wd=some (.dK kvs)/\DR (WS a H) kvs (E9 line)
theorem wu.qh {a:bF} {H H':Hp} {q:Addr} {x:Vm} {l:List Addr} (k:Keeps l H H') (hw:∀ x∈l,∀ C dx v r,H x≠some (.ins C dx (("dispute",v)::r))) (ht:∀ x∈l,∀ xs,H x≠some (.tup xs)) (h:wu a H q x):wu a H' q x:=by
 obtain ⟨dx,sv,h1,h2⟩:=h
 exact ⟨dx,sv,k _ _ h1 λm=>hw q m _ _ _ _ h1,h2.qh λb xs e=>k _ _ e λm=>ht b m xs e⟩
theorem wa (l:List Vm) (n:Nat):zc (E9 l) n=l.find? λx=>x.id == n:=by
 unfold zc E9
 induction l with
 | nil=>rfl
 | cons x r ih =>
  rw [Vc,Vy,Vy]
  by_cases e:x.id=n
  ·simp [e]
  ·have e2:(x.id == n)=false:=beq_eq_false_iff_ne.mpr e
   rw [e2]
   simp only [e,decide_false]
   exact ih
theorem GL (l:List Vm) (n:Nat):Hm (E9 l) n=E9 (l.filter λx=>x.id != n):=by
 unfold Hm E9
 rw [List.filter_map]
 congr 1
 refine List.filter_congr λx _=>?_
 by_cases e:x.id=n<;>simp [e]
theorem Ob {l:List Vm} {x:Vm} (h:∀ y∈l,y.id≠x.id):C0 (E9 l) x.id x=E9 (l++[x]):=by
 unfold C0
 rw [if_neg]
 ·unfold E9
  rw [Vk]
  rfl
 ·intro q
  obtain ⟨p,hp,e⟩:=WQ.mp q
  obtain ⟨y,hy,rfl⟩:=Vb.mp hp
  exact h y hy (of_decide_eq_true e)
def jy (ns:List Int):PyData:=.tuple (ns.map PyData.int)
theorem Dl:∀ ns ms:List Int,PyData.eqvAll (ns.map PyData.int) (ms.map PyData.int)=decide (ns=ms)
 | [],[]=>by simp [PyData.eqvAll]
 | [],_::_=>by simp [PyData.eqvAll]
 | _::_,[]=>by simp [PyData.eqvAll]
 | n::ns,m::ms=>by
  rw [Vc,Vc,PyData.eqvAll,Dl ns ms]
  by_cases e:n=m<;>by_cases e2:ns=ms<;>simp [PyData.eqv,e,e2]
theorem sf (ns ms:List Int):PyData.eqv (jy ns) (jy ms)=decide (ns=ms):=by
 unfold jy
 rw [PyData.eqv]
 exact Dl ns ms
theorem Dg:∀ ns:List Int,PyData.canLayAll0 (ns.map PyData.int)=true
 | []=>by simp [PyData.canLayAll0]
 | n::r=>by simp only [VM,PyData.canLayAll0,PyData.canLay0,Dg r,Bool.and_self]
theorem AJ:∀ ns:List Int,PyData.depthAll (ns.map PyData.int)<=1
 | []=>by simp [PyData.depthAll]
 | n::r=>by
  have:=AJ r
  simp only [VM,PyData.depthAll,PyData.depth]
  assumption
theorem shaped_ints (ns:List Int):SeqAt.shaped (jy ns)=true:=by
 unfold SeqAt.shaped jy
 rw [U6]
 refine ⟨by rw [PyData.canLay0];exact Dg ns,decide_eq_true ?_⟩
 have:=AJ ns
 simp only [PyData.depth]
 lia
theorem Ll {K:UR} {H:Hp}:∀ ns:List Int,zM K H (ns.map V.int) (ns.map PyData.int)
 | []=>.nil
 | n::r=>.cons (.int n) (Ll r)
theorem pQ {K:UR} {H:Hp} {p:Addr} {ns:List Int} (h:gg K H p (ns.map V.int)):Dp K H (.ref p) (jy ns):=.tup h (Ll ns)
theorem Oy {a:bF} {H:Hp} {ln wd dx:Addr} {kvs:List (Key × V)} {n c g:Nat} (h1:H ln=some (.ins a.cQ dx (GW wd n c g))) (h2:H wd=some (.dK kvs)) :
  (∀ x∈[ln,wd],∀ C dx v r,H x≠some (.ins C dx (("dispute",v)::r)))/\∀ x∈[ln,wd],∀ xs,H x≠some (.tup xs):=by
 refine ⟨λx hx C dx' v r e=>?_,λx hx xs e=>?_⟩
 ·rcases U4.mp hx with rfl | hx
  ·exact kG h1 e (by decide) rfl
  ·rw [UX.mp hx,h2] at e
   cases e
 ·rcases U4.mp hx with rfl | hx
  ·rw [h1] at e;cases e
  ·rw [UX.mp hx,h2] at e
   cases e
section
variable {P:Program} {w:World} {K:UR} {mg:Str->Option Value} {base:Heap} {a:bF}
def HF (K:UR) (a:bF):Sp:=λvs H Q _=>∃ (q dx:Addr) (d h t:Nat) (sv:V),vs=[.ref q,.int (d:Int),.int (h:Int),.int (t:Int),sv]/\H q=some (.ins a.lp dx []) /\
 ∀ (H':Hp),Keeps [q] H H'->H' q=some (.ins a.lp dx (Lq d h t sv))->Q .dF H'
theorem wm (T:Txt K mg a):a7 P w K mg base eQ 1 a.qf a.qG ["self","dispute","host","turn","state"] (HF K a):=by
 refine T.zi.ok HH ?_ ?_
 ·rintro _ _ _ _ ⟨_,_,_,_,_,_,rfl,_⟩
  rfl
 ·rintro cdv A outer s H _ Q E hr ⟨q,dx,d,h,t,sv,rfl,hq,k⟩
  refine ⟨_,(ah (aQ (K:=K) (pv 0) (pv 1) rfl)
   (ah (aQ (K:=K) (pv 0) (pv 2) rfl)
   (ah (aQ (K:=K) (pv 0) (pv 3) rfl)
   (ao (aQ (K:=K) (pv 0) (pv 4) rfl))))),?_⟩
  refine xE rfl (vS rfl hq T.dA T.iM (by show 0 < 1000;decide) ?_)
  refine xE rfl (vS rfl ae T.dA T.k8 (by show 1 < 1000;decide) ?_)
  refine xE rfl (vS rfl ae T.dA T.kf (by show 2 < 1000;decide) ?_)
  refine xE rfl (vS rfl ae T.dA T.lQ (by show 3 < 1000;decide) ?_)
  rw [b6,b6,b6]
  exact k _ (Keeps.upd (UX.mpr rfl)) ae
def IB (K:UR) (a:bF):Sp:=λvs H Q _=>∃ (ln dx:Addr),vs=[.ref ln]/\H ln=some (.ins a.cQ dx []) /\
 ∀ (H':Hp) (wd:Addr),Keeps [ln] H H'->H wd=none->mW a H' ln wd [] 0 0 0->Q .dF H'
theorem AR (T:Txt K mg a):a7 P w K mg base eQ 1 a.qt a.qz ["self"] (IB K a):=by
 refine T.xN.ok G1 ?_ ?_
 ·rintro _ _ _ _ ⟨_,_,rfl,_⟩
  rfl
 ·rintro cdv A outer s H _ Q E hr ⟨ln,dx,rfl,hl,k⟩
  refine ⟨_,(ah (aQ (K:=K) (pv 0) EE rfl)
   (ah (aQ (K:=K) (pv 0) aw rfl)
   (ah (aQ (K:=K) (pv 0) aw rfl)
   (ao (aQ (K:=K) (pv 0) aw rfl))))),?_⟩
  refine λwd hwd=>?_
  have nl:wd≠ln:=λz=>by rw [z,hl] at hwd;cases hwd
  refine vS rfl (by rw [ak nl.symm];exact hl) T.bJ T.bj (by show 0 < 1000;decide) ?_
  refine vS rfl ae T.bJ T.uj (by show 1 < 1000;decide) ?_
  refine vS rfl ae T.bJ T.yS (by show 2 < 1000;decide) ?_
  refine vS rfl ae T.bJ T.xG (by show 3 < 1000;decide) ?_
  rw [b6,b6,b6]
  refine k _ wd (λb o e n=>?_) hwd ⟨⟨dx,ae⟩,[],by rw [ak nl,ae],.nil⟩
  rw [ak (λz=>n (by rw [z];exact UX.mpr rfl)),ak (aC e hwd)]
  exact e
def Dy (K:UR) (a:bF):Sp:=λvs H Q _=>∃ (ln wd:Addr) (line:List Vm) (next came gone:Nat),vs=[.ref ln]/\mW a H ln wd line next came gone/\Q (.bl (decide (60<=line.length))) H
theorem xh (T:Txt K mg a):a7 P w K mg base eQ 1 a.la a.lb ["self"] (Dy K a):=by
 refine T.sH.ok DD ?_ ?_
 ·rintro _ _ _ _ ⟨_,_,_,_,_,_,rfl,_⟩
  rfl
 ·rintro cdv A outer s H _ Q E hr ⟨ln,wd,line,next,came,gone,rfl,⟨⟨dx,h1⟩,kvs,h2,h3⟩,k⟩
  refine ⟨_,(ao (aB (nP LJ (aT vY (by rfl) T.dM Vd (aa (ai (K:=K) (pv 0) rfl) aj)) (aM (by rfl) T.Ja) (bo _)))),?_⟩
  refine xE rfl ⟨ln,a.cQ,dx,_,xE rfl ⟨h1,T.bJ,T.bj,rfl,wd,kvs,rfl,h2,_,xE rfl ⟨rfl,?_⟩⟩⟩
  have e:kvs.length=line.length:=by rw [h3.len];exact UT ..
  have e2:decide ((60:Int)<=(kvs.length:Int))=decide (60<=line.length):=by rw [e];by_cases q:60<=line.length<;>simp [q]<;>lia
  rw [<- e2] at k
  exact k
def JV (K:UR) (a:bF):Sp:=λvs H Q _=>∃ (ln wd q:Addr) (line:List Vm) (next came gone:Nat) (x:Vm),vs=[.ref ln,.ref q]/\mW a H ln wd line next came gone/\wu a H q x/\x.id=next/\(∀ y∈line,y.id≠next)/\line.length<=1000 /\
 ∀ (H':Hp),Keeps [ln,wd] H H'->mW a H' ln wd (line++[x]) (next+1) came gone->Q (.int (next:Nat)) H'
theorem ya (T:Txt K mg a):a7 P w K mg base eQ 1 a.sk a.sO ["self","word"] (JV K a):=by
 refine T.Am.ok C9 ?_ ?_
 ·rintro _ _ _ _ ⟨_,_,_,_,_,_,_,_,rfl,_⟩
  rfl
 ·rintro cdv A outer s H _ Q E hr ⟨ln,wd,q,line,next,came,gone,x,rfl,⟨⟨dx,h1⟩,kvs,h2,h3⟩,hq,hx,hid,hll,k⟩
  refine ⟨_,(ah (aN (i:=2) C9.nd rfl (Or.inl rfl) (ai (K:=K) (pv 0) rfl))
   (ah (HY (mF hr) (ai (K:=K) (pv 0) rfl) (pv 2) (pv 1) rfl)
   (ah (gX (K:=K) (pv 0) aw uN)
   (ao (aB (pv 2)))))),?_⟩
  have hz:=sizeLine_eq
  have nlw:ln≠wd:=aV h1 h2 (by intro z;cases z)
  have hl:kvs.length=line.length:=by rw [h3.len];exact UT ..
  refine xE rfl ⟨ln,a.cQ,dx,_,xE rfl ⟨h1,T.bJ,T.uj,rfl,?_⟩⟩
  refine x2 rfl rfl ⟨ln,a.cQ,dx,_,xE rfl ⟨h1,T.bJ,T.bj,rfl,xE rfl ⟨wd,xE rfl ⟨Ih.k (k:=Sum.inl (next:Int)) h2 (by lia),?_⟩⟩⟩⟩
  refine xE rfl ⟨ln,a.cQ,dx,_,xE rfl ⟨by rw [ak nlw];exact h1,T.bJ,T.uj,rfl,?_⟩⟩
  refine ⟨_,xE rfl ⟨rfl,?_⟩⟩
  refine ⟨dx,_,by rw [ak nlw];exact h1,by show 4 < 1000;decide,xE rfl ?_⟩
  have kp:Keeps [ln,wd] H (upd (upd H wd (.dK (putK kvs (Sum.inl (next:Int)) (.ref q)))) ln (.ins a.cQ dx (aZ (Str.ofString "made") (.int ((next:Int)+1)) (GW wd next came gone)))):=(Keeps.upd (by simp)).trans (Keeps.upd (by simp))
  obtain ⟨o1,o2⟩:=Oy h1 h2
  refine k _ kp ⟨⟨dx,ae⟩,_,by rw [ak nlw.symm,ae],?_⟩
  have hp:=DR.put (t:=next) (DR.imp (λv y ⟨q',e,hq'⟩=>⟨q',e,hq'.qh kp o1 o2⟩) h3) (show WS a _ (.ref q) x from ⟨q,rfl,hq.qh kp o1 o2⟩)
  have e:=Ob (l:=line) (x:=x) (λy hy=>by rw [hx];exact hid y hy)
  rw [hx] at e
  rw [e] at hp
  exact hp
def BY (K:UR) (a:bF):Sp:=λvs H Q _=>∃ (ln wd:Addr) (line:List Vm) (next came gone n:Nat) (x:Vm),vs=[.ref ln,.int (n:Int)]/\mW a H ln wd line next came gone/\(line.find? λy=>y.id == n)=some x /\
 ∀ (H':Hp) (q:Addr),Keeps [ln,wd] H H'->mW a H' ln wd (line.filter λy=>y.id != n) next (came+1) gone->wu a H' q x->Q (.ref q) H'
theorem Ct (T:Txt K mg a):a7 P w K mg base eQ 1 a.jA a.jF ["self","number"] (BY K a):=by
 refine T.rl.ok B9 ?_ ?_
 ·rintro _ _ _ _ ⟨_,_,_,_,_,_,_,_,rfl,_⟩
  rfl
 ·rintro cdv A outer s H _ Q E hr ⟨ln,wd,line,next,came,gone,n,x,rfl,⟨⟨dx,h1⟩,kvs,h2,h3⟩,hx,k⟩
  refine ⟨_,(ah (gX (K:=K) (pv 0) aw uN)
   (ao (aB (Jr (ai (K:=K) (pv 0) rfl) (pv 1) ⟨rfl,rfl,rfl,rfl⟩)))),?_⟩
  have nlw:ln≠wd:=aV h1 h2 (by intro z;cases z)
  rcases h3.get n with ⟨q1,q2⟩ | ⟨y,v,q1,q2,q,rfl,hq⟩
  ·rw [wa,hx] at q1;cases q1
  rw [wa,hx] at q1
  cases q1
  refine xE rfl ⟨ln,a.cQ,dx,_,xE rfl ⟨h1,T.bJ,T.yS,rfl,_,xE rfl ⟨rfl,dx,_,h1,by show 4 < 1000;decide,?_⟩⟩⟩
  refine xE rfl ⟨ln,a.cQ,dx,_,xE rfl ⟨ae,T.bJ,T.bj,rfl,wd,rfl,.inl ⟨_,.inl (by rw [ak nlw.symm];exact h2)⟩,xE rfl ⟨kvs,Sum.inl (n:Int),_,by rw [ak nlw.symm];exact h2,rfl,q2,?_⟩⟩⟩
  have kp:Keeps [ln,wd] H (upd (upd H ln (.ins a.cQ dx (aZ (Str.ofString "came") (.int ((came:Int)+1)) (GW wd next came gone)))) wd (.dK (uh kvs (Sum.inl (n:Int))))):=(Keeps.upd (by simp)).trans (Keeps.upd (by simp))
  obtain ⟨o1,o2⟩:=Oy h1 h2
  refine k _ q kp ⟨⟨dx,by rw [ak nlw];exact ae⟩,_,ae,?_⟩ (hq.qh kp o1 o2)
  have hp:=DR.drop (t:=n) (DR.imp (λv y ⟨q',e,hq'⟩=>(⟨q',e,hq'.qh kp o1 o2⟩:WS a _ v y)) h3)
  rw [GL] at hp
  exact hp
def Fu (K:UR) (a:bF):Sp:=λvs H Q _=>∃ (ln wd:Addr) (line:List Vm) (next came gone n:Nat) (x:Vm),vs=[.ref ln,.int (n:Int)]/\mW a H ln wd line next came gone/\(line.find? λy=>y.id == n)=some x /\
 ∀ (H':Hp) (q:Addr),Keeps [ln,wd] H H'->mW a H' ln wd (line.filter λy=>y.id != n) next came (gone+1)->wu a H' q x->Q (.ref q) H'
theorem Eu (T:Txt K mg a):a7 P w K mg base eQ 1 a.mj a.mq ["self","number"] (Fu K a):=by
 refine T.uJ.ok FK ?_ ?_
 ·rintro _ _ _ _ ⟨_,_,_,_,_,_,_,_,rfl,_⟩
  rfl
 ·rintro cdv A outer s H _ Q E hr ⟨ln,wd,line,next,came,gone,n,x,rfl,⟨⟨dx,h1⟩,kvs,h2,h3⟩,hx,k⟩
  refine ⟨_,(ah (gX (K:=K) (pv 0) aw uN)
   (ao (aB (Jr (ai (K:=K) (pv 0) rfl) (pv 1) ⟨rfl,rfl,rfl,rfl⟩)))),?_⟩
  have nlw:ln≠wd:=aV h1 h2 (by intro z;cases z)
  rcases h3.get n with ⟨q1,q2⟩ | ⟨y,v,q1,q2,q,rfl,hq⟩
  ·rw [wa,hx] at q1;cases q1
  rw [wa,hx] at q1
  cases q1
  refine xE rfl ⟨ln,a.cQ,dx,_,xE rfl ⟨h1,T.bJ,T.xG,rfl,_,xE rfl ⟨rfl,dx,_,h1,by show 4 < 1000;decide,?_⟩⟩⟩
  refine xE rfl ⟨ln,a.cQ,dx,_,xE rfl ⟨ae,T.bJ,T.bj,rfl,wd,rfl,.inl ⟨_,.inl (by rw [ak nlw.symm];exact h2)⟩,xE rfl ⟨kvs,Sum.inl (n:Int),_,by rw [ak nlw.symm];exact h2,rfl,q2,?_⟩⟩⟩
  have kp:Keeps [ln,wd] H (upd (upd H ln (.ins a.cQ dx (aZ (Str.ofString "lost") (.int ((gone:Int)+1)) (GW wd next came gone)))) wd (.dK (uh kvs (Sum.inl (n:Int))))):=(Keeps.upd (by simp)).trans (Keeps.upd (by simp))
  obtain ⟨o1,o2⟩:=Oy h1 h2
  refine k _ q kp ⟨⟨dx,by rw [ak nlw];exact ae⟩,_,ae,?_⟩ (hq.qh kp o1 o2)
  have hp:=DR.drop (t:=n) (DR.imp (λv y ⟨q',e,hq'⟩=>(⟨q',e,hq'.qh kp o1 o2⟩:WS a _ v y)) h3)
  rw [GL] at hp
  exact hp
def nT (d h t:Nat) (x:Vm):Bool:=x.dispute == d&&(x.host == h&&x.turn == t)
theorem Mr (d h t:Nat) (x:Vm):decide (([(x.dispute:Int),(x.host:Int),(x.turn:Int)]:List Int)=[(d:Int),(h:Int),(t:Int)])=nT d h t x:=by
 cases hb:nT d h t x with
 | true =>
  unfold nT at hb
  simp at hb
  obtain ⟨e1,e2,e3⟩:=hb
  rw [e1,e2,e3]
  exact decide_eq_true rfl
 | false =>
  refine decide_eq_false λe=>?_
  injection e with e1 e
  injection e with e2 e
  injection e with e3 _
  have f1:x.dispute=d:=by lia
  have f2:x.host=h:=by lia
  have f3:x.turn=t:=by lia
  unfold nT at hb
  rw [f1,f2,f3] at hb
  simp at hb
def wC (K:UR) (a:bF):Sp:=λvs H Q _=>∃ (ln wd:Addr) (line:List Vm) (next came gone d h t:Nat),vs=[.ref ln,.int (d:Int),.int (h:Int),.int (t:Int)]/\mW a H ln wd line next came gone/\line.length<=1000 /\
 ∀ (H':Hp),ax H H'->Q (.bl (line.any (nT d h t))) H'
theorem wM (T:Txt K mg a):a7 P w K mg base eQ 1 a.dC a.dD ["self","dispute","host","turn"] (wC K a):=by
 refine T.jV.ok fe ?_ ?_
 ·rintro _ _ _ _ ⟨_,_,_,_,_,_,_,_,_,rfl,_⟩
  rfl
 ·rintro cdv A outer s H _ Q E hr ⟨ln,wd,line,next,came,gone,d,h,t,rfl,⟨⟨dx,h1⟩,kvs,h2,h3⟩,hll,k⟩
  refine ⟨_,(ah (aN (i:=4) fe.nd rfl (Or.inr rfl) (wU (aa (pv 1) (aa (pv 2) (aa (pv 3) aj)))))
   (ao (aB (aT (Lg (K:=K) rfl) (by rfl) T.Qv C5 (aa (LG (xm rfl fe.nd (GZ (ai (K:=K) (pv 0) rfl)) (eU (own:=[("word",5)]) (by show xC ["self","dispute","host","turn","about","word"] (aq fX) _ _=true;decide +kernel)) (λ_ _ _ _ _=>ff (i:=5) fe.nd rfl (Or.inl rfl)) (λ_ _ _ _ _=>oP) (λ_ _ _ _ _=>(nP (D5 (K:=K) hr.units) (wU (aa (ai (K:=K) (pv 5) rfl) (aa (ai (K:=K) (pv 5) rfl) (aa (ai (K:=K) (pv 5) rfl) aj)))) (pv 4) (bo _))))) aj))))),?_⟩
  have hz:=sizeLine_eq
  have nlw:ln≠wd:=aV h1 h2 (by intro z;cases z)
  refine x2 rfl rfl (xE rfl ⟨Sb,λab hab=>?_⟩)
  have s1:ax H (upd H ab (.tup [.int (d:Int),.int (h:Int),.int (t:Int)])):=ax.laid hab
  refine ⟨wd,_,s1 _ _ h2,trivial,λod=>?_⟩
  generalize hH1:upd H ab (.tup [.int (d:Int),.int (h:Int),.int (t:Int)])=H1 at s1 ⊢
  have hab1:H1 ab=some (.tup [.int (d:Int),.int (h:Int),.int (t:Int)]):=by rw [<- hH1,ae]
  have h1':=s1 _ _ h1
  have h2':=s1 _ _ h2
  refine xE rfl ⟨ln,a.cQ,dx,_,xE rfl ⟨(by rw [ak nlw];exact h1'),T.bJ,T.bj,rfl,wd,od,kvs,rfl,ae,λD hDn=>Lc (λi H'=>H' D=some (.lst ((line.take i).map λx=>V.bl (nT d h t x)))/\ax (upd H1 wd (.frz od (.dK kvs))) H') ⟨ae,ax.laid hDn⟩ (λi H' _ q=>q.2 _ _ ae) ?_ ?_⟩⟩
  ·rintro i kk x H' hx ⟨g1,g2⟩
   obtain ⟨pp,q1,q2,q,rfl,dq,sv,q3,q4⟩:=h3.at hx
   obtain ⟨y,q5,rfl⟩:=rT q1
   have hq:H' q=some (.ins a.lp dq (Lq y.dispute y.host y.turn sv)):=g2 _ _ (by rw [ak (aV q3 h2 (by intro z;cases z))];exact s1 _ _ q3)
   refine ⟨rfl,EZ (xE rfl ⟨q,a.lp,dq,_,xE rfl ⟨hq,T.dA,T.iM,rfl,xE rfl ⟨q,a.lp,dq,_,xE rfl ⟨hq,T.dA,T.k8,rfl,xE rfl ⟨q,a.lp,dq,_,xE rfl ⟨hq,T.dA,T.kf,rfl,Sb,λc hc=>?_⟩⟩⟩⟩⟩⟩)⟩
   refine xE rfl ⟨jy [(y.dispute:Int),(y.host:Int),(y.turn:Int)],jy [(d:Int),(h:Int),(t:Int)],pQ (gg.of ae),pQ (gg.of (ax.laid hc _ _ (g2 _ _ (by rw [ak (aV hab1 h2' (by intro z;cases z))];exact hab1)))),shaped_ints _,shaped_ints _,_,ax.laid hc _ _ g1,?_,?_,?_⟩
   ·rw [UT,Vr];lia
   ·rw [ae,take_snoc q5,Vk,sf,Mr];rfl
   ·exact cO (g2.trans (ax.laid hc)) hDn
  ·rintro H' ⟨g1,g2⟩
   have hl:kvs.length=line.length:=by rw [h3.len];exact UT ..
   rw [hl,VV] at g1
   refine ⟨g2 _ _ ae,?_⟩
   have Dt:D≠wd:=λz=>by rw [z,ae] at hDn;cases hDn
   refine ⟨D,line.map (nT d h t),rfl,bc.of (by rw [ak Dt,g1,V0];rfl),?_⟩
   rw [Wn]
   refine k _ λb o q=>?_
   by_cases hb:b=wd
   ·subst hb
    rw [h2] at q
    cases q
    exact ae
   ·rw [ak hb]
    exact g2 _ _ (by rw [ak hb];exact s1 _ _ q)
end
def zeros (xs:List Nat):List (Key × V):=xs.map λ(x:Nat)=>(Sum.inl (x:Int),V.int 0)
theorem Gx:∀ (more acc:List (Key × V)),((acc++more).map (·.1)).Nodup->u9 acc more=acc++more
 | [],acc,_=>by rw [Wx];rfl
 | kv::r,acc,h=>by
  show u9 (putK acc kv.1 kv.2) r=acc++kv::r
  have hk:¬ kv.1∈acc.map (·.1):=by
   rw [Vk,Vc,List.nodup_append] at h
   exact λm=>h.2.2 _ m _ (Vi ..) rfl
  have hv:k7 acc kv.1=none:=by
   cases e:k7 acc kv.1 with
   | none=>rfl
   | some v=>exact absurd (LQ e) hk
  rw [N9 kv.2 hv,Gx r (acc++[kv]) (by rw [W9];exact h),W9]
  rfl
theorem Pj {xs:List Nat} (h:xs.Nodup):((zeros xs).map (·.1)).Nodup:=by
 unfold zeros
 rw [V0]
 induction xs with
 | nil=>exact List.nodup_nil
 | cons x r ih =>
  obtain ⟨h1,h2⟩:=V9.mp h
  refine V9.mpr ⟨λm=>?_,ih h2⟩
  obtain ⟨y,hy,e⟩:=Vb.mp m
  have e:(Sum.inl (y:Int):Key)=Sum.inl (x:Int):=e
  injection e with e
  exact h1 (by rw [show x=y by lia];exact hy)
def xc (x y m n:Nat):List (Key × V):=[(Sum.inl (x:Int),.int (m:Int)),(Sum.inl (y:Int),.int (n:Int))]
noncomputable def v8 (ht:Addr) (lo:Nat) (ag:Addr) (hi asked:Nat) (ask:Addr) (q l:Nat) (en:Addr):List (Str × V) :=
 [("hosts",.ref ht),("low_turn",.int (lo:Int)),("agreed",.ref ag),("high_turn",.int (hi:Int)),("turn_asked",.int (asked:Int)),("asked",.ref ask),("questions",.int (q:Int)),("lost",.int (l:Int)),("ended",.ref en)]
def FT (H:Hp) (p:Addr) (xs:List V):Prop:=∃ o:Obj,H p=some (.frz o (.tup xs))/\o.cls=.type "tuple"/\o.dict=none
theorem FT.sq {K:UR} {H:Hp} {p:Addr} {xs:List V} (h:FT H p xs):gg K H p xs:=by
 obtain ⟨o,h,_⟩:=h
 exact .inl (.inr ⟨o,h⟩)
theorem FT.imp {H H':Hp} {p:Addr} {xs:List V} (h:FT H p xs) (f:∀ o,H p=some o->H' p=some o):FT H' p xs:=by
 obtain ⟨o,h,q⟩:=h
 exact ⟨o,f _ h,q⟩
theorem FT.ne {H:Hp} {p q C dx:Addr} {xs:List V} {fs:List (Str × V)} (h:FT H p xs) (g:H q=some (.ins C dx fs)):p≠q:=by
 obtain ⟨o,h,_⟩:=h
 exact aV h g (by intro z;cases z)
structure fY (a:bF) (H:Hp) (p ask ht ag en:Addr) (d:UW):Prop where
 ins:∃ dx,H p=some (.ins a.aR dx (v8 ht d.lo ag d.hi d.asked ask d.questions d.lost en))
 hosts:FT H ht [.int (d.x:Int),.int (d.y:Int)]
 F8:H ag=some (.tup (FL d.agreed))
 ask:H ask=some (.dK (xc d.x d.y d.saidX d.saidY))
 fin:H en=some (.tup ((Wq d.verdict).map λ(n:Nat)=>V.int (n:Int)))
theorem Q4 (v:Option Vbapaj.Verdict):∃ k n,Wq v=[k,n]:=by
 cases v with
 | none=>exact ⟨0,0,rfl⟩
 | some v=>cases v<;>exact ⟨_,_,rfl⟩
theorem P6 (v:Option Vbapaj.Verdict):decide ((Wq v).map (λ(n:Nat)=>(n:Int))=[0,0])=v.isNone:=by
 cases v with
 | none=>rfl
 | some v=>cases v<;>simp [Wq]
section
variable {P:Program} {w:World} {K:UR} {mg:Str->Option Value} {base:Heap} {a:bF}
def Hd (K:UR) (a:bF):Sp:=λvs H Q _=>∃ (p:Addr) (xs:List Nat),vs=[.ref p]/\gg K H p (l9 xs)/\xs.Nodup/\xs.length<=1000 /\
 ∀ (H':Hp) (d:Addr),ax H H'->H d=none->H' d=some (.dK (zeros xs))->Q (.ref d) H'
theorem wo (T:Txt K mg a):a7 P w K mg base eQ 1 a.qv a.qB ["hosts"] (Hd K a):=by
 refine T.m5.ok wF ?_ ?_
 ·rintro _ _ _ _ ⟨_,_,rfl,_⟩
  rfl
 ·rintro cdv A outer s H _ Q E hr ⟨p,xs,rfl,hS,hnd,hl,k⟩
  refine ⟨_,(ao (aB (gb (Kx (K:=K) rfl) (by rfl) T.Q6 Hx (aa (xm rfl wF.nd (Hn (K:=K) (pv 0)) (eU (own:=[("host",1)]) (by show xC ["hosts","host"] (aq ue) _ _=true;decide +kernel)) (λ_ _ _ _ _=>ff (i:=1) wF.nd rfl (Or.inl rfl)) (λ_ _ _ _ _=>oP) (λ_ _ _ _ _=>(wU (aa (pv 1) (aa aw aj))))) aj)))),?_⟩
  have hz:=sizeLine_eq
  refine xE rfl ⟨p,rfl,⟨_,hS⟩,λD hD=>KL (xs:=l9 xs) (λi H'=>∃ ps,H' D=some (.lst (ps.map V.ref))/\Paired (λ(q:Addr) (kv:Key × V)=>H' q=some (.tup [kV kv.1,kv.2])) ps (zeros (xs.take i))/\ax H H') ⟨[],ae,.nil,ax.laid hD⟩ (λi H' _ ⟨_,_,_,s⟩=>gg.same s hS) ?_ ?_⟩
  ·rintro i x H' hx ⟨ps,h1,h2,h3⟩
   obtain ⟨z,hz',rfl⟩:=rT hx
   have hpl:ps.length<=1000:=by
    rw [Paired.length h2]
    unfold zeros
    rw [UT,Vr]
    lia
   refine ⟨rfl,EZ (xE rfl ⟨O8,λc hc=>⟨_,ax.laid hc _ _ h1,by rw [UT];lia,ps++[c],?_,?_,?_⟩⟩)⟩
   ·rw [ae,Vk];rfl
   ·have nc:c≠D:=(aC h1 hc).symm
    have e:zeros (xs.take (i+1))=zeros (xs.take i)++[(Sum.inl (z:Int),V.int 0)]:=by
     unfold zeros
     rw [take_snoc hz',Vk]
     rfl
    rw [e]
    refine qD (Paired.KA h2 λq kv hq=>?_) ?_
    ·rw [ak (aV hq h1 (by intro z;cases z))]
     exact ax.laid hc _ _ hq
    ·rw [ak nc,ae]
     rfl
   ·exact cO (h3.trans (ax.laid hc)) hD
  ·rintro H' ⟨ps,h1,h2,h3⟩
   rw [iu,VV] at h2
   refine ⟨D,ps,zeros xs,rfl,bc.of h1,Paired.KA h2 λq kv hq=>gg.of hq,λd hd=>?_⟩
   refine k _ d (cO h3 (h3.free hd)) (h3.free hd) ?_
   rw [ae,Gx (zeros xs) [] (Pj hnd)]
   rfl
def Ar (K:UR) (a:bF):Sp:=λvs H Q _=>∃ (p ask ht ag en:Addr) (d:UW),vs=[.ref p]/\fY a H p ask ht ag en d/\∀ H',ax H H'->Q (.bl (U2 d)) H'
theorem ju (T:Txt K mg a):a7 P w K mg base eQ 1 a.gF a.gA ["self"] (Ar K a):=by
 refine T.nM.ok zU ?_ ?_
 ·rintro _ _ _ _ ⟨_,_,_,_,_,_,rfl,_⟩
  rfl
 ·rintro cdv A outer s H _ Q E hr ⟨p,ask,ht,ag,en,d,rfl,⟨⟨dx,h1⟩,h2,h3,h4,h5⟩,k⟩
  refine ⟨_,(ao (aB (nP (D5 (K:=K) hr.units) (ai (K:=K) (pv 0) rfl) (wU (aa aw (aa aw aj))) (bo _)))),?_⟩
  refine vF rfl h1 T.ay T.dy rfl ⟨O8,λc hc=>?_⟩
  refine ⟨jy ((Wq d.verdict).map λ(n:Nat)=>(n:Int)),jy [0,0],pQ (gg.of (ax.laid hc _ _ (by rw [h5,V0];rfl))),pQ (gg.of ae),shaped_ints _,shaped_ints _,?_⟩
  rw [sf,P6]
  exact k _ (ax.laid hc)
def iQ (K:UR) (a:bF):Sp:=λvs H Q _=>∃ (p ask ht ag en:Addr) (d:UW),vs=[.ref p]/\fY a H p ask ht ag en d/\Q (.bl (decide (d.hi=d.lo+1))) H
theorem i6 (T:Txt K mg a):a7 P w K mg base eQ 1 a.bI a.bH ["self"] (iQ K a):=by
 refine T.eh.ok pF ?_ ?_
 ·rintro _ _ _ _ ⟨_,_,_,_,_,_,rfl,_⟩
  rfl
 ·rintro cdv A outer s H _ Q E hr ⟨p,ask,ht,ag,en,d,rfl,⟨⟨dx,h1⟩,h2,h3,h4,h5⟩,k⟩
  refine ⟨_,(ao (aB (nP ua (ai (K:=K) (pv 0) rfl) (b5 zZ (ai (K:=K) (pv 0) rfl) aw) (bo _)))),?_⟩
  refine vF rfl h1 T.ay T.du rfl (vF rfl h1 T.ay T.dJ rfl ⟨_,xE rfl ⟨rfl,rfl,?_⟩⟩)
  have e:decide (V.int (d.hi:Int)=V.int ((d.lo:Int)+1))=decide (d.hi=d.lo+1):=by
   by_cases q:d.hi=d.lo+1
   ·rw [decide_eq_true q,q];exact decide_eq_true (by push_cast;rfl)
   ·rw [decide_eq_false q];exact decide_eq_false λz=>q (by injection z with z;lia)
  rw [<- e] at k
  exact k
def BQ (K:UR) (a:bF):Sp:=λvs H Q _=>∃ (p ask ht ag en:Addr) (d:UW) (h:Nat),vs=[.ref p,.int (h:Int)]/\fY a H p ask ht ag en d/\Q (.int ((if h=d.x then d.y else d.x:Nat):Int)) H
theorem vJ (T:Txt K mg a):a7 P w K mg base eQ 1 a.jB a.jI ["self","host"] (BQ K a):=by
 refine T.rb.ok Cr ?_ ?_
 ·rintro _ _ _ _ ⟨_,_,_,_,_,_,_,rfl,_⟩
  rfl
 ·rintro cdv A outer s H _ Q E hr ⟨p,ask,ht,ag,en,d,h,rfl,⟨⟨dx,h1⟩,h2,h3,h4,h5⟩,k⟩
  refine ⟨_,(ao (aB (ow (a8 ua (pv 1) (aJ (bN (K:=K)) (ai (K:=K) (pv 0) rfl) aw (λ_ _=>rfl)) (bo _)) (aJ (bN (K:=K)) (ai (K:=K) (pv 0) rfl) aw (λ_ _=>rfl)) (aJ (bN (K:=K)) (ai (K:=K) (pv 0) rfl) aw (λ_ _=>rfl))))),?_⟩
  refine xE rfl (vF rfl h1 T.ay T.aX rfl (iG h2.sq (at_of (j:=0) rfl rfl) ⟨rfl,xE rfl ?_⟩))
  refine BP (λe=>?_) λe=>?_
  ·rw [if_pos (by lia)] at k
   exact vF rfl h1 T.ay T.aX rfl (iG h2.sq (at_of (j:=1) rfl rfl) k)
  ·rw [if_neg (by lia)] at k
   exact vF rfl h1 T.ay T.aX rfl (iG h2.sq (at_of (j:=0) rfl rfl) k)
def asks (d:UW):UW:={ d with asked:=(d.lo+d.hi) / 2,saidX:=0,saidY:=0,questions:=d.questions+1 }
def lV (K:UR) (a:bF):Sp:=λvs H Q _=>∃ (p ask ht ag en:Addr) (d:UW),vs=[.ref p]/\fY a H p ask ht ag en d/\d.x≠d.y /\
 ∀ (H':Hp) (ask':Addr),Keeps [p] H H'->H ask'=none->fY a H' p ask' ht ag en (asks d)->Q .dF H'
theorem tO (T:Txt K mg a):a7 P w K mg base eQ 2 a.cp a.cg ["self"] (lV K a):=by
 refine T.ig.ok tN ?_ ?_
 ·rintro _ _ _ _ ⟨_,_,_,_,_,_,rfl,_⟩
  rfl
 ·rintro cdv A outer s H _ Q E hr ⟨p,ask,ht,ag,en,d,rfl,⟨⟨dx,h1⟩,h2,h3,h4,h5⟩,hxy,k⟩
  refine ⟨_,(ah (aQ (K:=K) (pv 0) (b5 Bk (b5 zZ (ai (K:=K) (pv 0) rfl) (ai (K:=K) (pv 0) rfl)) aw) rfl)
   (ah (aQ (K:=K) (pv 0) (bC (wo (K:=K) T) hr.lo rfl T.qC T.m5.kp T.qu .nil aE (aa (ai (K:=K) (pv 0) rfl) aj)) rfl)
   (ao (gX (K:=K) (pv 0) aw uN)))),?_⟩
  have np:ht≠p:=h2.ne h1
  have gp:ag≠p:=aV h3 h1 (by intro z;cases z)
  have ep:en≠p:=aV h5 h1 (by intro z;cases z)
  refine vF rfl h1 T.ay T.dJ rfl (vF rfl h1 T.ay T.du rfl ⟨_,xE rfl ⟨rfl,_,xE rfl ⟨rfl,⟨by decide,by decide⟩,vS rfl h1 T.ay T.bz (by show 9 < 1000;decide) ?_⟩⟩⟩)
  have e0:((λ(i j:Int)=>V.int (i / j)) ((d.lo:Int)+(d.hi:Int)) 2)=V.int (((d.lo+d.hi) / 2:Nat):Int):=by
   show V.int _=_
   congr 1
  rw [e0]
  refine vF rfl ae T.ay T.aX rfl ⟨ht,[d.x,d.y],rfl,(h2.imp λo q=>by rw [ak np];exact q).sq,by simp [hxy],by show 2<=1000;decide,λH2 ask' s2 ha hask=>?_⟩
  have ap:ask'≠p:=λz=>by rw [z,ae] at ha;cases ha
  refine vS rfl (s2 _ _ ae) T.ay T.jx (by show 9 < 1000;decide) ?_
  refine xE rfl ⟨p,a.aR,dx,_,xE rfl ⟨ae,T.ay,T.l4,rfl,_,xE rfl ⟨rfl,dx,_,ae,by show 9 < 1000;decide,?_⟩⟩⟩
  rw [b6]
  have kp:∀ (b:Addr) (o:HO),H b=some o->b≠p->H2 b=some o:=λb o e n=>s2 _ _ (by rw [ak n];exact e)
  refine k _ ask' (λb o e n=>?_) (by rw [ak ap] at ha;exact ha) ⟨⟨dx,ae⟩,?_,?_,?_,?_⟩
  ·have nb:b≠p:=λz=>n (by rw [z];exact UX.mpr rfl)
   rw [ak nb]
   exact kp _ _ e nb
  ·exact h2.imp λo q=>by rw [ak np];exact kp _ _ q np
  ·rw [ak gp];exact kp _ _ h3 gp
  ·rw [ak ap];exact hask
  ·rw [ak ep];exact kp _ _ h5 ep
def stI (s:UU):List Int:=(s.at_:Int)::s.nums.map λ(n:Nat)=>(n:Int)
theorem fN (s:UU):FL s=(stI s).map V.int:=by
 unfold FL stI l9
 rw [Vc,V0]
 rfl
theorem BK:∀ {l m:List Nat},(l.map λ(n:Nat)=>(n:Int))=m.map (λ(n:Nat)=>(n:Int))->l=m
 | [],[],_=>rfl
 | [],_::_,h=>by simp at h
 | _::_,[],h=>by simp at h
 | x::l,y::m,h=>by
  rw [Vc,Vc] at h
  injection h with h1 h2
  rw [BK h2,show x=y by lia]
theorem Qg {s t:UU} (h:stI s=stI t):s=t:=by
 unfold stI at h
 injection h with h1 h2
 have e1:s.at_=t.at_:=by lia
 have e2:=BK h2
 cases s
 cases t
 simp at e1 e2
 rw [e1,e2]
theorem BE (s t:UU):decide (stI s=stI t)=decide (s=t):=by
 by_cases e:s=t
 ·rw [e];simp
 ·rw [decide_eq_false e];exact decide_eq_false λh=>e (Qg h)
def cB (d:UW) (r s:UU):UW:=if r=s then { d with lo:=d.asked,agreed:=r } else { d with hi:=d.asked }
def cP (d:UW) (r s:UU):UW:=if (cB d r s).hi=(cB d r s).lo+1 then cB d r s else asks (cB d r s)
theorem GX (d:UW) (r s:UU):(cB d r s).x=d.x/\(cB d r s).y=d.y:=by
 unfold cB
 split<;>exact ⟨rfl,rfl⟩
def Ci (K:UR) (a:bF):Sp:=λvs H Q _=>∃ (p ask ht ag en f g:Addr) (d:UW) (r s:UU),vs=[.ref p,.ref f,.ref g]/\fY a H p ask ht ag en d/\d.x≠d.y/\H f=some (.tup (FL r))/\H g=some (.tup (FL s)) /\
 ∀ (H':Hp) (ask' ag':Addr),Keeps [p] H H'->(ask'=ask∨H ask'=none)->fY a H' p ask' ht ag' en (cP d r s)->Q .dF H'
theorem BO (T:Txt K mg a):a7 P w K mg base eQ 3 a.jC a.jz ["self","first_said","second_said"] (Ci K a):=by
 refine T.qV.ok Cf ?_ ?_
 ·rintro _ _ _ _ ⟨_,_,_,_,_,_,_,_,_,_,rfl,_⟩
  rfl
 ·rintro cdv A outer s H _ Q E hr ⟨p,ask,ht,ag,en,f,g,d,r,s0,rfl,D0,hxy,hf,hg,k⟩
  refine ⟨_,(ah (bg (a8 (D5 (K:=K) hr.units) (pv 1) (pv 2) (bo _)) (ah (aQ (K:=K) (pv 0) (ai (K:=K) (pv 0) rfl) rfl)
   (ao (aQ (K:=K) (pv 0) (pv 1) rfl))) (ao (aQ (K:=K) (pv 0) (ai (K:=K) (pv 0) rfl) rfl)))
   (ao (bg (ia (bG (b0 (pv 0) T.ay T.b8 (i6 (K:=K) T) hr.lo T.b7 .nil aE))) (ao (bQ (b0 (pv 0) T.ay T.ic (tO (K:=K) T) hr.lo T.ip .nil aE))) aO))),?_⟩
  obtain ⟨⟨dx,h1⟩,h2,h3,h4,h5⟩:=D0
  have np:ht≠p:=h2.ne h1
  have gp:ag≠p:=aV h3 h1 (by intro z;cases z)
  have ep:en≠p:=aV h5 h1 (by intro z;cases z)
  have ap:ask≠p:=aV h4 h1 (by intro z;cases z)
  have fp:f≠p:=aV hf h1 (by intro z;cases z)
  have fin:∀ (H1:Hp) (ag1:Addr),Keeps [p] H H1->fY a H1 p ask ht ag1 en (cB d r s0) ->
    To (Td (tB (LD a.aR (Str.ofString "is_down_to_one_turn") (iQ K a) [] E0 (P8 0) Nu)))
     (Qq (LD a.aR (Str.ofString "ask_for_middle") (lV K a) [] E0 (P8 0) Nu)) Qu { nx:=λx H'=>Q V.dF H',rt:=Q } [some (.ref p),some (.ref f),some (.ref g)] H1:=λH1 ag1 kp D1=>by
   obtain ⟨dx1,g1⟩:=D1.ins
   refine vM rfl g1 rfl ⟨p,ask,ht,ag1,en,xE rfl ⟨D1,xE rfl ?_⟩⟩
   by_cases c:(cB d r s0).hi=(cB d r s0).lo+1
   ·rw [decide_eq_true c]
    refine bp (k H1 ask ag1 kp (.inl rfl) ?_)
    unfold cP
    rw [if_pos c]
    exact D1
   ·rw [decide_eq_false c]
    refine bf (vM rfl g1 rfl ⟨p,ask,ht,ag1,en,xE rfl ⟨D1,?_,λH2 ask' k2 ha D2=>?_⟩⟩)
    ·rw [(GX d r s0).1,(GX d r s0).2];exact hxy
    ·refine k H2 ask' ag1 (kp.trans k2) (.inr ?_) ?_
     ·exact kp.free ha λm=>by rw [UX.mp m,g1] at ha;cases ha
     ·unfold cP
      rw [if_neg c]
      exact D2
  refine x2 rfl rfl ⟨jy (stI r),jy (stI s0),pQ (gg.of (by rw [hf,fN])),pQ (gg.of (by rw [hg,fN])),shaped_ints _,shaped_ints _,xE rfl ?_⟩
  rw [sf,BE]
  by_cases c:r=s0
  ·rw [decide_eq_true c]
   refine bf ?_
   refine vF rfl h1 T.ay T.bz rfl (vS rfl h1 T.ay T.dJ (by show 9 < 1000;decide) ?_)
   refine xE rfl (vS rfl ae T.ay T.lL (by show 9 < 1000;decide) ?_)
   rw [b6]
   refine fin _ f (Keeps.upd (UX.mpr rfl)) ?_
   unfold cB
   rw [if_pos c]
   exact ⟨⟨dx,ae⟩,h2.imp λo q=>(by rw [ak np];exact q),by rw [ak fp];exact hf,by rw [ak ap];exact h4,by rw [ak ep];exact h5⟩
  ·rw [decide_eq_false c]
   refine bp ?_
   refine vF rfl h1 T.ay T.bz rfl (vS rfl h1 T.ay T.du (by show 9 < 1000;decide) ?_)
   refine fin _ ag (Keeps.upd (UX.mpr rfl)) ?_
   unfold cB
   rw [if_neg c]
   exact ⟨⟨dx,ae⟩,h2.imp λo q=>(by rw [ak np];exact q),by rw [ak gp];exact h3,by rw [ak ap];exact h4,by rw [ak ep];exact h5⟩
def newD (no x y T:Nat) (b:UU):UW:={ no:=no,x:=x,y:=y,lo:=0,agreed:=b,hi:=T,asked:=T / 2,saidX:=0,saidY:=0,lost:=0,questions:=if T<=1 then 0 else 1,verdict:=none }
def Ds (K:UR) (a:bF):Sp:=λvs H Q _=>∃ (p dx g:Addr) (x y T:Nat) (b:UU),vs=[.ref p,.int (x:Int),.int (y:Int),.ref g,.int (T:Int)]/\H p=some (.ins a.aR dx [])/\H g=some (.tup (FL b))/\x≠y/\1<=T /\
 ∀ (H':Hp) (ask ht en:Addr),Keeps [p] H H'->H ask=none->(∀ no,fY a H' p ask ht g en (newD no x y T b))->Q .dF H'
theorem DH (T:Txt K mg a):a7 P w K mg base eQ 2 a.kh a.lq ["self","first","second","beginning","turns"] (Ds K a):=by
 refine T.tj.ok DM ?_ ?_
 ·rintro _ _ _ _ ⟨_,_,_,_,_,_,_,rfl,_⟩
  rfl
 ·rintro cdv A outer s H _ Q E hr ⟨p,dx,g,x,y,T0,b,rfl,hp,hg,hxy,hT,k⟩
  refine ⟨_,(ah (aQ (K:=K) (pv 0) (PF (aa (pv 1) (aa (pv 2) aj))) rfl)
   (ah (aQ (K:=K) (pv 0) aw rfl)
   (ah (aQ (K:=K) (pv 0) (pv 3) rfl)
   (ah (aQ (K:=K) (pv 0) (pv 4) rfl)
   (ah (aQ (K:=K) (pv 0) (b5 Bk (pv 4) aw) rfl)
   (ah (aQ (K:=K) (pv 0) (bC (wo (K:=K) T) hr.lo rfl T.qC T.m5.kp T.qu .nil aE (aa (ai (K:=K) (pv 0) rfl) aj)) rfl)
   (ah (aQ (K:=K) (pv 0) (ow (a8 ua (pv 4) aw (bo _)) aw aw) rfl)
   (ah (aQ (K:=K) (pv 0) aw rfl)
   (ao (aQ (K:=K) (pv 0) (wU (aa aw (aa aw aj))) rfl)))))))))),?_⟩
  have gp:g≠p:=aV hg hp (by intro z;cases z)
  refine x2 rfl rfl ⟨O8,λht ob hht hoc hod=>?_⟩
  have tp:ht≠p:=λz=>by rw [z,hp] at hht;cases hht
  refine vS rfl (by rw [ak tp.symm];exact hp) T.ay T.aX (by show 0 < 1000;decide) ?_
  refine vS rfl ae T.ay T.dJ (by show 1 < 1000;decide) ?_
  rw [b6]
  refine xE rfl (vS rfl ae T.ay T.lL (by show 2 < 1000;decide) ?_)
  rw [b6]
  refine xE rfl (vS rfl ae T.ay T.du (by show 3 < 1000;decide) ?_)
  rw [b6]
  refine xE rfl ⟨_,xE rfl ⟨rfl,⟨by decide,by decide⟩,vS rfl ae T.ay T.bz (by show 4 < 1000;decide) ?_⟩⟩
  rw [b6]
  have e0:((λ(i j:Int)=>V.int (i / j)) (T0:Int) 2)=V.int ((T0 / 2:Nat):Int):=by
   show V.int _=_
   congr 1
  rw [e0]
  refine vF rfl ae T.ay T.aX rfl ⟨ht,[x,y],rfl,(FT.sq (p:=ht) (xs:=l9 [x,y]) ⟨ob,by rw [ak tp,ae];rfl,hoc,hod⟩),by simp [hxy],by show 2<=1000;decide,λH2 ask s2 ha hask=>?_⟩
  have ap:ask≠p:=λz=>by rw [z,ae] at ha;cases ha
  have at':ask≠ht:=λz=>by rw [z,ak tp,ae] at ha;cases ha
  refine vS rfl (s2 _ _ ae) T.ay T.jx (by show 5 < 1000;decide) ?_
  refine xE rfl ⟨rfl,xE rfl ?_⟩
  refine OM (.int ((if T0<=1 then 0 else 1:Nat):Int)) (λhc Q' hq'=>?_) (λhc Q' hq'=>?_) ?_
  ·have:T0=1:=by have:=of_decide_eq_true hc;injection this with this;lia
   rw [if_pos (by lia)] at hq'
   exact hq'
  ·have:¬ T0=1:=λz=>by rw [z] at hc;exact absurd hc (by decide)
   rw [if_neg (by lia)] at hq'
   exact hq'
  refine vS rfl ae T.ay T.l4 (by show 6 < 1000;decide) ?_
  rw [b6]
  refine vS rfl ae T.ay T.tG (by show 7 < 1000;decide) ?_
  rw [b6]
  refine ⟨O8,λen hen=>?_⟩
  have enp:en≠p:=λz=>by rw [z,ae] at hen;cases hen
  refine vS rfl (by rw [ak enp.symm];exact ae) T.ay T.dy (by show 8 < 1000;decide) ?_
  have hen2:H2 en=none:=by rw [ak enp] at hen;exact hen
  have ha0:H ask=none:=by rw [ak ap,ak at'] at ha;exact ha
  have kp:∀ (b:Addr) (o:HO),H b=some o->b≠p->H2 b=some o:=λb o e n=>s2 _ _ (by rw [ak n,ak (aC e hht)];exact e)
  have kt:FT H2 ht [.int (x:Int),.int (y:Int)]:=⟨ob,s2 _ _ (by rw [ak tp,ae]),hoc,hod⟩
  have fin:∀ (o1 o2 o3:HO) (b:Addr) (o:HO),H2 b=some o->b≠p->upd (upd (upd H2 p o1) en o2) p o3 b=some o:=λo1 o2 o3 b o e n=>by
   rw [ak n,ak (aC e hen2),ak n]
   exact e
  refine k _ ask ht en (λb o e n=>?_) ha0 (λno=>⟨⟨dx,ae⟩,kt.imp (λo q=>fin _ _ _ _ _ q tp),fin _ _ _ _ _ (kp _ _ hg gp) gp,fin _ _ _ _ _ hask ap,?_⟩)
  ·have nb:b≠p:=λz=>n (by rw [z];exact UX.mpr rfl)
   exact fin _ _ _ _ _ (kp _ _ e nb) nb
  ·rw [ak enp,ae]
   rfl
noncomputable def S6 (ot:Addr) (T:Nat) (oa:Addr) (l:Nat):List (Str × V):=[("hosts",.ref ot),("turn_asked",.int (T:Int)),("asked",.ref oa),("lost",.int (l:Int))]
def xn (cn:List Nat):List (Nat × Nat):=(List.range cn.length).map λi=>(i,cn.getD i 0)
structure HN (a:bF) (H:Hp) (op oa ot:Addr) (T:Nat) (cn:List Nat) (lost:Nat):Prop where
 ins:∃ dx,H op=some (.ins a.eK dx (S6 ot T oa lost))
 hosts:H ot=some (.tup (l9 (List.range cn.length)))
 ask:∃ kvs,H oa=some (.dK kvs)/\DR (λv (m:Nat)=>v=.int (m:Int)) kvs (xn cn)
theorem Kg (n:Nat):DR (λv (m:Nat)=>v=.int (m:Int)) (zeros (List.range n)) (xn (WJ n 0)):=by
 unfold zeros xn DR
 rw [WL]
 have:∀ l:List Nat,(∀ i∈l,i < n)->Paired (λ(kv:Key × V) (p:Nat × Nat)=>kv.1=Sum.inl ((p.1:Nat):Int)/\kv.2=.int ((p.2:Nat):Int)) (l.map λ(x:Nat)=>(Sum.inl (x:Int),V.int 0)) (l.map λi=>(i,(WJ n 0).getD i 0)):=by
  intro l
  induction l with
  | nil=>exact λ_=>.nil
  | cons i r ih =>
   intro h
   refine .cons ⟨rfl,?_⟩ (ih λj hj=>h j (Vl _ hj))
   have hi:=h i (Vi ..)
   show V.int 0=V.int (((WJ n 0).getD i 0:Nat):Int)
   rw [VY,List.getElem?_replicate,if_pos hi]
   rfl
 exact this _ λi hi=>Vq.mp hi
def DI (K:UR) (a:bF):Sp:=λvs H Q _=>∃ (op dx:Addr) (T n:Nat),vs=[.ref op,.int (T:Int),.int (n:Int)]/\H op=some (.ins a.eK dx [])/\n<=1000 /\
 ∀ (H':Hp) (oa ot:Addr),Keeps [op] H H'->H oa=none->HN a H' op oa ot T (WJ n 0) 0->Q .dF H'
theorem DE (T:Txt K mg a):a7 P w K mg base eQ 2 a.kz a.ku ["self","turns","n"] (DI K a):=by
 refine T.sP.ok DC ?_ ?_
 ·rintro _ _ _ _ ⟨_,_,_,_,rfl,_⟩
  rfl
 ·rintro cdv A outer s H _ Q E hr ⟨op,dx,T0,n,rfl,hp,hn,k⟩
  refine ⟨_,(ah (aQ (K:=K) (pv 0) (gb (Mc rfl) (by rfl) T.zo jR (aa (gb N7 (by rfl) T.D8 FN (aa (pv 2) aj)) aj)) rfl)
   (ah (aQ (K:=K) (pv 0) (pv 1) rfl)
   (ah (aQ (K:=K) (pv 0) (bC (wo (K:=K) T) hr.lo rfl T.qC T.m5.kp T.qu .nil aE (aa (ai (K:=K) (pv 0) rfl) aj)) rfl)
   (ao (aQ (K:=K) (pv 0) aw rfl))))),?_⟩
  refine xE rfl (xE rfl (λrg hrg=>⟨rg,n,rfl,ae,hn,λot hot=>?_⟩))
  have s1:ax H (upd (upd H rg (.rng 0 (n:Int))) ot (.tup ((List.range n).map λ(i:Nat)=>V.int (i:Int)))):=(ax.laid hrg).trans (ax.laid hot)
  have hot0:H ot=none:=(ax.laid hrg).free hot
  generalize hH1:upd (upd H rg (.rng 0 (n:Int))) ot (.tup ((List.range n).map λ(i:Nat)=>V.int (i:Int)))=H1 at s1 ⊢
  have ht1:H1 ot=some (.tup (l9 (List.range n))):=by rw [<- hH1,ae];rfl
  have hp1:=s1 _ _ hp
  have tp:ot≠op:=aV ht1 hp1 (by intro z;cases z)
  refine vS rfl hp1 T.eG T.qS (by show 0 < 1000;decide) ?_
  refine xE rfl (vS rfl ae T.eG T.kZ (by show 1 < 1000;decide) ?_)
  rw [b6]
  refine vF rfl ae T.eG T.qS rfl ⟨ot,List.range n,rfl,gg.of (by rw [ak tp];exact ht1),List.nodup_range,by rw [VA];exact hn,λH2 oa s2 ha hask=>?_⟩
  have ap:oa≠op:=λz=>by rw [z,ae] at ha;cases ha
  refine vS rfl (s2 _ _ ae) T.eG T.qO (by show 2 < 1000;decide) ?_
  refine vS rfl ae T.eG T.tL (by show 3 < 1000;decide) ?_
  rw [b6]
  have kp:∀ (b:Addr) (o:HO),H1 b=some o->b≠op->H2 b=some o:=λb o e n=>s2 _ _ (by rw [ak n];exact e)
  have ha1:H1 oa=none:=by rw [ak ap] at ha;exact ha
  refine k _ oa ot (λb o e nb=>?_) (s1.free ha1) ⟨⟨dx,ae⟩,?_,zeros (List.range n),?_,Kg n⟩
  ·have nb':b≠op:=λz=>nb (by rw [z];exact UX.mpr rfl)
   rw [ak nb']
   exact kp _ _ (s1 _ _ e) nb'
  ·rw [ak tp,WL]
   exact kp _ _ ht1 tp
  ·rw [ak ap]
   exact hask
def Ah (K:UR) (a:bF):Sp:=λvs H Q _=>∃ (op:Addr),vs=[.ref op]/\Q (.bl true) H
theorem Ai (T:Txt K mg a):a7 P w K mg base eQ 1 a.gI a.gw ["self"] (Ah K a):=by
 refine T.nQ.ok Ae ?_ ?_
 ·rintro _ _ _ _ ⟨_,rfl,_⟩
  rfl
 ·rintro cdv A outer s H _ Q E hr ⟨op,rfl,k⟩
  refine ⟨_,(ao (aB Ed)),?_⟩
  exact k
end
inductive Role where
 | af | ls | op | oa | dl | host (i:Nat) | tell (i:Nat) | qa (i:Nat) | aK (j:Nat) | bM (j:Nat)
 deriving DecidableEq
def FV (n m:Nat):Role->Prop
 | .host i=>i < n
 | .tell i=>i < n
 | .qa i=>i < n
 | .aK j=>j < m
 | .bM j=>j < m
 | _=>True
structure Lay where
 ad:Role->Addr
 r:Addr
 lo:Addr
 hl:Addr
 ot:Addr
 os:List Addr
 ts:List Addr
 dt:Nat->Addr
 da:Nat->Addr
 de:Nat->Addr
 tl:Nat->Tl
noncomputable def EV (L:Lay) (A:UQ):List (Str × V):=[("run",.ref L.r),("turns",.int (A.turns:Int)),("losses_allowed",.int (A.mayLose:Int)),("hosts",.ref L.hl),("opening",.ref (L.ad .op)),("disputes",.ref (L.ad .dl)),("purse",.int (A.purse:Int)),("end_found",.bl A.found.isSome)]
def lY (A:UQ) (i:Nat):List (Nat × UU):=((A.heard.filter λh=>h.host == i).reverse).map λh=>(h.turn,h.says)
def T6 (H:Hp) (v:V) (s:UU):Prop:=∃ q,v=.ref q/\H q=some (.tup (FL s))
def HK (H:Hp) (h:Addr) (g:List (Nat × UU)):Prop:=∃ kvs,H h=some (.dK kvs)/\DR (T6 H) kvs g
structure aH (a:bF) (bad:List Addr) (H:Hp) (L:Lay) (A:UQ):Prop where
 inj:∀ r r',FV A.hosts.length A.disputes.length r->FV A.hosts.length A.disputes.length r'->L.ad r=L.ad r'->r=r'
 af:∃ dx,H (L.ad .af)=some (.ins a.aG dx (EV L A))
 run:sg a H L.r L.lo (L.ad .ls) L.os L.ts A.program A.begin_
 Nn:L.ts.length<=2001
 hl:H L.hl=some (.lst ((List.range A.hosts.length).map λi=>V.ref (L.ad (.host i))))
 host:∀ i,i < A.hosts.length->tf a H (L.ad (.host i)) (L.ad (.tell i)) (L.ad (.qa i)) (US A i).stake (US A i).out
 tell:∀ i,i < A.hosts.length->uP (L.ad .ls::L.ad .dl::bad) H (L.ad (.tell i)) (L.tl i)/\TB (L.tl i) (US A i).bent
 qa:∀ i,i < A.hosts.length->HK H (L.ad (.qa i)) (lY A i)
 op:HN a H (L.ad .op) (L.ad .oa) L.ot A.turns A.saidTo A.lost
 dl:H (L.ad .dl)=some (.lst ((List.range A.disputes.length).map λj=>V.ref (L.ad (.aK j))))
 aK:∀ j d,A.disputes[j]?=some d->fY a H (L.ad (.aK j)) (L.ad (.bM j)) (L.dt j) (L.da j) (L.de j) d
 N4:¬ L.lo∈L.ad .ls::L.ad .dl::bad
 NA:¬ L.hl∈L.ad .ls::L.ad .dl::bad
 Ge:A.saidTo.length=A.hosts.length
def Once:List Vbapaj.Heard->Prop
 | []=>True
 | h::r=>(∀ k∈r,¬ (k.host=h.host/\k.turn=h.turn))/\Once r
theorem zx (A:UQ) (i t:Nat) (ho:Once A.heard):zc (lY A i) t=UY A i t:=by
 unfold lY UY zc
 generalize A.heard=l at ho
 have key:∀ l:List Vbapaj.Heard,Once l->((((l.filter λh=>h.host == i).reverse).map λh=>(h.turn,h.says)).find? λp=>decide (p.1=t)).map (·.2)=(l.find? λh=>h.host == i&&h.turn == t).map λh=>h.says:=by
  intro l
  induction l with
  | nil=>intro _;rfl
  | cons h r ih =>
   intro hl
   have ih:=ih hl.2
   rw [Ve,Vy]
   by_cases hi:h.host=i
   ·have e1:(h.host == i)=true:=beq_iff_eq.mpr hi
    rw [e1,if_pos rfl,List.reverse_cons,Vk,List.find?_append]
    by_cases ht:h.turn=t
    ·have e2:(h.turn == t)=true:=beq_iff_eq.mpr ht
     have hn:((((r.filter λh=>h.host == i).reverse).map λh=>(h.turn,h.says)).find? λp=>decide (p.1=t))=none:=by
      rw [WW]
      intro p hp
      obtain ⟨k,hk,rfl⟩:=Vb.mp hp
      have hk:=V5.mp (List.mem_reverse.mp hk)
      have h1:k.host=i:=beq_iff_eq.mp hk.2
      simp only [decide_eq_true_eq]
      exact λe=>hl.1 k hk.1 ⟨by rw [h1,hi],by rw [e,ht]⟩
     rw [hn,e2]
     simp [ht]
    ·have e2:(h.turn == t)=false:=beq_eq_false_iff_ne.mpr ht
     rw [e2]
     simp only [Wg]
     rw [<- ih]
     congr 1
     have:([(h.turn,h.says)].find? λp=>decide (p.1=t))=none:=by simp [ht]
     rw [show (VM (λh=>(h.turn,h.says)) [h])=[(h.turn,h.says)] from rfl,this]
     simp
   ·have e1:(h.host == i)=false:=beq_eq_false_iff_ne.mpr hi
    rw [e1]
    simp only [Wu,Bool.false_eq_true,if_false]
    exact ih
 exact key l ho
section
variable {P:Program} {w:World} {K:UR} {mg:Str->Option Value} {base:Heap} {a:bF}
def Ao (K:UR) (a:bF):Sp:=λvs H Q _=>∃ (bad:List Addr) (L:Lay) (A:UQ) (z:Int),vs=[.ref (L.ad .af),.int z]/\aH a bad H L A/\Q (.bl (decide (0<=z)&&decide (z < (A.hosts.length:Int)))) H
theorem fU (T:Txt K mg a):a7 P w K mg base eQ 1 a.gP a.gq ["self","number"] (Ao K a):=by
 refine T.nL.ok Aj ?_ ?_
 ·rintro _ _ _ _ ⟨_,_,_,_,rfl,_⟩
  rfl
 ·rintro cdv A outer s H _ Q E hr ⟨bad,L,A,z,rfl,F,k⟩
  refine ⟨_,(ao (aB (vW lA J8 aw (pv 1) (aT (a6 (K:=K)) (by rfl) T.dM Vd (aa (ai (K:=K) (pv 0) rfl) aj))))),?_⟩
  obtain ⟨dx,h1⟩:=F.af
  refine xE rfl ⟨0,z,rfl,rfl,xE rfl ?_⟩
  by_cases c1:(0:Int)<=z
  ·rw [decide_eq_true c1] at k ⊢
   refine bf (vF rfl h1 T.au T.bw rfl ⟨L.hl,xE rfl ⟨.inl (bc.of F.hl),_,xE rfl ⟨rfl,?_⟩⟩⟩)
   rw [UT,VA]
   exact k
  ·rw [decide_eq_false c1] at k ⊢
   exact bp k
def zX (K:UR) (a:bF):Sp:=λvs H Q _=>∃ (bad:List Addr) (L:Lay) (A:UQ) (z:Int),vs=[.ref (L.ad .af),.int z]/\aH a bad H L A/\Q (.bl (decide (0<=z)&&decide (z<=(A.turns:Int)))) H
theorem sN (T:Txt K mg a):a7 P w K mg base eQ 1 a.gH a.gG ["self","turn"] (zX K a):=by
 refine T.nY.ok AE ?_ ?_
 ·rintro _ _ _ _ ⟨_,_,_,_,rfl,_⟩
  rfl
 ·rintro cdv A outer s H _ Q E hr ⟨bad,L,A,z,rfl,F,k⟩
  refine ⟨_,(ao (aB (vW lA lA aw (pv 1) (ai (K:=K) (pv 0) rfl)))),?_⟩
  obtain ⟨dx,h1⟩:=F.af
  refine xE rfl ⟨0,z,rfl,rfl,xE rfl ?_⟩
  by_cases c1:(0:Int)<=z
  ·rw [decide_eq_true c1] at k ⊢
   exact bf (vF rfl h1 T.au T.fC rfl ⟨_,xE rfl ⟨rfl,k⟩⟩)
  ·rw [decide_eq_false c1] at k ⊢
   exact bp k
def xx (K:UR) (a:bF):Sp:=λvs H Q _=>∃ (bad:List Addr) (L:Lay) (A:UQ) (z:Int),vs=[.ref (L.ad .af),.int z]/\aH a bad H L A/\Q (.bl (decide (0<=z)&&decide (z<=(A.disputes.length:Int)))) H
theorem o8 (T:Txt K mg a):a7 P w K mg base eQ 1 a.dX a.ef ["self","number"] (xx K a):=by
 refine T.kJ.ok xt ?_ ?_
 ·rintro _ _ _ _ ⟨_,_,_,_,rfl,_⟩
  rfl
 ·rintro cdv A outer s H _ Q E hr ⟨bad,L,A,z,rfl,F,k⟩
  refine ⟨_,(ao (aB (vW lA lA aw (pv 1) (aT (a6 (K:=K)) (by rfl) T.dM Vd (aa (ai (K:=K) (pv 0) rfl) aj))))),?_⟩
  obtain ⟨dx,h1⟩:=F.af
  refine xE rfl ⟨0,z,rfl,rfl,xE rfl ?_⟩
  by_cases c1:(0:Int)<=z
  ·rw [decide_eq_true c1] at k ⊢
   refine bf (vF rfl h1 T.au T.bO rfl ⟨L.ad .dl,xE rfl ⟨.inl (bc.of F.dl),_,xE rfl ⟨rfl,?_⟩⟩⟩)
   rw [UT,VA]
   exact k
  ·rw [decide_eq_false c1] at k ⊢
   exact bp k
theorem lx {n i:Nat} {f:Nat->V} (h:i < n):((List.range n).map f)[i]?=some (f i):=by
 rw [Vw,WR h]
 rfl
def Cu (K:UR) (a:bF):Sp:=λvs H Q _=>∃ (bad:List Addr) (L:Lay) (A:UQ) (i:Nat),vs=[.ref (L.ad .af),.int (i:Int)]/\aH a bad H L A/\i < A.hosts.length/\Q (.bl (US A i).out) H
theorem lI (T:Txt K mg a):a7 P w K mg base eQ 1 a.jJ a.jG ["self","number"] (Cu K a):=by
 refine T.qR.ok CH ?_ ?_
 ·rintro _ _ _ _ ⟨_,_,_,_,rfl,_⟩
  rfl
 ·rintro cdv A outer s H _ Q E hr ⟨bad,L,A,i,rfl,F,hi,k⟩
  refine ⟨_,(ao (aB (ai (K:=K) (aJ (az (K:=K)) (ai (K:=K) (pv 0) rfl) (pv 1) (λ_ _=>rfl)) rfl))),?_⟩
  obtain ⟨dx,h1⟩:=F.af
  obtain ⟨dh,h2⟩:=F.host i hi
  exact vF rfl h1 T.au T.bw rfl (xE rfl (iE (bc.of F.hl) (at_of (j:=i) rfl (lx hi)) (fE h2 T.bK T.mY rfl k)))
def EW (K:UR) (a:bF):Sp:=λvs H Q _=>∃ (bad:List Addr) (L:Lay) (A:UQ) (i t:Nat),vs=[.ref (L.ad .af),.int (i:Int),.int (t:Int)]/\aH a bad H L A/\i < A.hosts.length/\Once A.heard/\∀ v,kj H v (UY A i t)->Q v H
theorem fQ (T:Txt K mg a):a7 P w K mg base eQ 1 a.mH a.mm ["self","number","turn"] (EW K a):=by
 refine T.vm.ok En ?_ ?_
 ·rintro _ _ _ _ ⟨_,_,_,_,_,rfl,_⟩
  rfl
 ·rintro cdv A outer s H _ Q E hr ⟨bad,L,A,i,t,rfl,F,hi,ho,k⟩
  refine ⟨_,(ao (aB (El (mF hr) (ai (K:=K) (aJ (az (K:=K)) (ai (K:=K) (pv 0) rfl) (pv 1) (λ_ _=>rfl)) rfl) (pv 2) ⟨rfl,rfl,rfl,rfl⟩))),?_⟩
  obtain ⟨dx,h1⟩:=F.af
  obtain ⟨dh,h2⟩:=F.host i hi
  obtain ⟨kvs,h3,h4⟩:=F.qa i hi
  refine vF rfl h1 T.au T.bw rfl (xE rfl (iE (bc.of F.hl) (at_of (j:=i) rfl (lx hi)) (fE h2 T.bK T.lP rfl ⟨L.ad (.qa i),rfl,.inl ⟨_,.inl h3⟩,xE rfl ⟨_,lH.k (k:=Sum.inl (t:Int)) h3,?_⟩⟩)))
  refine k _ ?_
  rw [<- zx A i t ho]
  rcases h4.get t with ⟨q1,q2⟩ | ⟨b,v,q1,q2,q3⟩
  ·rw [q1,q2]
   rfl
  ·rw [q1,q2]
   exact q3
end
section
variable {a:bF} {bad:List Addr} {H H':Hp} {L:Lay} {A:UQ}
abbrev Lv (A:UQ) (r:Role):Prop:=FV A.hosts.length A.disputes.length r
theorem aH.kind (F:aH a bad H L A) {r:Role} (hr:Lv A r) :
  (∃ C dx f v rest,H (L.ad r)=some (.ins C dx ((f,v)::rest))/\(f="run"∨f="hosts"∨f="stake"))∨(∃ kvs,H (L.ad r)=some (.dK kvs))∨((∃ xs,H (L.ad r)=some (.lst xs))/\(r=.ls∨r=.dl)):=by
 cases r with
 | af=>obtain ⟨dx,h⟩:=F.af;exact .inl ⟨_,dx,_,_,_,h,.inl rfl⟩
 | ls=>exact .inr (.inr ⟨⟨_,F.run.ES⟩,.inl rfl⟩)
 | op=>obtain ⟨dx,h⟩:=F.op.ins;exact .inl ⟨_,dx,_,_,_,h,.inr (.inl rfl)⟩
 | oa=>obtain ⟨kvs,h,_⟩:=F.op.ask;exact .inr (.inl ⟨_,h⟩)
 | dl=>exact .inr (.inr ⟨⟨_,F.dl⟩,.inr rfl⟩)
 | host i=>obtain ⟨dx,h⟩:=F.host i hr;exact .inl ⟨_,dx,_,_,_,h,.inr (.inr rfl)⟩
 | tell i=>obtain ⟨⟨kvs,h,_⟩,_⟩:=F.tell i hr;exact .inr (.inl ⟨_,h⟩)
 | qa i=>obtain ⟨kvs,h,_⟩:=F.qa i hr;exact .inr (.inl ⟨_,h⟩)
 | aK j =>
  obtain ⟨dx,h⟩:=(F.aK j _ (VI hr)).ins
  exact .inl ⟨_,dx,_,_,_,h,.inr (.inl rfl)⟩
 | bM j=>exact .inr (.inl ⟨_,(F.aK j _ (VI hr)).ask⟩)
theorem aH.there (F:aH a bad H L A) {r:Role} (hr:Lv A r):∃ o,H (L.ad r)=some o:=by
 rcases F.kind hr with ⟨_,_,_,_,_,h,_⟩ | ⟨_,h⟩ | ⟨⟨_,h⟩,_⟩<;>exact ⟨_,h⟩
theorem aH.QC (F:aH a bad H L A) {r:Role} (hr:Lv A r) (xs:List V):H (L.ad r)≠some (.tup xs):=λe=>by
 rcases F.kind hr with ⟨_,_,_,_,_,h,_⟩ | ⟨_,h⟩ | ⟨⟨_,h⟩,_⟩<;>(rw [h] at e;cases e)
theorem aH.off (F:aH a bad H L A) {r:Role} {rs:List Role} (hr:Lv A r) (hrs:∀ x∈rs,Lv A x) (h:¬ r∈rs):¬ L.ad r∈rs.map L.ad:=λm=>by
 obtain ⟨r',h',e⟩:=Vb.mp m
 exact h (F.inj _ _ (hrs r' h') hr e ▸ h')
theorem aH.Aa (F:aH a bad H L A) {rs:List Role} (hrs:∀ x∈rs,Lv A x) (k:Keeps (rs.map L.ad) H H'):∀ b xs,H b=some (.tup xs)->H' b=some (.tup xs):=λb xs e=>k _ _ e λm=>by
 obtain ⟨r',h',rfl⟩:=Vb.mp m
 exact F.QC (hrs r' h') xs e
theorem aH.Cd (F:aH a bad H L A) {rs:List Role} (hrs:∀ x∈rs,Lv A x) (k:Keeps (rs.map L.ad) H H') {b:Addr} {xs:List V} (h:FT H b xs):FT H' b xs:=by
 obtain ⟨o,h,q⟩:=h
 refine ⟨o,k _ _ h λm=>?_,q⟩
 obtain ⟨r',h',rfl⟩:=Vb.mp m
 rcases F.kind (hrs r' h') with ⟨_,_,_,_,_,h2,_⟩ | ⟨_,h2⟩ | ⟨⟨_,h2⟩,_⟩<;>(rw [h2] at h;cases h)
theorem aH.Ri (F:aH a bad H L A) {rs:List Role} (hrs:∀ x∈rs,Lv A x) (k:Keeps (rs.map L.ad) H H'):∀ b xs,H b=some (.lst xs)->¬ b∈L.ad .ls::L.ad .dl::bad->H' b=some (.lst xs):=λb xs e n=>k _ _ e λm=>by
 obtain ⟨r',h',rfl⟩:=Vb.mp m
 rcases F.kind (hrs r' h') with ⟨_,_,_,_,_,h,_⟩ | ⟨_,h⟩ | ⟨⟨_,h⟩,rfl | rfl⟩
 ·rw [h] at e;cases e
 ·rw [h] at e;cases e
 ·exact n (Vi ..)
 ·exact n (Vl _ (Vi ..))
theorem aH.TV (F:aH a bad H L A) {rs:List Role} (hrs:∀ x∈rs,Lv A x):¬ L.r∈rs.map L.ad:=λm=>by
 obtain ⟨r',h',e⟩:=Vb.mp m
 obtain ⟨dx,h⟩:=F.run.run
 rcases F.kind (hrs r' h') with ⟨_,_,f,_,_,h2,hf⟩ | ⟨_,h2⟩ | ⟨⟨_,h2⟩,_⟩
 ·refine kG h h2 ?_ e.symm
  rcases hf with rfl | rfl | rfl<;>decide
 ·rw [e,h] at h2;cases h2
 ·rw [e,h] at h2;cases h2
variable {rs:List Role}
theorem aH.runK (F:aH a bad H L A) (hrs:∀ x∈rs,Lv A x) (k:Keeps (rs.map L.ad) H H') (n:¬ Role.ls∈rs):sg a H' L.r L.lo (L.ad .ls) L.os L.ts A.program A.begin_:=by
 obtain ⟨⟨dx,h1⟩,h2,h3,h4,h5,h6,h7,h8⟩:=F.run
 have t:=F.Aa hrs k
 exact ⟨⟨dx,k _ _ h1 (F.TV hrs)⟩,F.Ri hrs k _ _ h2 F.N4,h3,λi q o hq ho=>t _ _ (h4 i q o hq ho),k _ _ h5 (F.off trivial hrs n),h6,h7,λi u hu=>t _ _ (h8 i u hu)⟩
theorem aH.Qp (F:aH a bad H L A) (hrs:∀ x∈rs,Lv A x) (k:Keeps (rs.map L.ad) H H'):H' L.hl=some (.lst ((List.range A.hosts.length).map λi=>V.ref (L.ad (.host i)))):=F.Ri hrs k _ _ F.hl F.NA
theorem aH.RE (F:aH a bad H L A) (hrs:∀ x∈rs,Lv A x) (k:Keeps (rs.map L.ad) H H') (n:¬ Role.af∈rs):∃ dx,H' (L.ad .af)=some (.ins a.aG dx (EV L A)):=by
 obtain ⟨dx,h⟩:=F.af
 exact ⟨dx,k _ _ h (F.off trivial hrs n)⟩
theorem aH.EY (F:aH a bad H L A) (hrs:∀ x∈rs,Lv A x) (k:Keeps (rs.map L.ad) H H') {i:Nat} (hi:i < A.hosts.length) (n:¬ Role.host i∈rs):tf a H' (L.ad (.host i)) (L.ad (.tell i)) (L.ad (.qa i)) (US A i).stake (US A i).out:=by
 obtain ⟨dx,h⟩:=F.host i hi
 exact ⟨dx,k _ _ h (F.off (r:=.host i) hi hrs n)⟩
theorem aH.De (F:aH a bad H L A) (hrs:∀ x∈rs,Lv A x) (k:Keeps (rs.map L.ad) H H') {i:Nat} (hi:i < A.hosts.length) (n:¬ Role.tell i∈rs):uP (L.ad .ls::L.ad .dl::bad) H' (L.ad (.tell i)) (L.tl i):=by
 obtain ⟨⟨kvs,h,hD⟩,_⟩:=F.tell i hi
 exact ⟨kvs,k _ _ h (F.off (r:=.tell i) hi hrs n),DR.imp (λv l hh=>CO.qh (l:=[]) (F.Aa hrs k) (F.Ri hrs k) hh) hD⟩
theorem aH.Jb (F:aH a bad H L A) (hrs:∀ x∈rs,Lv A x) (k:Keeps (rs.map L.ad) H H') {i:Nat} (hi:i < A.hosts.length) (n:¬ Role.qa i∈rs):HK H' (L.ad (.qa i)) (lY A i):=by
 obtain ⟨kvs,h,hD⟩:=F.qa i hi
 exact ⟨kvs,k _ _ h (F.off (r:=.qa i) hi hrs n),DR.imp (λv s ⟨q,e,hq⟩=>⟨q,e,F.Aa hrs k _ _ hq⟩) hD⟩
theorem aH.RZ (F:aH a bad H L A) (hrs:∀ x∈rs,Lv A x) (k:Keeps (rs.map L.ad) H H') (n:¬ Role.op∈rs) (n2:¬ Role.oa∈rs):HN a H' (L.ad .op) (L.ad .oa) L.ot A.turns A.saidTo A.lost:=by
 obtain ⟨⟨dx,h1⟩,h2,kvs,h3,h4⟩:=F.op
 exact ⟨⟨dx,k _ _ h1 (F.off trivial hrs n)⟩,F.Aa hrs k _ _ h2,kvs,k _ _ h3 (F.off trivial hrs n2),h4⟩
theorem aH.Rn (F:aH a bad H L A) (hrs:∀ x∈rs,Lv A x) (k:Keeps (rs.map L.ad) H H') (n:¬ Role.dl∈rs):H' (L.ad .dl)=some (.lst ((List.range A.disputes.length).map λj=>V.ref (L.ad (.aK j)))):=k _ _ F.dl (F.off trivial hrs n)
theorem aH.Di (F:aH a bad H L A) (hrs:∀ x∈rs,Lv A x) (k:Keeps (rs.map L.ad) H H') {j:Nat} {d:UW} (hj:A.disputes[j]?=some d) (n:¬ Role.aK j∈rs) (n2:¬ Role.bM j∈rs):fY a H' (L.ad (.aK j)) (L.ad (.bM j)) (L.dt j) (L.da j) (L.de j) d:=by
 have hl:j < A.disputes.length:=(Vn.mp hj).1
 obtain ⟨⟨dx,h1⟩,h2,h3,h4,h5⟩:=F.aK j d hj
 have t:=F.Aa hrs k
 exact ⟨⟨dx,k _ _ h1 (F.off (r:=.aK j) hl hrs n)⟩,F.Cd hrs k h2,t _ _ h3,k _ _ h4 (F.off (r:=.bM j) hl hrs n2),t _ _ h5⟩
def Lay.rQ (L:Lay) (j:Nat) (ask dt da de:Addr):Lay:={ L with ad:=λr=>if r=.bM j then ask else L.ad r,dt:=λi=>if i=j then dt else L.dt i,da:=λi=>if i=j then da else L.da i,de:=λi=>if i=j then de else L.de i }
theorem aH.rQ (F:aH a bad H L A) {j:Nat} {d d':UW} {ask dt da de:Addr} (hj:A.disputes[j]?=some d) (k:Keeps [L.ad (.aK j),L.ad (.bM j)] H H') (hask:ask=L.ad (.bM j)∨H ask=none) (D:fY a H' (L.ad (.aK j)) ask dt da de d') :
  aH a bad H' (L.rQ j ask dt da de) { A with disputes:=A.disputes.set j d' }:=by
 have hl:j < A.disputes.length:=(Vn.mp hj).1
 have hrs:∀ x∈[Role.aK j,Role.bM j],Lv A x:=λx hx=>by
  rcases U4.mp hx with rfl | hx
  ·exact hl
  ·rw [UX.mp hx];exact hl
 have k':Keeps ([Role.aK j,Role.bM j].map L.ad) H H':=k
 have ad:∀ r,r≠.bM j->(L.rQ j ask dt da de).ad r=L.ad r:=λr hr=>if_neg hr
 have adj:(L.rQ j ask dt da de).ad (.bM j)=ask:=if_pos rfl
 have ll:(A.disputes.set j d').length=A.disputes.length:=Vs ..
 refine ⟨λr r' hr hr' e=>?_,?_,?_,F.Nn,?_,λi hi=>?_,λi hi=>?_,λi hi=>?_,?_,?_,λi e he=>?_,?_,?_,F.Ge⟩
 ·have hr:Lv A r:=by show FV _ _ r;rw [<- ll];exact hr
  have hr':Lv A r':=by show FV _ _ r';rw [<- ll];exact hr'
  by_cases c:r=.bM j
  ·by_cases c':r'=.bM j
   ·rw [c,c']
   ·rw [c,adj,ad _ c'] at e
    rcases hask with q | q
    ·rw [q] at e;rw [c];exact F.inj _ _ hl hr' e
    ·obtain ⟨o,ho⟩:=F.there hr'
     rw [<- e,q] at ho
     cases ho
  ·by_cases c':r'=.bM j
   ·rw [c',adj,ad _ c] at e
    rcases hask with q | q
    ·rw [q] at e;rw [c'];exact F.inj _ _ hr hl e
    ·obtain ⟨o,ho⟩:=F.there hr
     rw [e,q] at ho
     cases ho
   ·rw [ad _ c,ad _ c'] at e
    exact F.inj _ _ hr hr' e
 ·exact F.RE hrs k' (by simp)
 ·exact F.runK hrs k' (by simp)
 ·exact F.Qp hrs k'
 ·exact F.EY hrs k' hi (by simp)
 ·exact ⟨F.De hrs k' hi (by simp),(F.tell i hi).2⟩
 ·exact F.Jb hrs k' hi (by simp)
 ·exact F.RZ hrs k' (by simp) (by simp)
 ·rw [ll]
  exact F.Rn hrs k' (by simp)
 ·by_cases c:i=j
  ·subst c
   rw [V6 hl] at he
   cases he
   rw [adj,ad _ (by simp)]
   show fY a H' _ ask (if i=i then dt else L.dt i) (if i=i then da else L.da i) (if i=i then de else L.de i) d'
   rw [if_pos rfl,if_pos rfl,if_pos rfl]
   exact D
  ·rw [WI (λz=>c z.symm)] at he
   rw [ad _ (by simp),ad _ (by simp [c])]
   show fY a H' _ _ (if i=j then dt else L.dt i) (if i=j then da else L.da i) (if i=j then de else L.de i) e
   rw [if_neg c,if_neg c,if_neg c]
   exact F.Di hrs k' he (by simp [c]) (by simp [c])
 ·exact F.N4
 ·exact F.NA
theorem aH.OO (F:aH a bad H L A) {hs:List Vbapaj.Host} {pu:Nat} {fo:Option UU} (hlen:hs.length=A.hosts.length)
  (hb:∀ i,i < A.hosts.length->(US { A with hosts:=hs,purse:=pu,found:=fo } i).bent=(US A i).bent)
  (k:Keeps ((Role.af::(List.range A.hosts.length).map Role.host).map L.ad) H H') (haf:∃ dx,H' (L.ad .af)=some (.ins a.aG dx (EV L { A with hosts:=hs,purse:=pu,found:=fo })))
  (hh:∀ i,i < A.hosts.length->tf a H' (L.ad (.host i)) (L.ad (.tell i)) (L.ad (.qa i)) (US { A with hosts:=hs,purse:=pu,found:=fo } i).stake (US { A with hosts:=hs,purse:=pu,found:=fo } i).out) :
  aH a bad H' L { A with hosts:=hs,purse:=pu,found:=fo }:=by
 have hrs:∀ x∈Role.af::(List.range A.hosts.length).map Role.host,Lv A x:=λx hx=>by
  rcases U4.mp hx with rfl | hx
  ·trivial
  ·obtain ⟨i,hi,rfl⟩:=Vb.mp hx
   exact Vq.mp hi
 have nl:∀ {r:Role},(∀ i,r≠.host i)->r≠.af->¬ r∈Role.af::(List.range A.hosts.length).map Role.host:=λh1 h2 m=>by
  rcases U4.mp m with e | m
  ·exact h2 e
  ·obtain ⟨i,_,e⟩:=Vb.mp m
   exact h1 i e.symm
 have lv:∀ {r:Role},FV hs.length A.disputes.length r->Lv A r:=λh=>by rw [hlen] at h;exact h
 refine ⟨λr r' hr hr' e=>F.inj r r' (lv hr) (lv hr') e,haf,F.runK hrs k (nl (by simp) (by simp)),F.Nn,?_,λi hi=>?_,λi hi=>?_,λi hi=>?_,F.RZ hrs k (nl (by simp) (by simp)) (nl (by simp) (by simp)),F.Rn hrs k (nl (by simp) (by simp)),
  λj d hj=>F.Di hrs k hj (nl (by simp) (by simp)) (nl (by simp) (by simp)),F.N4,F.NA,?_⟩
 ·have:=F.Qp hrs k
  show H' L.hl=some (.lst ((List.range hs.length).map λi=>V.ref (L.ad (.host i))))
  rw [hlen]
  exact this
 ·exact hh i (by have hi:i < hs.length:=hi;lia)
 ·have hi:i < A.hosts.length:=by have hi:i < hs.length:=hi;lia
  rw [hb i hi]
  exact ⟨F.De hrs k hi (nl (by simp) (by simp)),(F.tell i hi).2⟩
 ·exact F.Jb hrs k (by have hi:i < hs.length:=hi;lia) (nl (by simp) (by simp))
 ·show A.saidTo.length=hs.length
  rw [hlen]
  exact F.Ge
end
structure Step (H:Hp) (L:Lay) (A:UQ) (H':Hp) (L':Lay) (A':UQ):Prop where
 keep:∀ b o,H b=some o->(∀ r,Lv A r->b≠L.ad r)->H' b=some o
 old:∀ r,Lv A' r->(∃ r0,Lv A r0/\L'.ad r=L.ad r0)∨H (L'.ad r)=none
 af:L'.ad .af=L.ad .af
 hl:A'.hosts.length=A.hosts.length
 dn:A.disputes.length<=A'.disputes.length
 aK:∀ j,j < A.disputes.length->L'.ad (.aK j)=L.ad (.aK j)
 host:∀ j,L'.ad (.host j)=L.ad (.host j)
 dl:L'.ad .dl=L.ad .dl
 ls:L'.ad .ls=L.ad .ls
 op:L'.ad .op=L.ad .op
 r:L'.r=L.r
theorem Step.refl (H:Hp) (L:Lay) (A:UQ):Step H L A H L A:=⟨λ_ _ e _=>e,λr hr=>.inl ⟨r,hr,rfl⟩,rfl,rfl,U1 _,λ_ _=>rfl,λ_=>rfl,rfl,rfl,rfl,rfl⟩
theorem Step.trans {H H1 H2:Hp} {L L1 L2':Lay} {A A1 A2:UQ} (s:Step H L A H1 L1 A1) (t:Step H1 L1 A1 H2 L2' A2):Step H L A H2 L2' A2 where
 keep:=λb o e n=>t.keep b o (s.keep b o e n) λr hr z=>by
  rcases s.old r hr with ⟨r0,h0,e0⟩ | h0
  ·exact n r0 h0 (z.trans e0)
  ·rw [<- z,e] at h0;cases h0
 old:=λr hr=>by
  rcases t.old r hr with ⟨r1,h1,e1⟩ | h1
  ·rcases s.old r1 h1 with ⟨r0,h0,e0⟩ | h0
   ·exact .inl ⟨r0,h0,e1.trans e0⟩
   ·exact .inr (by rw [e1];exact h0)
  ·cases q:H (L2'.ad r) with
   | none=>exact .inr rfl
   | some o =>
    by_cases c:∃ r0,Lv A r0/\L2'.ad r=L.ad r0
    ·exact .inl c
    ·rw [s.keep _ _ q λr0 h0 e0=>c ⟨r0,h0,e0⟩] at h1
     cases h1
 af:=t.af.trans s.af
 hl:=t.hl.trans s.hl
 dn:=U8 s.dn t.dn
 aK:=λj hj=>(t.aK j (VH hj s.dn)).trans (s.aK j hj)
 host:=λj=>(t.host j).trans (s.host j)
 dl:=t.dl.trans s.dl
 ls:=t.ls.trans s.ls
 op:=t.op.trans s.op
 r:=t.r.trans s.r
theorem Step.rQ {H H':Hp} {L:Lay} {A:UQ} {j:Nat} {d d':UW} {ask dt da de:Addr} (hj:A.disputes[j]?=some d) (k:Keeps [L.ad (.aK j),L.ad (.bM j)] H H') (hask:ask=L.ad (.bM j)∨H ask=none) :
  Step H L A H' (L.rQ j ask dt da de) { A with disputes:=A.disputes.set j d' }:=by
 have hl:j < A.disputes.length:=(Vn.mp hj).1
 refine ⟨λb o e n=>k b o e λm=>?_,λr hr=>?_,rfl,rfl,by rw [Vs];exact U1 _,λi hi=>rfl,λi=>rfl,rfl,rfl,rfl,rfl⟩
 ·rcases U4.mp m with e | m
  ·exact n (.aK j) hl e
  ·exact n (.bM j) hl (UX.mp m)
 ·have hr:Lv A r:=by
   have hr:FV A.hosts.length (A.disputes.set j d').length r:=hr
   rw [Vs] at hr
   exact hr
  by_cases c:r=.bM j
  ·subst c
   rcases hask with q | q
   ·exact .inl ⟨.bM j,hl,by show (if Role.bM j=Role.bM j then ask else _)=_;rw [if_pos rfl];exact q⟩
   ·exact .inr (by show H (if Role.bM j=Role.bM j then ask else _)=none;rw [if_pos rfl];exact q)
  ·exact .inl ⟨r,hr,by show (if r=Role.bM j then ask else _)=_;rw [if_neg c]⟩
noncomputable def cU (A:UQ) (d:UW):UW:=if U2 d=true then (if (US A d.x).out=true then { d with verdict:=some (.left d.x) } else if (US A d.y).out=true then { d with verdict:=some (.left d.y) } else d) else d
theorem kM (A:UQ):Vp A={ A with disputes:=A.disputes.map (cU A) }:=rfl
noncomputable def mX (A:UQ) (i:Nat):UQ:={ A with disputes:=(A.disputes.take i).map (cU A)++A.disputes.drop i }
theorem aH.same {a:bF} {bad:List Addr} {H H':Hp} {L:Lay} {A:UQ} (F:aH a bad H L A) (s:ax H H'):aH a bad H' L A:=by
 have hrs:∀ x∈([]:List Role),Lv A x:=λx hx=>by cases hx
 have k:Keeps (([]:List Role).map L.ad) H H':=λb o e _=>s b o e
 exact ⟨F.inj,F.RE hrs k (by simp),F.runK hrs k (by simp),F.Nn,F.Qp hrs k,λi hi=>F.EY hrs k hi (by simp),λi hi=>⟨F.De hrs k hi (by simp),(F.tell i hi).2⟩,λi hi=>F.Jb hrs k hi (by simp),F.RZ hrs k (by simp) (by simp),F.Rn hrs k (by simp),
  λj d hj=>F.Di hrs k hj (by simp) (by simp),F.N4,F.NA,F.Ge⟩
theorem Step.same {H H':Hp} {L:Lay} {A:UQ} (s:ax H H'):Step H L A H' L A:={ Step.refl H L A with keep:=λb o e _=>s b o e }
theorem rR {A:UQ} {i:Nat} {d:UW} (h:A.disputes[i]?=some d):(mX A i).disputes[i]?=some d:=by
 have hl:=(Vn.mp h).1
 show ((A.disputes.take i).map (cU A)++A.disputes.drop i)[i]?=some d
 rw [WK (by rw [UT,Vr];lia),UT,Vr,WV (by exact VN ‹_›),WU,List.getElem?_drop,Nat.add_zero]
 exact h
theorem CM {A:UQ} {i:Nat} {d:UW} (h:A.disputes[i]?=some d):({ mX A i with disputes:=(mX A i).disputes.set i (cU A d) }:UQ)=mX A (i+1):=by
 have hl:=(Vn.mp h).1
 have e:A.disputes.drop i=d::A.disputes.drop (i+1):=by
  rw [List.drop_eq_getElem_cons hl]
  congr 1
  exact (Vn.mp h).2
 have e2:((A.disputes.take i).map (cU A)++A.disputes.drop i).set i (cU A d)=(A.disputes.take (i+1)).map (cU A)++A.disputes.drop (i+1):=by
  rw [e,List.set_append_right _ _ (by rw [UT,Vr];lia),UT,Vr,WV (by exact VN ‹_›),WU,List.set_cons_zero,take_snoc h,Vk,W9]
  rfl
 show ({ A with disputes:=((A.disputes.take i).map (cU A)++A.disputes.drop i).set i (cU A d) }:UQ)={ A with disputes:=(A.disputes.take (i+1)).map (cU A)++A.disputes.drop (i+1) }
 rw [e2]
theorem IY {α:Type} {l:List α} {i:Nat} {x:α} (h:l[i]?=some x):l.set i x=l:=by
 obtain ⟨h1,h2⟩:=Vn.mp h
 rw [<- h2]
 exact List.set_getElem_self h1
theorem tR {A:UQ} {i:Nat} {d:UW} (h:A.disputes[i]?=some d) (e:cU A d=d):mX A (i+1)=mX A i:=by
 rw [<- CM h,e,IY (rR h)]
theorem Dm (A:UQ):mX A 0=A:=by
 unfold mX
 simp
theorem Kr (A:UQ):mX A A.disputes.length=Vp A:=by
 rw [kM]
 unfold mX
 simp
theorem nI {n i:Nat} {f:Nat->V} {x:V} (h:((List.range n).map f)[i]?=some x):i < n/\x=f i:=by
 obtain ⟨j,hj,e⟩:=rT h
 obtain ⟨h1,h2⟩:=Vn.mp hj
 rw [List.getElem_range] at h2
 rw [VA] at h1
 exact ⟨h1,by rw [e,<- h2]⟩
section
variable {P:Program} {w:World} {K:UR} {mg:Str->Option Value} {base:Heap} {a:bF}
def XY (A:UQ):Prop:=∀ d∈A.disputes,d.x < A.hosts.length/\d.y < A.hosts.length/\d.x≠d.y
def uX (K:UR) (a:bF):Sp:=λvs H Q _=>∃ (bad:List Addr) (L:Lay) (A:UQ),vs=[.ref (L.ad .af)]/\aH a bad H L A/\XY A /\
 ∀ (H':Hp) (L':Lay),Step H L A H' L' (Vp A)->aH a bad H' L' (Vp A)->Q .dF H'
theorem uO (T:Txt K mg a):a7 P w K mg base eQ 2 a.cM a.cH ["self"] (uX K a):=by
 refine T.iA.ok dO ?_ ?_
 ·rintro _ _ _ _ ⟨_,_,_,rfl,_⟩
  rfl
 ·rintro cdv A outer s H _ Q E hr ⟨bad,L,A,rfl,F,hx,k⟩
  refine ⟨_,(ao (Kw PassesOwn.never rfl (kR (K:=K) (ai (K:=K) (pv 0) rfl)) (ff (i:=1) dO.nd rfl (Or.inl rfl)) (ah (Bp (i:=2) rfl dO.nd rfl rfl (DV rfl rfl rfl (by decide +kernel)) (Hn (K:=K) (ai (K:=K) (pv 1) rfl)) (eU (own:=[("number",3)]) (by show xC ["self","dispute","gone","number"] (aq eE) _ _=true;decide +kernel)) (λ_ _ _ _ _=>ff (i:=3) dO.nd rfl (Or.inl rfl)) (λ_ _ _ _ _=>(Bl (bG (aI (pv 0) T.au T.gc (lI (K:=K) T) hr.lo T.gf .nil aE (aa (pv 3) aj))))) (λ_ _ _ _ _=>(pv 3)))
   (ao (bg (PW.pt (yi (zk (K:=K) (pv 2) (λ_=>rfl)) (zp (bG (b0 (pv 1) T.ay T.eL (ju (K:=K) T) hr.lo T.ej .nil aE))))) (ao (aQ (K:=K) (pv 1) (wU (aa (aM (by rfl) T.Ry) (aa (aJ (az (K:=K)) (pv 2) aw (λ_ _=>rfl)) aj))) rfl)) aO))))),?_⟩
  obtain ⟨dx,h1⟩:=F.af
  refine vF rfl h1 T.au T.bO rfl ⟨L.ad .dl,rfl,⟨_,bc.of F.dl⟩,Fi (K:=K) (xs:=(List.range A.disputes.length).map λj=>V.ref (L.ad (.aK j))) (λi σ H'=>∃ (v g n:Option V) (L':Lay),σ=[some (.ref (L.ad .af)),v,g,n]/\Step H L A H' L' (mX A i)/\aH a bad H' L' (mX A i)) ?_ ?_ ?_ ?_⟩
  ·exact ⟨none,none,none,L,rfl,by rw [Dm];exact Step.refl _ _ _,by rw [Dm];exact F⟩
  ·rintro i σ H' hi ⟨v,g,n,L',rfl,S,F'⟩
   have e:=F'.dl
   have e2:(mX A i).disputes.length=A.disputes.length:=by
    unfold mX
    simp
    rw [UT,VA] at hi
    lia
   rw [S.dl,e2,Wc (λj hj=>by rw [S.aK j (Vq.mp hj)])] at e
   exact bc.of e
  ·rintro i x σ H1 hx1 ⟨v,g,n,L',rfl,S,F'⟩
   obtain ⟨hi,rfl⟩:=nI hx1
   obtain ⟨d,hd⟩:∃ d,A.disputes[i]?=some d:=⟨_,VI hi⟩
   obtain ⟨xl,yl,xy⟩:=hx d (Vx hd)
   have D0:=F'.aK i d (rR hd)
   rw [S.aK i hi] at D0
   obtain ⟨dd,g1⟩:=D0.ins
   obtain ⟨da,g2⟩:=F'.af
   refine vF rfl g1 T.ay T.aX rfl ⟨L'.dt i,rfl,⟨_,D0.hosts.sq⟩,λD hD=>KL (K:=K) (xs:=l9 [d.x,d.y]) (λj H2=>H2 D=some (.lst (l9 (([d.x,d.y].take j).filter λz=>(US A z).out)))/\ax H1 H2) ⟨ae,ax.laid hD⟩ (λj H2 _ q=>(D0.hosts.imp (q.2 _)).sq) ?_ ?_⟩
   ·rintro j x H2 hj ⟨q1,q2⟩
    obtain ⟨z,hz,rfl⟩:=rT hj
    have zl:z < A.hosts.length:=by
     have:=Vx hz
     simp at this
     rcases this with rfl | rfl
     ·exact xl
     ·exact yl
    refine ⟨rfl,vM rfl (by rw [<- S.af];exact q2 _ _ g2) rfl (xE rfl ⟨bad,L',mX A i,z,by rw [S.af];rfl,F'.same q2,zl,xE rfl ?_⟩)⟩
    show if (US A z).out=true then _ else _
    cases ho:(US A z).out with
    | true =>
     refine bf (xE rfl ⟨_,q1,?_,?_,cO q2 hD⟩)
     ·rw [iu,sizeLine_eq]
      have:=VU (λz=>(US A z).out) ([d.x,d.y].take j)
      have:([d.x,d.y].take j).length<=2:=by rw [Vr];exact Nat.min_le_right _ _
      lia
     ·rw [ae,take_snoc hz,Wj,Ve,ho,if_pos rfl]
      unfold l9
      rw [Vk]
      rfl
    | false =>
     refine bp ⟨?_,q2⟩
     rw [take_snoc hz,Wj,Ve,ho,if_neg (by decide),Wr,Wx]
     exact q1
   ·rintro H2 ⟨q1,q2⟩
    have q1:H2 D=some (.lst (l9 ([d.x,d.y].filter λz=>(US A z).out))):=q1
    have F2:=F'.same q2
    refine xE rfl ⟨_,.inl ⟨_,bc.of q1,rfl⟩,?_⟩
    have key:(([d.x,d.y].filter λz=>(US A z).out)=[]/\cU A d=d)∨∃ z rest,([d.x,d.y].filter λz=>(US A z).out)=z::rest/\(U2 d=true->cU A d={ d with verdict:=some (.left z) })/\(U2 d=false->cU A d=d):=by
     unfold cU
     cases hX:(US A d.x).out with
     | true=>exact .inr ⟨d.x,_,by rw [Ve,hX,if_pos rfl],λo=>by rw [if_pos o,if_pos rfl],λo=>by rw [o];rfl⟩
     | false =>
      cases hY:(US A d.y).out with
      | true=>exact .inr ⟨d.y,[],by rw [Ve,hX,if_neg (by decide),Ve,hY,if_pos rfl];rfl,λo=>by rw [if_pos o,if_neg (by decide),if_pos rfl],λo=>by rw [o];rfl⟩
      | false=>exact .inl ⟨by rw [Ve,hX,if_neg (by decide),Ve,hY,if_neg (by decide)];rfl,by split<;>rfl⟩
    rcases key with ⟨e,eD⟩ | ⟨z,rest,e,e1,e2⟩
    ·rw [e]
     refine bp (bp ⟨_,_,_,L',rfl,?_,?_⟩)
     ·rw [tR hd eD];exact S.trans (Step.same q2)
     ·rw [tR hd eD];exact F2
    ·rw [e] at q1 ⊢
     have D2:=F2.aK i d (rR hd)
     rw [S.aK i hi] at D2
     refine bf (vM rfl (q2 _ _ g1) rfl ⟨L.ad (.aK i),L'.ad (.bM i),L'.dt i,L'.da i,L'.de i,d,rfl,D2,λH3 s3=>xE rfl ?_⟩)
     cases ho:U2 d with
     | false =>
      refine bp ⟨_,_,_,L',rfl,?_,?_⟩
      ·rw [tR hd (e2 ho)];exact S.trans (Step.same (q2.trans s3))
      ·rw [tR hd (e2 ho)];exact F2.same s3
     | true =>
      refine bf (vI rfl (bc.of (s3 _ _ q1)) (at_of (j:=0) rfl rfl) ⟨O8,λen hen=>?_⟩)
      have g3:=s3 _ _ (q2 _ _ g1)
      have np:en≠L.ad (.aK i):=λz=>by rw [z,g3] at hen;cases hen
      refine vS rfl (by rw [ak np.symm];exact g3) T.ay T.dy (by show 9 < 1000;decide) ?_
      have F3:=F2.same s3
      have D3:=F3.aK i d (rR hd)
      rw [S.aK i hi] at D3
      have kk:∀ (o1 o2:HO) (b:Addr) (o:HO),H3 b=some o->b≠L.ad (.aK i)->upd (upd H3 en o1) (L.ad (.aK i)) o2 b=some o:=λo1 o2 b o e n=>by
       rw [ak n,ak (aC e hen)]
       exact e
      have n1:L'.dt i≠L.ad (.aK i):=D3.hosts.ne g3
      have n2:L'.da i≠L.ad (.aK i):=aV D3.F8 g3 (by intro z;cases z)
      have n3:L'.ad (.bM i)≠L.ad (.aK i):=aV D3.ask g3 (by intro z;cases z)
      have DN:fY a (upd (upd H3 en (.tup [.int 4,.int (z:Int)])) (L.ad (.aK i)) (.ins a.aR dd (aZ (Str.ofString "ended") (.ref en) (v8 (L'.dt i) d.lo (L'.da i) d.hi d.asked (L'.ad (.bM i)) d.questions d.lost (L'.de i))))) (L.ad (.aK i)) (L'.ad (.bM i)) (L'.dt i) (L'.da i) en { d with verdict:=some (.left z) } :=
       ⟨⟨dd,ae⟩,D3.hosts.imp (λo q=>kk _ _ _ _ q n1),kk _ _ _ _ D3.F8 n2,kk _ _ _ _ D3.ask n3,by rw [ak np,ae];rfl⟩
      rw [<- S.aK i hi] at DN
      have KK:Keeps [L'.ad (.aK i),L'.ad (.bM i)] H3 (upd (upd H3 en (.tup [.int 4,.int (z:Int)])) (L'.ad (.aK i)) (.ins a.aR dd (aZ (Str.ofString "ended") (.ref en) (v8 (L'.dt i) d.lo (L'.da i) d.hi d.asked (L'.ad (.bM i)) d.questions d.lost (L'.de i))))):=λb o e n=>by
       rw [S.aK i hi] at n ⊢
       exact kk _ _ _ _ e λz=>n (by rw [z];exact Vi ..)
      have F5:=F3.rQ (rR hd) KK (.inl rfl) DN
      have S5:=(S.trans (Step.same (q2.trans s3))).trans (Step.rQ (dt:=L'.dt i) (da:=L'.da i) (de:=en) (d':={ d with verdict:=some (.left z) }) (rR hd) KK (.inl rfl))
      have eA:=CM hd
      rw [e1 ho] at eA
      rw [eA] at F5 S5
      rw [S.aK i hi] at F5 S5
      exact ⟨_,_,_,xE rfl ⟨S5,F5⟩⟩
  ·rintro σ H1 ⟨v,g,n,L',rfl,S,F'⟩
   rw [UT,VA,Kr] at S F'
   exact k H1 L' S F'
end
theorem kK {A:UQ} {i j:Nat} {h:Vbapaj.Host} (hi:i < A.hosts.length):US (VJ A i h) j=if j=i then h else US A j:=by
 unfold US VJ
 rw [VY,VY]
 by_cases e:j=i
 ·subst e
  rw [if_pos rfl,V6 hi]
  rfl
 ·rw [if_neg e,WI (λz=>e z.symm)]
theorem tK (A:UQ) (i:Nat) (to:Option Nat):(Vu A i to).hosts.length=A.hosts.length:=by
 unfold Vu
 simp only []
 split
 ·rfl
 ·cases to with
  | none=>exact Vs ..
  | some o=>exact (Vs ..).trans (Vs ..)
theorem kd (A:UQ) (i:Nat) (to:Option Nat):Vu A i to={ A with hosts:=(Vu A i to).hosts,purse:=(Vu A i to).purse,found:=A.found }:=by
 unfold Vu
 simp only []
 split
 ·rfl
 ·cases to<;>rfl
theorem uf {A:UQ} {i j:Nat} {to:Option Nat} (hi:i < A.hosts.length) (ho:(US A i).out=false) (hto:∀ o,to=some o->o < A.hosts.length/\o≠i) :
  US (Vu A i to) j=if j=i then { US A i with out:=true,stake:=0 } else if to=some j then { US A j with stake:=(US A j).stake+(US A i).stake / 2 } else US A j:=by
 unfold Vu
 simp only []
 rw [if_neg (by rw [ho];decide)]
 cases to with
 | none =>
  show US (VJ A i _) j=_
  rw [kK hi]
  simp
 | some o =>
  obtain ⟨h1,h2⟩:=hto o rfl
  have hl:o < (VJ A i { US A i with out:=true,stake:=0 }).hosts.length:=by
   show o < (A.hosts.set i _).length
   rw [Vs]
   exact h1
  show US (VJ (VJ A i _) o _) j=_
  rw [kK hl,kK hi,kK hi]
  by_cases e:j=o
  ·subst e
   rw [if_pos rfl,if_neg h2,if_neg h2,if_pos rfl]
  ·rw [if_neg e]
   by_cases e2:j=i
   ·rw [if_pos e2,if_pos e2]
   ·rw [if_neg e2,if_neg e2,if_neg (by intro z;injection z with z;exact e z.symm)]
theorem BJ {A:UQ} {i:Nat} {to:Option Nat} (ho:(US A i).out=false):(Vu A i to).purse=A.purse+(match to with | none=>(US A i).stake | some _=>(US A i).stake - (US A i).stake / 2):=by
 unfold Vu
 simp only []
 rw [if_neg (by rw [ho];decide)]
 cases to<;>rfl
def outs (A:UQ) (ns:List Nat) (to:Option Nat):UQ:=ns.foldl (λA h=>Vu A h to) A
theorem Nl (A:UQ) (ns:List Nat) (to:Option Nat) (x:Nat):outs A (ns++[x]) to=Vu (outs A ns to) x to:=by
 unfold outs
 rw [List.foldl_append]
 rfl
theorem Mw (A:UQ) (to:Option Nat):∀ ns:List Nat,(outs A ns to).disputes=A.disputes/\(outs A ns to).hosts.length=A.hosts.length:=by
 intro ns
 unfold outs
 induction ns generalizing A with
 | nil=>exact ⟨rfl,rfl⟩
 | cons x r ih =>
  obtain ⟨h1,h2⟩:=ih (Vu A x to)
  refine ⟨?_,?_⟩
  ·rw [List.foldl_cons,h1,kd]
  ·rw [List.foldl_cons,h2,tK]
section
variable {P:Program} {w:World} {K:UR} {mg:Str->Option Value} {base:Heap} {a:bF}
def TY (v:V) (o:Option Nat):Prop:=match o with
 | none=>v=.dF
 | some n=>v=.int (n:Int)
def AX (K:UR) (a:bF):Sp:=λvs H Q _=>∃ (bad:List Addr) (L:Lay) (A:UQ) (p:Addr) (ns:List Nat) (v:V) (to:Option Nat),vs=[.ref (L.ad .af),.ref p,v]/\aH a bad H L A/\XY A/\H p=some (.lst (l9 ns))/\(¬ ∃ r,Lv A r/\p=L.ad r)/\TY v to/\ns.Nodup /\
 (∀ n∈ns,n < A.hosts.length/\(US A n).out=false)/\(∀ o,to=some o->o < A.hosts.length/\∀ n∈ns,o≠n) /\
 ∀ (H':Hp) (L':Lay),Step H L A H' L' (Vp (outs A ns to))->aH a bad H' L' (Vp (outs A ns to))->Q .dF H'
theorem Step.OO {H H':Hp} {L:Lay} {A A':UQ} (k:Keeps ((Role.af::(List.range A.hosts.length).map Role.host).map L.ad) H H') (e1:A'.hosts.length=A.hosts.length) (e2:A'.disputes.length=A.disputes.length):Step H L A H' L A':=by
 refine ⟨λb o e n=>k b o e λm=>?_,λr hr=>.inl ⟨r,by show FV _ _ r;rw [<- e1,<- e2];exact hr,rfl⟩,rfl,e1,by omega,λ_ _=>rfl,λ_=>rfl,rfl,rfl,rfl,rfl⟩
 obtain ⟨r,hr,e⟩:=Vb.mp m
 rcases U4.mp hr with rfl | hr
 ·exact n .af trivial e.symm
 ·obtain ⟨i,hi,rfl⟩:=Vb.mp hr
  exact n (.host i) (Vq.mp hi) e.symm
theorem Js (L:Lay) (B:UQ) (n:Nat) (to:Option Nat):EV L (Vu B n to)=aZ (Str.ofString "purse") (.int ((Vu B n to).purse:Int)) (EV L B):=by
 rw [kd]
 rfl
theorem Ly {bad:List Addr} {H H1 H5:Hp} {L:Lay} {A B:UQ} {ns:List Nat} {to:Option Nat} {i n:Nat} (S:Step H L A H1 L B) (F1:aH a bad H1 L B) (hB:outs A (ns.take i) to=B) (hn:ns[i]?=some n) (hnd:ns.Nodup) (hnB:n < B.hosts.length)
  (hout:∀ n∈ns.drop i,(US B n).out=false) (hno:(US B n).out=false) (hto:∀ o,to=some o->o < B.hosts.length/\o≠n)
  (k:Keeps ((Role.af::(List.range B.hosts.length).map Role.host).map L.ad) H1 H5) (haf:∃ dx,H5 (L.ad .af)=some (.ins a.aG dx (aZ (Str.ofString "purse") (.int ((Vu B n to).purse:Int)) (EV L B))))
  (hh:∀ j,j < B.hosts.length->tf a H5 (L.ad (.host j)) (L.ad (.tell j)) (L.ad (.qa j)) (US (Vu B n to) j).stake (US (Vu B n to) j).out) :
  Step H L A H5 L (outs A (ns.take (i+1)) to)/\aH a bad H5 L (outs A (ns.take (i+1)) to)/\∀ m∈ns.drop (i+1),(US (outs A (ns.take (i+1)) to) m).out=false:=by
 rw [take_snoc hn,Nl,hB]
 have hl:=tK B n to
 refine ⟨S.trans (Step.OO k hl (by rw [kd])),?_,λm hm=>?_⟩
 ·rw [<- Js] at haf
  have f:=kd B n to
  rw [f] at haf hh ⊢
  refine F1.OO hl (λj hj=>?_) k haf hh
  rw [<- f,uf hnB hno hto]
  split
  ·rename_i e;rw [e]
  ·split<;>rfl
 ·have hl:=(Vn.mp hn).1
  have e:ns.drop i=n::ns.drop (i+1):=by
   rw [List.drop_eq_getElem_cons hl]
   congr 1
   exact (Vn.mp hn).2
  have hd:(ns.drop i).Nodup:=List.Nodup.sublist (List.drop_sublist _ _) hnd
  rw [e] at hd
  have nm:m≠n:=λz=>(V9.mp hd).1 (by rw [<- z];exact hm)
  have ho:=hout m (by rw [e];exact Vl _ hm)
  rw [uf hnB hno hto,if_neg nm]
  split<;>exact ho
theorem gB (T:Txt K mg a):a7 P w K mg base eQ 3 a.iI a.iR ["self","numbers","winner"] (AX K a):=by
 refine T.pk.ok j2 ?_ ?_
 ·rintro _ _ _ _ ⟨_,_,_,_,_,_,_,rfl,_⟩
  rfl
 ·rintro cdv A outer s H _ Q E hr ⟨bad,L,A,p,ns,v,to,rfl,F,hx,hp,hpn,hv,hnd,hns,hto,k⟩
  refine ⟨_,(ah (Kw PassesOwn.never rfl (kR (K:=K) (pv 1)) (ff (i:=3) j2.nd rfl (Or.inl rfl)) (ah (aN (i:=4) j2.nd rfl (Or.inl rfl) (aJ (az (K:=K)) (ai (K:=K) (pv 0) rfl) (pv 3) (λ_ _=>rfl)))
   (ah (bg (a8 K4 (pv 2) ib (bo _)) (ah (aN (i:=5) j2.nd rfl (Or.inl rfl) (aJ (az (K:=K)) (ai (K:=K) (pv 0) rfl) (pv 2) (λ_ _=>rfl)))
   (ah (gX (K:=K) (pv 5) (b5 Bk (ai (K:=K) (pv 4) rfl) aw) uN)
   (ao (gX (K:=K) (pv 4) (b5 Bk (ai (K:=K) (pv 4) rfl) aw) RQ)))) aO)
   (ah (gX (K:=K) (pv 0) (ai (K:=K) (pv 4) rfl) uN)
   (ah (aQ (K:=K) (pv 4) aw rfl)
   (ao (aQ (K:=K) (pv 4) Ed rfl)))))))
   (ao (bQ (b0 (pv 0) T.au T.i8 (uO (K:=K) T) hr.lo T.iK .nil aE)))),?_⟩
  refine xE rfl ⟨p,rfl,⟨_,bc.of hp⟩,Fi (K:=K) (xs:=l9 ns) (λi σ H'=>∃ (x y z:Option V),σ=[some (.ref (L.ad .af)),some (.ref p),some v,x,y,z]/\Step H L A H' L (outs A (ns.take i) to)/\aH a bad H' L (outs A (ns.take i) to)/\∀ n∈ns.drop i,(US (outs A (ns.take i) to) n).out=false) ?_ ?_ ?_ ?_⟩
  ·exact ⟨none,none,none,rfl,Step.refl _ _ _,F,λn hn=>(hns n hn).2⟩
  ·rintro i σ H1 _ ⟨x,y,z,rfl,S,F1,_⟩
   exact bc.of (S.keep _ _ hp λr hr e=>hpn ⟨r,hr,e⟩)
  ·rintro i x σ H1 hx1 ⟨x0,y0,z0,rfl,S,F1,hout⟩
   obtain ⟨n,hn,rfl⟩:=rT hx1
   generalize hB:outs A (ns.take i) to=B at S F1 hout
   have hnB:n < B.hosts.length:=by rw [S.hl];exact (hns n (Vx hn)).1
   have hno:(US B n).out=false:=hout n (by rw [List.mem_iff_getElem?];exact ⟨0,by rw [List.getElem?_drop,Nat.add_zero];exact hn⟩)
   obtain ⟨da,g1⟩:=F1.af
   obtain ⟨dh,g2⟩:=F1.host n hnB
   refine xE rfl ⟨L.ad .af,a.aG,da,_,xE rfl ⟨g1,T.au,T.bw,rfl,xE rfl (iG (bc.of F1.hl) (at_of (j:=n) rfl (lx hnB)) ?_)⟩⟩
   refine xE rfl ⟨rfl,xE rfl ?_⟩
   cases to with
   | none =>
    cases hv
    refine bp ?_
    have nah:L.ad .af≠L.ad (.host n):=kG g1 g2 (by decide)
    refine xE rfl ⟨L.ad .af,a.aG,da,_,xE rfl ⟨g1,T.au,T.nS,rfl,xE rfl ⟨L.ad (.host n),a.gU,dh,_,xE rfl ⟨g2,T.bK,T.dQ,rfl,_,xE rfl ⟨rfl,da,_,g1,by show 8 < 1000;decide,?_⟩⟩⟩⟩⟩
    refine vS rfl (by rw [ak nah.symm];exact g2) T.bK T.dQ (by show 4 < 1000;decide) ?_
    refine vS rfl ae T.bK T.mY (by show 4 < 1000;decide) ?_
    rw [b6]
    refine ⟨_,_,xE rfl (Ly S F1 hB hn hnd hnB hout hno (λo z=>by cases z) (λb o e m=>?_) ⟨da,?_⟩ λj hj=>?_)⟩
    ·rw [ak (λz=>m (Vb.mpr ⟨.host n,Vl _ (Vb.mpr ⟨n,Vq.mpr hnB,rfl⟩),z.symm⟩)),ak (λz=>m (Vb.mpr ⟨.af,Vi ..,z.symm⟩))]
     exact e
    ·rw [ak nah,ae,BJ hno]
     rfl
    ·rw [uf hnB hno (λo z=>by cases z)]
     by_cases e:j=n
     ·subst e
      rw [if_pos rfl]
      exact ⟨dh,ae⟩
     ·rw [if_neg e,if_neg (by intro z;cases z)]
      obtain ⟨dj,gj⟩:=F1.host j hj
      have n1:L.ad (.host j)≠L.ad (.host n):=λz=>e (by have:=F1.inj (.host j) (.host n) hj hnB z;injection this)
      have n2:L.ad (.host j)≠L.ad .af:=kG gj g1 (by decide)
      exact ⟨dj,by rw [ak n1,ak n2];exact gj⟩
   | some o =>
    cases hv
    refine bf ?_
    obtain ⟨ol,on⟩:=hto o rfl
    have ol:o < B.hosts.length:=by rw [S.hl];exact ol
    have on:o≠n:=on n (Vx hn)
    obtain ⟨dg,g3⟩:=F1.host o ol
    have nah:L.ad .af≠L.ad (.host n):=kG g1 g2 (by decide)
    have nao:L.ad .af≠L.ad (.host o):=kG g1 g3 (by decide)
    have nho:L.ad (.host n)≠L.ad (.host o):=λz=>on (by have:=F1.inj (.host n) (.host o) hnB ol z;injection this with this;exact this.symm)
    refine xE rfl ⟨L.ad .af,a.aG,da,_,xE rfl ⟨g1,T.au,T.bw,rfl,xE rfl (iG (bc.of F1.hl) (at_of (j:=o) rfl (lx ol)) ?_)⟩⟩
    refine xE rfl ⟨L.ad (.host o),a.gU,dg,_,xE rfl ⟨g3,T.bK,T.dQ,rfl,xE rfl ⟨L.ad (.host n),a.gU,dh,_,xE rfl ⟨g2,T.bK,T.dQ,rfl,_,xE rfl ⟨rfl,⟨by decide,by decide⟩,_,xE rfl ⟨rfl,dg,_,g3,by show 4 < 1000;decide,?_⟩⟩⟩⟩⟩⟩
    refine xE rfl ⟨L.ad (.host n),a.gU,dh,_,xE rfl ⟨by rw [ak nho];exact g2,T.bK,T.dQ,rfl,xE rfl ⟨L.ad (.host n),a.gU,dh,_,xE rfl ⟨by rw [ak nho];exact g2,T.bK,T.dQ,rfl,_,xE rfl ⟨rfl,⟨by decide,by decide⟩,_,xE rfl ⟨rfl,dh,_,by rw [ak nho];exact g2,by show 4 < 1000;decide,?_⟩⟩⟩⟩⟩⟩
    refine xE rfl ⟨L.ad .af,a.aG,da,_,xE rfl ⟨by rw [ak nah,ak nao];exact g1,T.au,T.nS,rfl,xE rfl ⟨L.ad (.host n),a.gU,dh,_,xE rfl ⟨ae,T.bK,T.dQ,rfl,_,xE rfl ⟨rfl,da,_,by rw [ak nah,ak nao];exact g1,by show 8 < 1000;decide,?_⟩⟩⟩⟩⟩
    refine vS rfl (by rw [ak nah.symm];exact ae) T.bK T.dQ (by show 4 < 1000;decide) ?_
    refine vS rfl ae T.bK T.mY (by show 4 < 1000;decide) ?_
    rw [b6]
    have mn:L.ad (.host n)∈(Role.af::(List.range B.hosts.length).map Role.host).map L.ad:=Vb.mpr ⟨.host n,Vl _ (Vb.mpr ⟨n,Vq.mpr hnB,rfl⟩),rfl⟩
    have mo:L.ad (.host o)∈(Role.af::(List.range B.hosts.length).map Role.host).map L.ad:=Vb.mpr ⟨.host o,Vl _ (Vb.mpr ⟨o,Vq.mpr ol,rfl⟩),rfl⟩
    have ma:L.ad .af∈(Role.af::(List.range B.hosts.length).map Role.host).map L.ad:=Vb.mpr ⟨.af,Vi ..,rfl⟩
    refine ⟨_,_,xE rfl (Ly S F1 hB hn hnd hnB hout hno (λo' z=>by cases z;exact ⟨ol,on⟩) (λb u e m=>?_) ⟨da,?_⟩ λj hj=>?_)⟩
    ·rw [ak (λz=>m (by rw [z];exact mn)),ak (λz=>m (by rw [z];exact ma)),ak (λz=>m (by rw [z];exact mn)),ak (λz=>m (by rw [z];exact mo))]
     exact e
    ·rw [ak nah,ae,BJ hno]
     congr 3
     show V.int _=V.int _
     congr 1
     have:=Nat.div_le_self (US B n).stake 2
     push_cast
     omega
    ·rw [uf hnB hno (λo' z=>by cases z;exact ⟨ol,on⟩)]
     by_cases e:j=n
     ·subst e
      rw [if_pos rfl]
      exact ⟨dh,ae⟩
     ·rw [if_neg e]
      have n1:L.ad (.host j)≠L.ad (.host n):=λz=>e (by have:=F1.inj (.host j) (.host n) hj hnB z;injection this)
      by_cases e2:j=o
      ·subst e2
       rw [if_pos rfl]
       exact ⟨dg,by rw [ak n1,ak nao.symm,ak n1,ae];rfl⟩
      ·rw [if_neg (by intro z;injection z with z;exact e2 z.symm)]
       obtain ⟨dj,gj⟩:=F1.host j hj
       have n3:L.ad (.host j)≠L.ad (.host o):=λz=>e2 (by have:=F1.inj (.host j) (.host o) hj ol z;injection this)
       have n2:L.ad (.host j)≠L.ad .af:=kG gj g1 (by decide)
       exact ⟨dj,by rw [ak n1,ak n2,ak n1,ak n3];exact gj⟩
  ·rintro σ H1 ⟨x,y,z,rfl,S,F1,_⟩
   rw [iu,VV] at S F1
   obtain ⟨da,g1⟩:=F1.af
   obtain ⟨e1,e2⟩:=Mw A to ns
   refine vM rfl g1 rfl ⟨bad,L,outs A ns to,rfl,F1,λd hd=>?_,λH2 L2 S2 F2=>k H2 L2 (S.trans S2) F2⟩
   rw [e2]
   rw [e1] at hd
   exact hx d hd
end
def aL (A:UQ) (j:Nat):UW:=A.disputes.getD j { no:=0,x:=0,y:=0,lo:=0,agreed:=⟨0,[]⟩,hi:=0,asked:=0,saidX:=0,saidY:=0,lost:=0,questions:=0,verdict:=none }
theorem ba {A:UQ} {j:Nat} (h:j < A.disputes.length):A.disputes[j]?=some (aL A j):=by
 unfold aL
 rw [VY,VI h]
 rfl
theorem yb {A:UQ} {j:Nat} {d:UW} (h:A.disputes[j]?=some d):aL A j=d:=by
 unfold aL
 rw [VY,h]
 rfl
def j7 (A:UQ) (n:Nat):List Nat:=(List.range A.disputes.length).filter λj=>U2 (aL A j)&&Vv (aL A j) n
theorem HS (n x y:Nat):Lm (.int (n:Int)) [.int (x:Int),.int (y:Int)]=(x == n || y == n):=by
 have h:∀ u:Nat,((u:Int) == (n:Int))=(u == n):=λu=>by
  by_cases e:u=n
  ·rw [e];simp
  ·rw [beq_eq_false_iff_ne.mpr e,beq_eq_false_iff_ne.mpr (by lia)]
 unfold Lm
 simp only [VP,List.any_nil,N8,Bool.or_false,h]
theorem sL {n i:Nat} (h:i < n):(List.range n)[i]?=some i:=WR h
section
variable {P:Program} {w:World} {K:UR} {mg:Str->Option Value} {base:Heap} {a:bF}
def rq (L:Lay) (js:List Nat):List V:=js.map λj=>V.ref (L.ad (.aK j))
def oy (A:UQ):List Nat:=(List.range A.disputes.length).filter λj=>U2 (aL A j)
theorem OE (A:UQ) (n:Nat):j7 A n=(oy A).filter λj=>Vv (aL A j) n:=by
 unfold j7 oy
 rw [List.filter_filter]
 exact List.filter_congr λj _=>Bool.and_comm _ _
theorem JR (A:UQ):(oy A).length<=A.disputes.length:=by
 have:=VU (λj=>U2 (aL A j)) (List.range A.disputes.length)
 rw [VA] at this
 exact this
def vV (K:UR) (a:bF):Sp:=λvs H Q _=>∃ (bad:List Addr) (L:Lay) (A:UQ),vs=[.ref (L.ad .af)]/\aH a bad H L A/\A.disputes.length<=1000 /\
 ∀ (H':Hp) (c:Addr),ax H H'->H c=none->H' c=some (.lst (rq L (oy A)))->Q (.ref c) H'
theorem nj (T:Txt K mg a):a7 P w K mg base eQ 2 a.cW a.dk ["self"] (vV K a):=by
 refine T.jk.ok iP ?_ ?_
 ·rintro _ _ _ _ ⟨_,_,_,rfl,_⟩
  rfl
 ·rintro cdv A outer s H _ Q E hr ⟨bad,L,A,rfl,F,hm,k⟩
  refine ⟨_,(ao (aB (xm rfl iP.nd (kR (K:=K) (ai (K:=K) (pv 0) rfl)) (eU (own:=[("dispute",1)]) (by show xC ["self","dispute"] (aq fh) _ _=true;decide +kernel)) (λ_ _ _ _ _=>ff (i:=1) iP.nd rfl (Or.inl rfl)) (λ_ _ _ _ _=>(Bl (bG (b0 (pv 1) T.ay T.eL (ju (K:=K) T) hr.lo T.ej .nil aE)))) (λ_ _ _ _ _=>(pv 1))))),?_⟩
  have hz:=sizeLine_eq
  obtain ⟨da,g1⟩:=F.af
  refine vF rfl g1 T.au T.bO rfl ⟨L.ad .dl,rfl,⟨_,bc.of F.dl⟩,λD hD=>tZ (K:=K) (xs:=(List.range A.disputes.length).map λj=>V.ref (L.ad (.aK j))) (λi H2=>H2 D=some (.lst (rq L (((List.range A.disputes.length).take i).filter λj=>U2 (aL A j))))/\ax H H2) ⟨ae,ax.laid hD⟩ (λi H2 _ q=>bc.of (q.2 _ _ F.dl)) ?_ ?_⟩
  ·rintro i x H2 hx ⟨q1,q2⟩
   obtain ⟨hi,rfl⟩:=nI hx
   have F2:=F.same q2
   have D2:=F2.aK i _ (ba hi)
   obtain ⟨dd,g2⟩:=D2.ins
   refine ⟨rfl,vM rfl g2 rfl ⟨L.ad (.aK i),_,_,_,_,aL A i,rfl,D2,λH3 s3=>xE rfl ?_⟩⟩
   have lenOk:(rq L (((List.range A.disputes.length).take i).filter λj=>U2 (aL A j))).length < sizeLine:=by
    unfold rq
    rw [UT]
    have:=VU (λj=>U2 (aL A j)) ((List.range A.disputes.length).take i)
    rw [Vr,VA] at this
    lia
   cases ho:U2 (aL A i) with
   | false =>
    refine bp ⟨?_,q2.trans s3⟩
    rw [take_snoc (sL hi),Wj,Ve,ho,if_neg (by decide),Wr,Wx]
    exact s3 _ _ q1
   | true =>
    refine bf (xE rfl ⟨_,s3 _ _ q1,lenOk,?_,cO (q2.trans s3) hD⟩)
    rw [ae,take_snoc (sL hi),Wj,Ve,ho]
    unfold rq
    rw [Vk]
    rfl
  ·rintro H2 ⟨q1,q2⟩
   rw [UT,VV] at q1
   exact k H2 D q2 hD q1
def tI (K:UR) (a:bF):Sp:=λvs H Q _=>∃ (bad:List Addr) (L:Lay) (A:UQ) (n:Nat),vs=[.ref (L.ad .af),.int (n:Int)]/\aH a bad H L A/\A.disputes.length<=1000 /\
 ∀ (H':Hp) (c:Addr),ax H H'->H c=none->H' c=some (.lst (rq L (j7 A n)))->Q (.ref c) H'
theorem fF (T:Txt K mg a):a7 P w K mg base eQ 3 a.b4 a.bY ["self","number"] (tI K a):=by
 refine T.fZ.ok fq ?_ ?_
 ·rintro _ _ _ _ ⟨_,_,_,_,rfl,_⟩
  rfl
 ·rintro cdv A outer s H _ Q E hr ⟨bad,L,A,n,rfl,F,hm,k⟩
  refine ⟨_,(ao (aB (xm rfl fq.nd (kR (K:=K) (b0 (pv 0) T.au T.fg (nj (K:=K) T) hr.lo T.fc .nil aE)) (eU (own:=[("dispute",2)]) (by show xC ["self","number","dispute"] (aq dB) _ _=true;decide +kernel)) (λ_ _ _ _ _=>ff (i:=2) fq.nd rfl (Or.inl rfl)) (λ_ _ _ _ _=>(Bl (a8 (NY (K:=K)) (pv 1) (ai (K:=K) (pv 2) rfl) rfl))) (λ_ _ _ _ _=>(pv 2))))),?_⟩
  have hz:=sizeLine_eq
  obtain ⟨da,g1⟩:=F.af
  refine vM rfl g1 rfl ⟨bad,L,A,rfl,F,hm,λH1 c s1 hc h1=>?_⟩
  have F1:=F.same s1
  have ml:=JR A
  refine ⟨c,rfl,⟨_,bc.of h1⟩,λD hD=>tZ (K:=K) (xs:=rq L (oy A)) (λi H2=>H2 D=some (.lst (rq L (((oy A).take i).filter λj=>Vv (aL A j) n)))/\ax H1 H2) ⟨ae,ax.laid hD⟩ (λi H2 _ q=>bc.of (q.2 _ _ h1)) ?_ ?_⟩
  ·rintro i v H2 hv ⟨q1,q2⟩
   obtain ⟨j,hj,rfl⟩:=rT hv
   have jl:j < A.disputes.length:=Vq.mp (V5.mp (Vx hj)).1
   have D2:=(F1.same q2).aK j _ (ba jl)
   obtain ⟨dd,g2⟩:=D2.ins
   refine ⟨rfl,xE rfl (vF rfl g2 T.ay T.aX rfl ⟨_,xE rfl ⟨.inr D2.hosts.sq,rfl,rfl,xE rfl ?_⟩⟩)⟩
   show if Lm (.int (n:Int)) [.int ((aL A j).x:Int),.int ((aL A j).y:Int)]=true then _ else _
   rw [HS]
   cases hp:Vv (aL A j) n with
   | false =>
    have hp':((aL A j).x == n || (aL A j).y == n)=false:=hp
    rw [hp']
    refine bp ⟨?_,q2⟩
    rw [take_snoc hj,Wj,Ve,hp,if_neg (by decide),Wr,Wx]
    exact q1
   | true =>
    have hp':((aL A j).x == n || (aL A j).y == n)=true:=hp
    rw [hp']
    refine bf (xE rfl ⟨_,q1,?_,?_,cO q2 hD⟩)
    ·unfold rq
     rw [UT]
     have:=VU (λj=>Vv (aL A j) n) ((oy A).take i)
     rw [Vr] at this
     lia
    ·rw [ae,take_snoc hj,Wj,Ve,hp]
     unfold rq
     rw [Vk]
     rfl
  ·rintro H2 ⟨q1,q2⟩
   have e:(rq L (oy A)).length=(oy A).length:=UT ..
   rw [e,VV,<- OE] at q1
   exact k H2 D (s1.trans q2) (s1.free hD) q1
def vf (K:UR) (a:bF):Sp:=λvs H Q _=>∃ (bad:List Addr) (L:Lay) (A:UQ) (x y:Nat),vs=[.ref (L.ad .af),.int (x:Int),.int (y:Int)]/\aH a bad H L A/\A.disputes.length<=1000 /\
 ∀ (H':Hp),ax H H'->Q (.bl ((j7 A x).any λj=>Vv (aL A j) y)) H'
theorem uK (T:Txt K mg a):a7 P w K mg base eQ 4 a.cE a.cK ["self","x","y"] (vf K a):=by
 refine T.iL.ok hU ?_ ?_
 ·rintro _ _ _ _ ⟨_,_,_,_,_,rfl,_⟩
  rfl
 ·rintro cdv A outer s H _ Q E hr ⟨bad,L,A,x,y,rfl,F,hm,k⟩
  refine ⟨_,(ao (aB (aT (Lg (K:=K) rfl) (by rfl) T.Qv C5 (aa (xm rfl hU.nd (kR (K:=K) (aI (pv 0) T.au T.b3 (fF (K:=K) T) hr.lo T.bZ .nil aE (aa (pv 1) aj))) (eU (own:=[("dispute",3)]) (by show xC ["self","x","y","dispute"] (aq eF) _ _=true;decide +kernel)) (λ_ _ _ _ _=>ff (i:=3) hU.nd rfl (Or.inl rfl)) (λ_ _ _ _ _=>oP) (λ_ _ _ _ _=>(nP (NY (K:=K)) (pv 2) (ai (K:=K) (pv 3) rfl) rfl))) aj)))),?_⟩
  have hz:=sizeLine_eq
  obtain ⟨da,g1⟩:=F.af
  refine vM rfl g1 rfl (xE rfl ⟨bad,L,A,x,rfl,F,hm,λH1 c s1 hc h1=>?_⟩)
  have F1:=F.same s1
  have ml:(j7 A x).length<=1000:=by
   have:=VU (λj=>U2 (aL A j)&&Vv (aL A j) x) (List.range A.disputes.length)
   rw [VA] at this
   unfold j7
   exact U8 ‹_› ‹_›
  refine ⟨c,rfl,⟨_,bc.of h1⟩,λD hD=>tZ (K:=K) (xs:=rq L (j7 A x)) (λi H2=>H2 D=some (.lst (((j7 A x).take i).map λj=>V.bl (Vv (aL A j) y)))/\ax H1 H2) ⟨ae,ax.laid hD⟩ (λi H2 _ q=>bc.of (q.2 _ _ h1)) ?_ ?_⟩
  ·rintro i v H2 hv ⟨q1,q2⟩
   obtain ⟨j,hj,rfl⟩:=rT hv
   have jl:j < A.disputes.length:=Vq.mp (V5.mp (Vx hj)).1
   have D2:=(F1.same q2).aK j _ (ba jl)
   obtain ⟨dd,g2⟩:=D2.ins
   refine ⟨rfl,EZ (xE rfl (vF rfl g2 T.ay T.aX rfl ⟨_,xE rfl ⟨.inr (D2.hosts.sq),rfl,rfl,_,q1,?_,?_,cO q2 hD⟩⟩))⟩
   ·rw [UT,Vr];lia
   ·rw [ae,take_snoc hj,Vk]
    show some (HO.lst (_++[V.bl (Lm (.int (y:Int)) [.int ((aL A j).x:Int),.int ((aL A j).y:Int)])]))=_
    rw [HS]
    rfl
  ·rintro H2 ⟨q1,q2⟩
   have e:(rq L (j7 A x)).length=(j7 A x).length:=UT ..
   rw [e,VV] at q1
   refine ⟨D,(j7 A x).map λj=>Vv (aL A j) y,rfl,bc.of (by rw [q1,V0];rfl),?_⟩
   rw [Wn]
   exact k H2 (s1.trans q2)
def Iv (A:UQ):List Nat:=(List.range A.hosts.length).filter λi=>!(US A i).out
def Az (K:UR) (a:bF):Sp:=λvs H Q _=>∃ (bad:List Addr) (L:Lay) (A:UQ),vs=[.ref (L.ad .af)]/\aH a bad H L A/\A.hosts.length<=1000 /\
 ∀ (H':Hp) (c:Addr),ax H H'->H c=none->H' c=some (.lst ((Iv A).map λi=>V.ref (L.ad (.host i))))->Q (.ref c) H'
theorem sF (T:Txt K mg a):a7 P w K mg base eQ 1 a.gM a.gn ["self"] (Az K a):=by
 refine T.nF.ok mM ?_ ?_
 ·rintro _ _ _ _ ⟨_,_,_,rfl,_⟩
  rfl
 ·rintro cdv A outer s H _ Q E hr ⟨bad,L,A,rfl,F,hm,k⟩
  refine ⟨_,(ao (aB (xm rfl mM.nd (kR (K:=K) (ai (K:=K) (pv 0) rfl)) (eU (own:=[("host",1)]) (by show xC ["self","host"] (aq jZ) _ _=true;decide +kernel)) (λ_ _ _ _ _=>ff (i:=1) mM.nd rfl (Or.inl rfl)) (λ_ _ _ _ _=>(Bl (ia (bG (ai (K:=K) (pv 1) rfl))))) (λ_ _ _ _ _=>(pv 1))))),?_⟩
  have hz:=sizeLine_eq
  obtain ⟨da,g1⟩:=F.af
  refine vF rfl g1 T.au T.bw rfl ⟨L.hl,rfl,⟨_,bc.of F.hl⟩,λD hD=>tZ (K:=K) (xs:=(List.range A.hosts.length).map λj=>V.ref (L.ad (.host j))) (λi H2=>H2 D=some (.lst ((((List.range A.hosts.length).take i).filter λi=>!(US A i).out).map λi=>V.ref (L.ad (.host i))))/\ax H H2) ⟨ae,ax.laid hD⟩ (λi H2 _ q=>bc.of (q.2 _ _ F.hl)) ?_ ?_⟩
  ·rintro i x H2 hx ⟨q1,q2⟩
   obtain ⟨hi,rfl⟩:=nI hx
   obtain ⟨dh,g2⟩:=(F.same q2).host i hi
   refine ⟨rfl,vF rfl g2 T.bK T.mY rfl (xE rfl ?_)⟩
   cases ho:(US A i).out with
   | true =>
    refine bp ⟨?_,q2⟩
    rw [take_snoc (sL hi),Wj,Ve,ho,if_neg (by decide),Wr,Wx]
    exact q1
   | false =>
    refine bf (xE rfl ⟨_,q1,?_,?_,cO q2 hD⟩)
    ·rw [UT]
     have:=VU (λi=>!(US A i).out) ((List.range A.hosts.length).take i)
     rw [Vr,VA] at this
     lia
    ·rw [ae,take_snoc (sL hi),Wj,Ve,ho,Vk]
     rfl
  ·rintro H2 ⟨q1,q2⟩
   rw [UT,VV] at q1
   exact k H2 D q2 hD q1
def xY (K:UR) (a:bF):Sp:=λvs H Q _=>∃ (bad:List Addr) (L:Lay) (A:UQ) (n:Nat),vs=[.ref (L.ad .af),.int (n:Int)]/\aH a bad H L A/\n<=A.disputes.length/\Q (.ref (if n=0 then L.ad .op else L.ad (.aK (n - 1)))) H
theorem bR (T:Txt K mg a):a7 P w K mg base eQ 1 a.eV a.eR ["self","number"] (xY K a):=by
 refine T.l6.ok yj ?_ ?_
 ·rintro _ _ _ _ ⟨_,_,_,_,rfl,_⟩
  rfl
 ·rintro cdv A outer s H _ Q E hr ⟨bad,L,A,n,rfl,F,hn,k⟩
  refine ⟨_,(ao (aB (ow (a8 ua (pv 1) aw (bo _)) (ai (K:=K) (pv 0) rfl) (aJ (az (K:=K)) (ai (K:=K) (pv 0) rfl) (b5 HJ (pv 1) aw) (λ_ _=>rfl))))),?_⟩
  obtain ⟨da,g1⟩:=F.af
  refine xE rfl ⟨rfl,xE rfl ?_⟩
  refine BP (λe=>?_) λe=>?_
  ·rw [if_pos (by lia)] at k
   exact vF rfl g1 T.au T.lD rfl k
  ·rw [if_neg (by lia)] at k
   exact vF rfl g1 T.au T.bO rfl (xE rfl ⟨_,xE rfl ⟨rfl,iE (bc.of F.dl) (at_of (j:=n - 1) (by lia) (lx (by lia))) k⟩⟩)
theorem XY.set {A:UQ} (h:XY A) {j:Nat} {d d':UW} (hj:A.disputes[j]?=some d) (e1:d'.x=d.x) (e2:d'.y=d.y):XY { A with disputes:=A.disputes.set j d' }:=λe he=>by
 rcases List.mem_or_eq_of_mem_set he with q | q
 ·exact h e q
 ·rw [q,e1,e2]
  exact h d (Vx hj)
theorem zv {bad:List Addr} {H:Hp} {L:Lay} {A:UQ} {j:Nat} {d:UW} {dd en:Addr} {v:Option Vbapaj.Verdict} {xs:List V} (F:aH a bad H L A) (hj:A.disputes[j]?=some d) (hen:H en=none)
  (g1:H (L.ad (.aK j))=some (.ins a.aR dd (v8 (L.dt j) d.lo (L.da j) d.hi d.asked (L.ad (.bM j)) d.questions d.lost (L.de j)))) (hv:(Wq v).map (λ(n:Nat)=>V.int (n:Int))=xs) :
  aH a bad (upd (upd H en (.tup xs)) (L.ad (.aK j)) (.ins a.aR dd (aZ (Str.ofString "ended") (.ref en) (v8 (L.dt j) d.lo (L.da j) d.hi d.asked (L.ad (.bM j)) d.questions d.lost (L.de j))))) (L.rQ j (L.ad (.bM j)) (L.dt j) (L.da j) en) { A with disputes:=A.disputes.set j { d with verdict:=v } } /\
  Step H L A (upd (upd H en (.tup xs)) (L.ad (.aK j)) (.ins a.aR dd (aZ (Str.ofString "ended") (.ref en) (v8 (L.dt j) d.lo (L.da j) d.hi d.asked (L.ad (.bM j)) d.questions d.lost (L.de j))))) (L.rQ j (L.ad (.bM j)) (L.dt j) (L.da j) en) { A with disputes:=A.disputes.set j { d with verdict:=v } }:=by
 have D3:=F.aK j d hj
 have np:en≠L.ad (.aK j):=λz=>by rw [z,g1] at hen;cases hen
 have kk:∀ (o1 o2:HO) (b:Addr) (o:HO),H b=some o->b≠L.ad (.aK j)->upd (upd H en o1) (L.ad (.aK j)) o2 b=some o:=λo1 o2 b o e n=>by
  rw [ak n,ak (aC e hen)]
  exact e
 have n1:L.dt j≠L.ad (.aK j):=D3.hosts.ne g1
 have n2:L.da j≠L.ad (.aK j):=aV D3.F8 g1 (by intro z;cases z)
 have n3:L.ad (.bM j)≠L.ad (.aK j):=aV D3.ask g1 (by intro z;cases z)
 have KK:∀ o1 o2,Keeps [L.ad (.aK j),L.ad (.bM j)] H (upd (upd H en o1) (L.ad (.aK j)) o2):=λo1 o2 b o e n=>kk _ _ _ _ e λz=>n (by rw [z];exact Vi ..)
 refine ⟨F.rQ hj (KK _ _) (.inl rfl) ⟨⟨dd,ae⟩,D3.hosts.imp (λo q=>kk _ _ _ _ q n1),kk _ _ _ _ D3.F8 n2,kk _ _ _ _ D3.ask n3,?_⟩,Step.rQ hj (KK _ _) (.inl rfl)⟩
 rw [ak np,ae,<- hv]
def xu (K:UR) (a:bF):Sp:=λvs H Q _=>∃ (bad:List Addr) (L:Lay) (A:UQ) (j how n:Nat) (d:UW) (v:Vbapaj.Verdict),vs=[.ref (L.ad .af),.ref (L.ad (.aK j)),.int (how:Int),.int (n:Int)]/\aH a bad H L A/\XY A/\A.disputes[j]?=some d /\
 Wq (some v)=[how,n]/\(n=d.x∨n=d.y)/\(US A n).out=false /\
 ∀ (H':Hp) (L':Lay),Step H L A H' L' (Vp (outs { A with disputes:=A.disputes.set j { d with verdict:=some v } } [n] (some (if n=d.x then d.y else d.x)))) ->
  aH a bad H' L' (Vp (outs { A with disputes:=A.disputes.set j { d with verdict:=some v } } [n] (some (if n=d.x then d.y else d.x))))->Q .dF H'
theorem o6 (T:Txt K mg a):a7 P w K mg base eQ 4 a.eg a.dW ["self","dispute","how","number"] (xu K a):=by
 refine T.lu.ok xD ?_ ?_
 ·rintro _ _ _ _ ⟨_,_,_,_,_,_,_,_,rfl,_⟩
  rfl
 ·rintro cdv A outer s H _ Q E hr ⟨bad,L,A,j,how,n,d,v,rfl,F,hx,hj,hv,hn,ho,k⟩
  refine ⟨_,(ah (aQ (K:=K) (pv 1) (wU (aa (pv 2) (aa (pv 3) aj))) rfl)
   (ao (bQ (aI (pv 0) T.au T.dI (gB (K:=K) T) hr.lo T.dH .nil aE (aa (aS (aa (pv 3) aj)) (aa (aI (pv 1) T.ay T.mI (vJ (K:=K) T) hr.lo T.mK .nil aE (aa (pv 3) aj)) aj)))))),?_⟩
  have jl:j < A.disputes.length:=(Vn.mp hj).1
  obtain ⟨xl,yl,xy⟩:=hx d (Vx hj)
  have D0:=F.aK j d hj
  obtain ⟨dd,g1⟩:=D0.ins
  refine x2 rfl rfl ⟨O8,λen hen=>?_⟩
  have np:en≠L.ad (.aK j):=λz=>by rw [z,g1] at hen;cases hen
  refine vS rfl (by rw [ak np.symm];exact g1) T.ay T.dy (by show 9 < 1000;decide) ?_
  obtain ⟨F1,S1⟩:=zv (v:=some v) (xs:=[.int (how:Int),.int (n:Int)]) F hj hen g1 (by rw [hv];rfl)
  generalize hH1:upd (upd H en (.tup [.int (how:Int),.int (n:Int)])) (L.ad (.aK j)) (.ins a.aR dd (aZ (Str.ofString "ended") (.ref en) (v8 (L.dt j) d.lo (L.da j) d.hi d.asked (L.ad (.bM j)) d.questions d.lost (L.de j))))=H1 at F1 S1 ⊢
  generalize hL1:L.rQ j (L.ad (.bM j)) (L.dt j) (L.da j) en=L1 at F1 S1
  have hx1:XY { A with disputes:=A.disputes.set j { d with verdict:=some v } }:=hx.set hj rfl rfl
  have hj1:(A.disputes.set j { d with verdict:=some v })[j]?=some { d with verdict:=some v }:=V6 jl
  obtain ⟨da,g2⟩:=F1.af
  rw [S1.af] at g2
  refine vM rfl g2 rfl (xE rfl ⟨nG,λp hp=>?_⟩)
  have s2:ax H1 (upd H1 p (.lst [.int (n:Int)])):=ax.laid hp
  have F2:=F1.same s2
  have D2:=F2.aK j _ hj1
  rw [S1.aK j jl] at D2
  obtain ⟨dd2,g3⟩:=D2.ins
  refine vM rfl g3 rfl (xE rfl ⟨L.ad (.aK j),_,_,_,_,_,n,rfl,D2,?_⟩)
  refine ⟨bad,L1,_,p,[n],_,some (if n=d.x then d.y else d.x),by rw [S1.af];rfl,F2,hx1,ae,λ⟨r,hr,e⟩=>?_,rfl,by simp,λm hm=>?_,λo e=>?_,λH3 L3 S3 F3=>?_⟩
  ·obtain ⟨u,hu⟩:=F1.there hr
   rw [<- e,hp] at hu
   cases hu
  ·rw [UX.mp hm]
   refine ⟨?_,ho⟩
   rcases hn with e | e
   ·rw [e];exact xl
   ·rw [e];exact yl
  ·injection e with e
   subst e
   refine ⟨?_,λm hm=>?_⟩
   ·show (if n=d.x then d.y else d.x) < A.hosts.length
    split
    ·exact yl
    ·exact xl
   ·rw [UX.mp hm]
    rcases hn with e | e
    ·rw [if_pos e,e];exact λz=>xy z.symm
    ·rw [if_neg (by rw [e];exact λz=>xy z.symm),e];exact xy
  ·exact k H3 L3 ((S1.trans (Step.same s2)).trans S3) F3
noncomputable def pw (A:UQ) (n:Nat):UQ:=match j7 A n with
 | []=>Vp (outs A [n] none)
 | j::_=>Vp (outs { A with disputes:=A.disputes.set j { aL A j with verdict:=some (.twice n) } } [n] (some (if n=(aL A j).x then (aL A j).y else (aL A j).x)))
def vN (K:UR) (a:bF):Sp:=λvs H Q _=>∃ (bad:List Addr) (L:Lay) (A:UQ) (n:Nat),vs=[.ref (L.ad .af),.int (n:Int)]/\aH a bad H L A/\XY A/\A.disputes.length<=1000/\n < A.hosts.length/\(US A n).out=false /\
 ∀ (H':Hp) (L':Lay),Step H L A H' L' (pw A n)->aH a bad H' L' (pw A n)->Q .dF H'
theorem wb (T:Txt K mg a):a7 P w K mg base eQ 5 a.cS a.cZ ["self","number"] (vN K a):=by
 refine T.jb.ok nz ?_ ?_
 ·rintro _ _ _ _ ⟨_,_,_,_,rfl,_⟩
  rfl
 ·rintro cdv A outer s H _ Q E hr ⟨bad,L,A,n,rfl,F,hx,hm,hn,ho,k⟩
  refine ⟨_,(ah (aN (i:=2) nz.nd rfl (Or.inl rfl) (aI (pv 0) T.au T.b3 (fF (K:=K) T) hr.lo T.bZ .nil aE (aa (pv 1) aj)))
   (ao (bg (zk (K:=K) (pv 2) (λ_=>rfl)) (ao (bQ (aI (pv 0) T.au T.gC (o6 (K:=K) T) hr.lo T.gK .nil aE (aa (aJ (az (K:=K)) (pv 2) aw (λ_ _=>rfl)) (aa (aM (by rfl) T.P0) (aa (pv 1) aj)))))) (ao (bQ (aI (pv 0) T.au T.dI (gB (K:=K) T) hr.lo T.dH .nil aE (aa (aS (aa (pv 1) aj)) (aa ib aj)))))))),?_⟩
  obtain ⟨da,g1⟩:=F.af
  refine vM rfl g1 rfl (xE rfl ⟨bad,L,A,n,rfl,F,hm,λH1 c s1 hc h1=>?_⟩)
  have F1:=F.same s1
  have g2:=s1 _ _ g1
  refine xE rfl ⟨_,.inl ⟨_,bc.of h1,rfl⟩,?_⟩
  unfold pw at k
  cases e:j7 A n with
  | nil =>
   rw [e] at k
   refine bp (vM rfl g2 rfl (xE rfl ⟨nG,λp hp=>⟨bad,L,A,p,[n],.dF,none,rfl,F1.same (ax.laid hp),hx,ae,λ⟨r,hr,e⟩=>?_,rfl,by simp,λm hm=>?_,λo e=>(by cases e),λH3 L3 S3 F3=>?_⟩⟩))
   ·obtain ⟨u,hu⟩:=F1.there hr
    rw [<- e,hp] at hu
    cases hu
   ·rw [UX.mp hm];exact ⟨hn,ho⟩
   ·exact k H3 L3 ((Step.same (s1.trans (ax.laid hp))).trans S3) F3
  | cons j r =>
   rw [e] at k h1
   have hj:j∈j7 A n:=by rw [e];exact Vi ..
   obtain ⟨h2,h3⟩:=V5.mp hj
   have jl:=Vq.mp h2
   rw [U6] at h3
   refine bf (vM rfl g2 rfl (vI rfl (bc.of h1) (at_of (j:=0) rfl rfl) (xE rfl ⟨bad,L,A,j,2,n,aL A j,.twice n,rfl,F1,hx,ba jl,rfl,?_,ho,λH3 L3 S3 F3=>?_⟩)))
   ·have h4:((aL A j).x == n || (aL A j).y == n)=true:=h3.2
    rw [Wz,beq_iff_eq,beq_iff_eq] at h4
    rcases h4 with h4 | h4
    ·exact .inl h4.symm
    ·exact .inr h4.symm
   ·exact k H3 L3 ((Step.same s1).trans S3) F3
noncomputable def oI (A:UQ) (k n:Nat):UQ:=if k=0 then Vp (outs A [n] none) else
 Vp (outs { A with disputes:=A.disputes.set (k - 1) { aL A (k - 1) with verdict:=some (.silent n) } } [n] (some (if n=(aL A (k - 1)).x then (aL A (k - 1)).y else (aL A (k - 1)).x)))
def vx (K:UR) (a:bF):Sp:=λvs H Q _=>∃ (bad:List Addr) (L:Lay) (A:UQ) (m n:Nat),vs=[.ref (L.ad .af),.int (m:Int),.int (n:Int)]/\aH a bad H L A/\XY A/\m<=A.disputes.length/\n < A.hosts.length/\(US A n).out=false/\(m≠0->n=(aL A (m - 1)).x∨n=(aL A (m - 1)).y) /\
 ∀ (H':Hp) (L':Lay),Step H L A H' L' (oI A m n)->aH a bad H' L' (oI A m n)->Q .dF H'
theorem uT (T:Txt K mg a):a7 P w K mg base eQ 5 a.cG a.cF ["self","dispute_number","number"] (vx K a):=by
 refine T.iH.ok u0 ?_ ?_
 ·rintro _ _ _ _ ⟨_,_,_,_,_,rfl,_⟩
  rfl
 ·rintro cdv A outer s H _ Q E hr ⟨bad,L,A,m,n,rfl,F,hx,hm,hn,ho,hmn,k⟩
  refine ⟨_,(ao (bg (a8 ua (pv 1) aw (bo _)) (ao (bQ (aI (pv 0) T.au T.dI (gB (K:=K) T) hr.lo T.dH .nil aE (aa (aS (aa (pv 2) aj)) (aa ib aj))))) (ao (bQ (aI (pv 0) T.au T.gC (o6 (K:=K) T) hr.lo T.gK .nil aE (aa (aI (pv 0) T.au T.bB (bR (K:=K) T) hr.lo T.bD .nil aE (aa (pv 1) aj)) (aa (aM (by rfl) T.NG) (aa (pv 2) aj)))))))),?_⟩
  obtain ⟨da,g1⟩:=F.af
  unfold oI at k
  refine xE rfl ⟨rfl,xE rfl ?_⟩
  refine BP (λe=>?_) λe=>?_
  ·rw [if_pos (by lia)] at k
   refine vM rfl g1 rfl (xE rfl ⟨nG,λp hp=>⟨bad,L,A,p,[n],.dF,none,rfl,F.same (ax.laid hp),hx,ae,λ⟨r,hr,e⟩=>?_,rfl,by simp,λm hm=>?_,λo e=>(by cases e),λH3 L3 S3 F3=>?_⟩⟩)
   ·obtain ⟨u,hu⟩:=F.there hr
    rw [<- e,hp] at hu
    cases hu
   ·rw [UX.mp hm];exact ⟨hn,ho⟩
   ·exact k H3 L3 ((Step.same (ax.laid hp)).trans S3) F3
  ·rw [if_neg (by lia)] at k
   refine vM rfl g1 rfl (vM rfl g1 rfl (xE rfl ⟨bad,L,A,m,rfl,F,hm,?_⟩))
   rw [if_neg (by lia)]
   exact xE rfl ⟨bad,L,A,m - 1,3,n,aL A (m - 1),.silent n,rfl,F,hx,ba (by lia),rfl,hmn (by lia),ho,λH3 L3 S3 F3=>k H3 L3 S3 F3⟩
end
noncomputable def qX (A:UQ) (d:UW):UW:={ d with verdict:=some (.wrong (UY A d.x d.hi != some (Wb A.program d.agreed)) (UY A d.y d.hi != some (Wb A.program d.agreed))) }
def bA (A:UQ) (j:Nat) (d:UW):UQ:={ A with disputes:=A.disputes.set j d }
structure Od (A:UQ) (d:UW) (r s:UU):Prop where
 xl:d.x < A.hosts.length
 yl:d.y < A.hosts.length
 xy:d.x≠d.y
 xo:(US A d.x).out=false
 yo:(US A d.y).out=false
 hx:UY A d.x d.hi=some r
 hy:UY A d.y d.hi=some s
 ne:r≠s
 lt:d.lo < d.hi
 le:d.hi<=2000
 mid:d.hi≠d.lo+1->d.asked=(d.lo+d.hi) / 2
structure Fq (A:UQ) (n:Nat):Prop where
 prog:yM A.program
 n6:n<=6
 vQ:ir A.program n A.begin_
 once:Once A.heard
theorem LB (o:Option UU) (r t:UU) (h:o=some r):(o != some t)=!decide (r=t):=by
 subst h
 by_cases e:r=t
 ·subst e;simp
 ·simp [e]
section
variable {P:Program} {w:World} {K:UR} {mg:Str->Option Value} {base:Heap} {a:bF}
def zW (K:UR) (a:bF):Sp:=λvs H Q _=>∃ (bad:List Addr) (L:Lay) (A:UQ) (j n:Nat) (d:UW) (r s:UU),vs=[.ref (L.ad .af),.ref (L.ad (.aK j))]/\aH a bad H L A/\XY A/\Fq A n/\A.disputes[j]?=some d/\Od A d r s/\ir A.program n d.agreed /\
 ∀ (H':Hp) (L':Lay),Step H L A H' L' (VL (bA A j (qX A d)) (qX A d))->aH a bad H' L' (VL (bA A j (qX A d)) (qX A d))->Q .dF H'
theorem AG (T:Txt K mg a):a7 P w K mg base eQ 4 a.gz a.gk ["self","dispute"] (zW K a):=by
 refine T.oR.ok jt ?_ ?_
 ·rintro _ _ _ _ ⟨_,_,_,_,_,_,_,_,rfl,_⟩
  rfl
 ·rintro cdv A outer s H _ Q E hr ⟨bad,L,A,j,n,d,r,s0,rfl,F,hx,OB,hj,OD,OG,k⟩
  refine ⟨_,(ah (aN (i:=2) jt.nd rfl (Or.inr rfl) (aI (ai (K:=K) (pv 0) rfl) T.m7 T.fu (l7 (K:=K) T) hr.lo T.fW .nil aE (aa (ai (K:=K) (pv 1) rfl) aj)))
   (ah (Bp (i:=3) rfl jt.nd rfl rfl (DV rfl rfl rfl (by decide +kernel)) (Hn (K:=K) (ai (K:=K) (pv 1) rfl)) (eU (own:=[("number",4)]) (by show xC ["self","dispute","truth","wrong","number"] (aq j3) _ _=true;decide +kernel)) (λ_ _ _ _ _=>ff (i:=4) jt.nd rfl (Or.inl rfl)) (λ_ _ _ _ _=>(Bl (a8 (LV (K:=K) hr.units) (aI (pv 0) T.au T.dS (fQ (K:=K) T) hr.lo T.dP .nil aE (aa (pv 4) (aa (ai (K:=K) (pv 1) rfl) aj))) (pv 2) (bo _)))) (λ_ _ _ _ _=>(pv 4)))
   (ao (bg (a8 ua (aT (a6 (K:=K)) (by rfl) T.dM Vd (aa (pv 3) aj)) aw (bo _)) (ah (aQ (K:=K) (pv 1) (wU (aa (aM (by rfl) T.L8) (aa aw aj))) rfl)
   (ao (bQ (aI (pv 0) T.au T.dI (gB (K:=K) T) hr.lo T.dH .nil aE (aa (pv 3) (aa ib aj)))))) (ah (aQ (K:=K) (pv 1) (wU (aa (aM (by rfl) T.L8) (aa (b5 zZ (QR PySem.F.plainAttrs_tuple PySem.F.slot_tuple_index PySem.F.type_tuple_index (Ke (K:=K)) (ai (K:=K) (pv 1) rfl) (aa (aJ (az (K:=K)) (pv 3) aw (λ_ _=>rfl)) aj)) aw) aj))) rfl)
   (ao (bQ (aI (pv 0) T.au T.dI (gB (K:=K) T) hr.lo T.dH .nil aE (aa (pv 3) (aa (aI (pv 1) T.ay T.mI (vJ (K:=K) T) hr.lo T.mK .nil aE (aa (aJ (az (K:=K)) (pv 3) aw (λ_ _=>rfl)) aj)) aj)))))))))),?_⟩
  have hz:=sizeLine_eq
  have jl:j < A.disputes.length:=(Vn.mp hj).1
  obtain ⟨da,g1⟩:=F.af
  obtain ⟨dr,g2⟩:=F.run.run
  have D0:=F.aK j d hj
  obtain ⟨dd,g3⟩:=D0.ins
  refine DZ rfl g1 T.au T.gm rfl g2 rfl (vF rfl g3 T.ay T.lL rfl ⟨L.r,L.lo,L.ad .ls,L.da j,L.os,L.ts,A.program,A.begin_,d.agreed,n,rfl,F.run,OB.prog,OB.n6,OG,gg.of D0.F8,λH1 tt s1 htt h1=>?_⟩)
  have F1:=F.same s1
  have D1:=F1.aK j d hj
  generalize hR:Wb A.program d.agreed=R at h1
  let Rz:Nat->UU:=λz=>if z=d.x then r else s0
  have hRz:∀ z,z=d.x∨z=d.y->UY A z d.hi=some (Rz z):=λz hz=>by
   rcases hz with e | e
   ·rw [e,OD.hx];simp [Rz]
   ·have:¬ z=d.x:=λq=>OD.xy (by rw [<- q,e])
    rw [e,OD.hy];simp [Rz];exact λq=>absurd q.symm OD.xy
  refine vF rfl (s1 _ _ g3) T.ay T.aX rfl ⟨L.dt j,rfl,⟨_,D1.hosts.sq⟩,λD hD=>KL (K:=K) (xs:=l9 [d.x,d.y]) (λi H2=>H2 D=some (.lst (l9 (([d.x,d.y].take i).filter λz=>!decide (Rz z=R))))/\ax H1 H2) ⟨ae,ax.laid hD⟩ (λi H2 _ q=>(D1.hosts.imp (q.2 _)).sq) ?_ ?_⟩
  ·rintro i x H2 hi ⟨q1,q2⟩
   obtain ⟨z,hz',rfl⟩:=rT hi
   have zz:z=d.x∨z=d.y:=by simpa using Vx hz'
   have zl:z < A.hosts.length:=by
    rcases zz with e | e
    ·rw [e];exact OD.xl
    ·rw [e];exact OD.yl
   refine ⟨rfl,vM rfl (q2 _ _ (s1 _ _ g1)) rfl (xE rfl (vF rfl (q2 _ _ (s1 _ _ g3)) T.ay T.du rfl ⟨bad,L,A,z,d.hi,rfl,F1.same q2,zl,OB.once,λv hv=>?_⟩))⟩
   rw [hRz z zz] at hv
   obtain ⟨q,rfl,hq⟩:=hv
   refine xE rfl ⟨jy (stI (Rz z)),jy (stI R),pQ (gg.of (by rw [hq,fN])),pQ (gg.of (by rw [q2 _ _ h1,fN])),shaped_ints _,shaped_ints _,xE rfl ?_⟩
   rw [sf,BE]
   cases c:decide (Rz z=R) with
   | true =>
    refine bp ⟨?_,q2⟩
    rw [take_snoc hz',Wj,Ve,c,if_neg (by decide),Wr,Wx]
    exact q1
   | false =>
    refine bf (xE rfl ⟨_,q1,?_,?_,cO q2 hD⟩)
    ·rw [iu]
     have:=VU (λz=>!decide (Rz z=R)) ([d.x,d.y].take i)
     have:([d.x,d.y].take i).length<=2:=by rw [Vr];exact Nat.min_le_right _ _
     lia
    ·rw [ae,take_snoc hz',Wj,Ve,c,if_pos (by decide)]
     unfold l9
     rw [Vk]
     rfl
  ·rintro H2 ⟨q1,q2⟩
   have q1:H2 D=some (.lst (l9 ([d.x,d.y].filter λz=>!decide (Rz z=R)))):=q1
   have F2:=F1.same q2
   have eX:(UY A d.x d.hi != some R)=!decide (Rz d.x=R):=LB _ _ _ (hRz d.x (.inl rfl))
   have eY:(UY A d.y d.hi != some R)=!decide (Rz d.y=R):=LB _ _ _ (hRz d.y (.inr rfl))
   have eW:qX A d={ d with verdict:=some (.wrong (!decide (Rz d.x=R)) (!decide (Rz d.y=R))) }:=by
    unfold qX
    rw [hR,eX,eY]
   rw [eW] at k
   have g4:=q2 _ _ (s1 _ _ g3)
   have D2:=F2.aK j d hj
   obtain ⟨oh,hh1,hh2,hh3⟩:=D2.hosts
   cases cX:decide (Rz d.x=R) with
   | true =>
    cases cY:decide (Rz d.y=R) with
    | true =>
     have e1:=of_decide_eq_true cX
     have e2:=of_decide_eq_true cY
     have e3:Rz d.x=r:=by simp [Rz]
     have e4:Rz d.y=s0:=by simp [Rz];exact λq=>absurd q.symm OD.xy
     exact absurd (by rw [<- e3,<- e4,e1,e2]) OD.ne
    | false =>
     rw [cX,cY] at k
     rw [Ve,cX,if_neg (by decide),Ve,cY,if_pos (by decide),Wr] at q1
     refine xE rfl ⟨D,xE rfl ⟨.inl (bc.of q1),rfl,xE rfl ?_⟩⟩
     refine BP (λh=>absurd h (by show ¬ ((1:Int)=2);decide)) λ_=>?_
     refine vF rfl g4 T.ay T.aX rfl ⟨⟨L.dt j,oh,xE rfl ⟨hh1,hh2,hh3⟩⟩,vI rfl (bc.of q1) (at_of (j:=0) rfl rfl) ⟨L.dt j,(d.x:Int),(d.y:Int),(d.y:Int),1,rfl,rfl,D2.hosts.sq,.inr ⟨rfl,λz=>OD.xy (by lia),rfl⟩,_,xE rfl ⟨rfl,O8,λen hen=>?_⟩⟩⟩
     have np:en≠L.ad (.aK j):=λz=>by rw [z,g4] at hen;cases hen
     refine vS rfl (by rw [ak np.symm];exact g4) T.ay T.dy (by show 9 < 1000;decide) ?_
     rw [show ((λ(i j:Int)=>V.int (i+j)) ((1:Nat):Int) 1)=V.int 2 from rfl]
     obtain ⟨F3,S3⟩:=zv (v:=some (.wrong false true)) (xs:=[.int 1,.int 2]) F2 hj hen g4 rfl
     have Dd:D≠L.ad (.aK j):=aV q1 g4 (by intro z;cases z)
     have q3:upd (upd H2 en (.tup [.int 1,.int 2])) (L.ad (.aK j)) (.ins a.aR dd (aZ (Str.ofString "ended") (.ref en) (v8 (L.dt j) d.lo (L.da j) d.hi d.asked (L.ad (.bM j)) d.questions d.lost (L.de j)))) D=some (.lst (l9 [d.y])):=by
      rw [ak Dd,ak (aC q1 hen)];exact q1
     generalize hH3:upd (upd H2 en (.tup [.int 1,.int 2])) (L.ad (.aK j)) (.ins a.aR dd (aZ (Str.ofString "ended") (.ref en) (v8 (L.dt j) d.lo (L.da j) d.hi d.asked (L.ad (.bM j)) d.questions d.lost (L.de j))))=H3 at F3 S3 q3 ⊢
     generalize hL3:L.rQ j (L.ad (.bM j)) (L.dt j) (L.da j) en=L3 at F3 S3
     have hx3:XY { A with disputes:=A.disputes.set j { d with verdict:=some (.wrong false true) } }:=hx.set hj rfl rfl
     have hj3:(A.disputes.set j { d with verdict:=some (.wrong false true) })[j]?=some { d with verdict:=some (.wrong false true) }:=V6 jl
     obtain ⟨da3,g5⟩:=F3.af
     rw [S3.af] at g5
     have nl:¬ ∃ r,Lv { A with disputes:=A.disputes.set j { d with verdict:=some (.wrong false true) } } r/\D=L3.ad r:=λ⟨r,hr,e⟩=>by
      rcases S3.old r hr with ⟨r0,h0,e0⟩ | h0
      ·obtain ⟨u,hu⟩:=F1.there h0
       rw [<- e0,<- e,hD] at hu
       cases hu
      ·rw [<- e,q1] at h0
       cases h0
     have D3:=F3.aK j _ hj3
     rw [S3.aK j jl] at D3
     obtain ⟨dd3,g6⟩:=D3.ins
     refine vM rfl g5 rfl (xE rfl (vM rfl g6 rfl (vI rfl (bc.of q3) (at_of (j:=0) rfl rfl) ⟨L.ad (.aK j),_,_,_,_,_,d.y,rfl,D3,?_⟩)))
     refine ⟨bad,L3,_,D,[d.y],_,some (if d.y=d.x then d.y else d.x),by rw [S3.af];rfl,F3,hx3,q3,nl,rfl,by simp,λm hm=>?_,λo e=>?_,λH4 L4 S4 F4=>k H4 L4 ((Step.same (s1.trans q2)).trans (S3.trans S4)) F4⟩
     ·rw [UX.mp hm];exact ⟨OD.yl,OD.yo⟩
     ·injection e with e
      subst e
      refine ⟨?_,λm hm=>?_⟩
      ·show (if d.y=d.x then d.y else d.x) < A.hosts.length
       split
       ·exact OD.yl
       ·exact OD.xl
      ·rw [UX.mp hm]
       rw [if_neg (λz=>OD.xy z.symm)];exact OD.xy
   | false =>
    cases cY:decide (Rz d.y=R) with
    | true =>
     rw [cX,cY] at k
     rw [Ve,cX,if_pos (by decide),Ve,cY,if_neg (by decide),Wr] at q1
     refine xE rfl ⟨D,xE rfl ⟨.inl (bc.of q1),rfl,xE rfl ?_⟩⟩
     refine BP (λh=>absurd h (by show ¬ ((1:Int)=2);decide)) λ_=>?_
     refine vF rfl g4 T.ay T.aX rfl ⟨⟨L.dt j,oh,xE rfl ⟨hh1,hh2,hh3⟩⟩,vI rfl (bc.of q1) (at_of (j:=0) rfl rfl) ⟨L.dt j,(d.x:Int),(d.y:Int),(d.x:Int),0,rfl,rfl,D2.hosts.sq,.inl ⟨rfl,rfl⟩,_,xE rfl ⟨rfl,O8,λen hen=>?_⟩⟩⟩
     have np:en≠L.ad (.aK j):=λz=>by rw [z,g4] at hen;cases hen
     refine vS rfl (by rw [ak np.symm];exact g4) T.ay T.dy (by show 9 < 1000;decide) ?_
     rw [show ((λ(i j:Int)=>V.int (i+j)) ((0:Nat):Int) 1)=V.int 1 from rfl]
     obtain ⟨F3,S3⟩:=zv (v:=some (.wrong true false)) (xs:=[.int 1,.int 1]) F2 hj hen g4 rfl
     have Dd:D≠L.ad (.aK j):=aV q1 g4 (by intro z;cases z)
     have q3:upd (upd H2 en (.tup [.int 1,.int 1])) (L.ad (.aK j)) (.ins a.aR dd (aZ (Str.ofString "ended") (.ref en) (v8 (L.dt j) d.lo (L.da j) d.hi d.asked (L.ad (.bM j)) d.questions d.lost (L.de j)))) D=some (.lst (l9 [d.x])):=by
      rw [ak Dd,ak (aC q1 hen)];exact q1
     generalize hH3:upd (upd H2 en (.tup [.int 1,.int 1])) (L.ad (.aK j)) (.ins a.aR dd (aZ (Str.ofString "ended") (.ref en) (v8 (L.dt j) d.lo (L.da j) d.hi d.asked (L.ad (.bM j)) d.questions d.lost (L.de j))))=H3 at F3 S3 q3 ⊢
     generalize hL3:L.rQ j (L.ad (.bM j)) (L.dt j) (L.da j) en=L3 at F3 S3
     have hx3:XY { A with disputes:=A.disputes.set j { d with verdict:=some (.wrong true false) } }:=hx.set hj rfl rfl
     have hj3:(A.disputes.set j { d with verdict:=some (.wrong true false) })[j]?=some { d with verdict:=some (.wrong true false) }:=V6 jl
     obtain ⟨da3,g5⟩:=F3.af
     rw [S3.af] at g5
     have nl:¬ ∃ r,Lv { A with disputes:=A.disputes.set j { d with verdict:=some (.wrong true false) } } r/\D=L3.ad r:=λ⟨r,hr,e⟩=>by
      rcases S3.old r hr with ⟨r0,h0,e0⟩ | h0
      ·obtain ⟨u,hu⟩:=F1.there h0
       rw [<- e0,<- e,hD] at hu
       cases hu
      ·rw [<- e,q1] at h0
       cases h0
     have D3:=F3.aK j _ hj3
     rw [S3.aK j jl] at D3
     obtain ⟨dd3,g6⟩:=D3.ins
     refine vM rfl g5 rfl (xE rfl (vM rfl g6 rfl (vI rfl (bc.of q3) (at_of (j:=0) rfl rfl) ⟨L.ad (.aK j),_,_,_,_,_,d.x,rfl,D3,?_⟩)))
     refine ⟨bad,L3,_,D,[d.x],_,some (if d.x=d.x then d.y else d.x),by rw [S3.af];rfl,F3,hx3,q3,nl,rfl,by simp,λm hm=>?_,λo e=>?_,λH4 L4 S4 F4=>k H4 L4 ((Step.same (s1.trans q2)).trans (S3.trans S4)) F4⟩
     ·rw [UX.mp hm];exact ⟨OD.xl,OD.xo⟩
     ·injection e with e
      subst e
      refine ⟨?_,λm hm=>?_⟩
      ·show (if d.x=d.x then d.y else d.x) < A.hosts.length
       split
       ·exact OD.yl
       ·exact OD.xl
      ·rw [UX.mp hm]
       rw [if_pos rfl];exact λz=>OD.xy z.symm
    | false =>
     rw [cX,cY] at k
     rw [Ve,cX,if_pos (by decide),Ve,cY,if_pos (by decide),Wr] at q1
     refine xE rfl ⟨D,xE rfl ⟨.inl (bc.of q1),rfl,xE rfl ?_⟩⟩
     refine BP (λ_=>?_) λh=>absurd (show ((2:Int)=2) from rfl) h
     refine ⟨O8,λen hen=>?_⟩
     have np:en≠L.ad (.aK j):=λz=>by rw [z,g4] at hen;cases hen
     refine vS rfl (by rw [ak np.symm];exact g4) T.ay T.dy (by show 9 < 1000;decide) ?_
     obtain ⟨F3,S3⟩:=zv (v:=some (.wrong true true)) (xs:=[.int 1,.int 3]) F2 hj hen g4 rfl
     have Dd:D≠L.ad (.aK j):=aV q1 g4 (by intro z;cases z)
     have q3:upd (upd H2 en (.tup [.int 1,.int 3])) (L.ad (.aK j)) (.ins a.aR dd (aZ (Str.ofString "ended") (.ref en) (v8 (L.dt j) d.lo (L.da j) d.hi d.asked (L.ad (.bM j)) d.questions d.lost (L.de j)))) D=some (.lst (l9 [d.x,d.y])):=by
      rw [ak Dd,ak (aC q1 hen)];exact q1
     generalize hH3:upd (upd H2 en (.tup [.int 1,.int 3])) (L.ad (.aK j)) (.ins a.aR dd (aZ (Str.ofString "ended") (.ref en) (v8 (L.dt j) d.lo (L.da j) d.hi d.asked (L.ad (.bM j)) d.questions d.lost (L.de j))))=H3 at F3 S3 q3 ⊢
     generalize hL3:L.rQ j (L.ad (.bM j)) (L.dt j) (L.da j) en=L3 at F3 S3
     have hx3:XY { A with disputes:=A.disputes.set j { d with verdict:=some (.wrong true true) } }:=hx.set hj rfl rfl
     have hj3:(A.disputes.set j { d with verdict:=some (.wrong true true) })[j]?=some { d with verdict:=some (.wrong true true) }:=V6 jl
     obtain ⟨da3,g5⟩:=F3.af
     rw [S3.af] at g5
     have nl:¬ ∃ r,Lv { A with disputes:=A.disputes.set j { d with verdict:=some (.wrong true true) } } r/\D=L3.ad r:=λ⟨r,hr,e⟩=>by
      rcases S3.old r hr with ⟨r0,h0,e0⟩ | h0
      ·obtain ⟨u,hu⟩:=F1.there h0
       rw [<- e0,<- e,hD] at hu
       cases hu
      ·rw [<- e,q1] at h0
       cases h0
     refine vM rfl g5 rfl (xE rfl ⟨bad,L3,_,D,[d.x,d.y],.dF,none,by rw [S3.af];rfl,F3,hx3,q3,nl,rfl,by simp [OD.xy],λm hm=>?_,λo e=>(by cases e),λH4 L4 S4 F4=>k H4 L4 ((Step.same (s1.trans q2)).trans (S3.trans S4)) F4⟩)
     have hm:m=d.x∨m=d.y:=by simpa using hm
     rcases hm with rfl | rfl
     ·exact ⟨OD.xl,OD.xo⟩
     ·exact ⟨OD.yl,OD.yo⟩
end
def fK (A:UQ) (j:Nat):UQ:=if U2 (aL A j)=false then A else
 if U2 (U3 A Va (aL A j))=true then bA A j (U3 A Va (aL A j)) else VL (bA A j (U3 A Va (aL A j))) (U3 A Va (aL A j))
theorem GV (A:UQ) (j:Nat) (d e:UW):bA (bA A j d) j e=bA A j e:=by
 unfold bA
 simp
theorem Ov {A:UQ} {j:Nat} {d:UW} (h:j < A.disputes.length):(bA A j d).disputes[j]?=some d:=V6 h
theorem Ap {A:UQ} {j:Nat} {d:UW} (h:A.disputes[j]?=some d):bA A j d=A:=by
 unfold bA
 rw [IY h]
theorem tX {A:UQ} {f:Nat} {d:UW} (ho:U2 d=true) (h:d.hi=d.lo+1):U3 A (f+1) d=qX A d:=by
 unfold U3
 rw [if_neg (by rw [ho];decide),if_pos (by lia)]
 rfl
theorem lS {A:UQ} {f:Nat} {d:UW} (ho:U2 d=true) (h:¬ d.hi<=d.lo+1) (hn:UY A d.x d.asked=none∨UY A d.y d.asked=none):U3 A (f+1) d=d:=by
 unfold U3
 rw [if_neg (by rw [ho];decide),if_neg h]
 rcases hn with e | e
 ·rw [e]
 ·rw [e]
  cases UY A d.x d.asked<;>rfl
theorem wt {A:UQ} {f:Nat} {d:UW} {r s:UU} (ho:U2 d=true) (h:¬ d.hi<=d.lo+1) (hr:UY A d.x d.asked=some r) (hs:UY A d.y d.asked=some s) (hl:(cB d r s).lo < (cB d r s).hi) :
  U3 A (f+1) d=U3 A f (cP d r s):=by
 rw [U3]
 rw [if_neg (by rw [ho];decide),if_neg h,hr,hs]
 show U3 A f (if (cB d r s).hi<=(cB d r s).lo+1 then cB d r s else asks (cB d r s))=_
 unfold cP
 by_cases c:(cB d r s).hi=(cB d r s).lo+1
 ·rw [if_pos c,if_pos (by lia)]
 ·rw [if_neg c,if_neg (by lia)]
theorem qk {A:UQ} {i t:Nat} {r:UU} (h:UY A i t=some r):∃ x∈A.heard,x.says=r:=by
 unfold UY at h
 cases e:A.heard.find? (λh=>h.host == i&&h.turn == t) with
 | none=>rw [e] at h;cases h
 | some x =>
  rw [e] at h
  exact ⟨x,Xl e,Option.some.inj h⟩
theorem Cn {A:UQ} {d:UW} {r0 s0 r s:UU} {f:Nat} (O:Od A d r0 s0) (ho:d.verdict=none) (h:¬ d.hi=d.lo+1) (hr:UY A d.x d.asked=some r) (hs:UY A d.y d.asked=some s) (hf:d.hi - d.lo<=2 ^ f) (f0:1<=f) :
  (cB d r s).lo < (cB d r s).hi/\(∃ r1 s1,Od A (cP d r s) r1 s1)/\(cP d r s).verdict=none/\(cP d r s).hi - (cP d r s).lo<=2 ^ (f - 1)/\(cP d r s).hi - (cP d r s).lo < d.hi - d.lo/\((cP d r s).agreed=d.agreed∨(cP d r s).agreed=r)/\(cP d r s).x=d.x/\(cP d r s).y=d.y:=by
 have m:=O.mid h
 have lt:=O.lt
 have le:=O.le
 obtain ⟨g,rfl⟩:∃ g,f=g+1:=⟨f - 1,by lia⟩
 have p2:2 ^ (g+1)=2 * 2 ^ g:=by rw [Nat.pow_succ];lia
 have key:∀ e:UW,e=cB d r s->e.lo < e.hi->e.hi<=2000->(∃ r1 s1,UY A d.x e.hi=some r1/\UY A d.y e.hi=some s1/\r1≠s1)->e.x=d.x->e.y=d.y->e.verdict=none->e.hi - e.lo<=2 ^ g->e.hi - e.lo < d.hi - d.lo->(e.agreed=d.agreed∨e.agreed=r) ->
   (cB d r s).lo < (cB d r s).hi/\(∃ r1 s1,Od A (cP d r s) r1 s1)/\(cP d r s).verdict=none/\(cP d r s).hi - (cP d r s).lo<=2 ^ g/\(cP d r s).hi - (cP d r s).lo < d.hi - d.lo/\((cP d r s).agreed=d.agreed∨(cP d r s).agreed=r)/\(cP d r s).x=d.x/\(cP d r s).y=d.y:=by
  intro e he e1 e2 ⟨r1,s1,h1,h2,h3⟩ e4 e5 e6 e7 e8 e9
  unfold cP
  rw [<- he]
  refine ⟨e1,?_⟩
  split
  ·rename_i c
   exact ⟨⟨r1,s1,by rw [e4];exact O.xl,by rw [e5];exact O.yl,by rw [e4,e5];exact O.xy,by rw [e4];exact O.xo,by rw [e5];exact O.yo,by rw [e4];exact h1,by rw [e5];exact h2,h3,e1,e2,λq=>absurd c q⟩,e6,e7,e8,e9,e4,e5⟩
  ·exact ⟨⟨r1,s1,(by show e.x < _;rw [e4];exact O.xl),(by show e.y < _;rw [e5];exact O.yl),(by show e.x≠e.y;rw [e4,e5];exact O.xy),(by show (US A e.x).out=false;rw [e4];exact O.xo),(by show (US A e.y).out=false;rw [e5];exact O.yo),(by show UY A e.x e.hi=_;rw [e4];exact h1),(by show UY A e.y e.hi=_;rw [e5];exact h2),h3,e1,e2,λ_=>rfl⟩,e6,e7,e8,e9,e4,e5⟩
 have hh:cB d r s=cB d r s:=rfl
 by_cases c:r=s
 ·have e:cB d r s={ d with lo:=d.asked,agreed:=r }:=by unfold cB;rw [if_pos c]
  refine key _ rfl ?_ ?_ ?_ ?_ ?_ ?_ ?_ ?_ ?_<;>rw [e]
  ·show d.asked < d.hi;lia
  ·exact le
  ·exact ⟨r0,s0,O.hx,O.hy,O.ne⟩
  ·exact ho
  ·show d.hi - d.asked<=2 ^ g;lia
  ·show d.hi - d.asked < d.hi - d.lo;lia
  ·exact .inr rfl
 ·have e:cB d r s={ d with hi:=d.asked }:=by unfold cB;rw [if_neg c]
  refine key _ rfl ?_ ?_ ?_ ?_ ?_ ?_ ?_ ?_ ?_<;>rw [e]
  ·show d.lo < d.asked;lia
  ·show d.asked<=2000;lia
  ·exact ⟨r,s,hr,hs,c⟩
  ·exact ho
  ·show d.asked - d.lo<=2 ^ g;lia
  ·show d.asked - d.lo < d.hi - d.lo;lia
  ·exact .inl rfl
section
variable {P:Program} {w:World} {K:UR} {mg:Str->Option Value} {base:Heap} {a:bF}
def Cp (A:UQ) (n:Nat):Prop:=∀ x∈A.heard,ir A.program n x.says
def Bh (K:UR) (a:bF):Sp:=λvs H Q _=>∃ (bad:List Addr) (L:Lay) (A:UQ) (j n:Nat),vs=[.ref (L.ad .af),.ref (L.ad (.aK j))]/\aH a bad H L A/\XY A/\Fq A n/\Cp A n/\j < A.disputes.length/\(U2 (aL A j)=true->(∃ r s,Od A (aL A j) r s)/\ir A.program n (aL A j).agreed) /\
 ∀ (H':Hp) (L':Lay),Step H L A H' L' (fK A j)->aH a bad H' L' (fK A j)->Q .dF H'
theorem tQ (T:Txt K mg a):a7 P w K mg base eQ 5 a.iV a.iZ ["self","dispute"] (Bh K a):=by
 refine T.pS.ok oM ?_ ?_
 ·rintro _ _ _ _ ⟨_,_,_,_,_,rfl,_⟩
  rfl
 ·rintro cdv A outer s H _ Q E hr ⟨bad,L,A,j,n,rfl,F,hx,OB,hS,jl,hO,k⟩
  refine ⟨_,(ao (Fb PassesOwn.never (bG (b0 (pv 1) T.ay T.eL (ju (K:=K) T) hr.lo T.ej .nil aE)) (ah (bg (bG (b0 (pv 1) T.ay T.b8 (i6 (K:=K) T) hr.lo T.b7 .nil aE)) (ah (bQ (aI (pv 0) T.au T.oW (AG (K:=K) T) hr.lo T.om .nil aE (aa (pv 1) aj)))
   (ao Ik)) aO)
   (ah (aN (i:=2) oM.nd rfl (Or.inl rfl) (aI (pv 0) T.au T.dS (fQ (K:=K) T) hr.lo T.dP .nil aE (aa (aJ (bN (K:=K)) (ai (K:=K) (pv 1) rfl) aw (λ_ _=>rfl)) (aa (ai (K:=K) (pv 1) rfl) aj))))
   (ah (aN (i:=3) oM.nd rfl (Or.inl rfl) (aI (pv 0) T.au T.dS (fQ (K:=K) T) hr.lo T.dP .nil aE (aa (aJ (bN (K:=K)) (ai (K:=K) (pv 1) rfl) aw (λ_ _=>rfl)) (aa (ai (K:=K) (pv 1) rfl) aj))))
   (ah (bg (PW.pt (GG (a8 vi (pv 2) ib (bo _)) (Cy (a8 vi (pv 3) ib (bo _))))) (ao Ik) aO)
   (ao (bQ (aI (pv 1) T.ay T.rf (BO (K:=K) T) hr.lo T.qZ .nil aE (aa (pv 2) (aa (pv 3) aj))))))))))),?_⟩
  unfold fK at k
  cases ho:U2 (aL A j) with
  | false =>
   rw [if_pos ho] at k
   refine ⟨λ_ σ H'=>σ=[some (.ref (L.ad .af)),some (.ref (L.ad (.aK j))),none,none]/\ax H H',⟨0,rfl,ax.refl H⟩,?_⟩
   rintro m σ H1 ⟨rfl,s1⟩
   have D1:=(F.same s1).aK j _ (ba jl)
   obtain ⟨dd,g1⟩:=D1.ins
   refine vM rfl g1 rfl ⟨L.ad (.aK j),_,_,_,_,aL A j,rfl,D1,λH2 s2=>xE rfl ?_⟩
   rw [ho]
   exact bp (k H2 L (Step.same (s1.trans s2)) (F.same (s1.trans s2)))
  | true =>
   rw [if_neg (by rw [ho];decide)] at k
   obtain ⟨⟨r0,s0,OD⟩,OG⟩:=hO ho
   have vn:(aL A j).verdict=none:=by
    have:(aL A j).verdict.isNone=true:=ho
    simpa using this
   generalize hW:U3 A Va (aL A j)=W at k
   refine ⟨λm σ H'=>∃ (x y:Option V) (L':Lay) (dc:UW) (f:Nat) (r s:UU),σ=[some (.ref (L.ad .af)),some (.ref (L.ad (.aK j))),x,y]/\Step H L A H' L' (bA A j dc)/\aH a bad H' L' (bA A j dc)/\dc.verdict=none/\U3 A (f+1) dc=W/\dc.hi - dc.lo<=2 ^ f/\Od A dc r s/\ir A.program n dc.agreed/\m=dc.hi - dc.lo/\dc.x=(aL A j).x/\dc.y=(aL A j).y,⟨(aL A j).hi - (aL A j).lo,none,none,L,aL A j,29,r0,s0,rfl,?_,?_,vn,hW,?_,OD,OG,rfl,rfl,rfl⟩,?_⟩
   ·rw [Ap (ba jl)];exact Step.refl _ _ _
   ·rw [Ap (ba jl)];exact F
   ·have:=OD.le
    have e:(2:Nat) ^ 29=536870912:=by decide
    lia
   rintro m σ H1 ⟨x,y,L1,dc,f,r,s1,rfl,S1,F1,cv,cw,cf,OC,CG,rfl,cx,cy⟩
   have co:U2 dc=true:=by unfold U2;rw [cv];rfl
   have jl1:j < (bA A j dc).disputes.length:=by show j < (A.disputes.set j dc).length;rw [Vs];exact jl
   have hj1:(bA A j dc).disputes[j]?=some dc:=Ov jl
   have D1:=F1.aK j dc hj1
   rw [S1.aK j jl] at D1
   obtain ⟨dd,g1⟩:=D1.ins
   have hx1:XY (bA A j dc):=hx.set (ba jl) cx cy
   refine vM rfl g1 rfl ⟨L.ad (.aK j),_,_,_,_,dc,rfl,D1,λH2 s2=>xE rfl ?_⟩
   rw [co]
   refine bf ⟨λσ' H'=>∃ m',m' < dc.hi - dc.lo/\∃ (x y:Option V) (L':Lay) (dc:UW) (f:Nat) (r s:UU),σ'=[some (.ref (L.ad .af)),some (.ref (L.ad (.aK j))),x,y]/\Step H L A H' L' (bA A j dc)/\aH a bad H' L' (bA A j dc)/\dc.verdict=none/\U3 A (f+1) dc=W/\dc.hi - dc.lo<=2 ^ f/\Od A dc r s/\ir A.program n dc.agreed/\m'=dc.hi - dc.lo/\dc.x=(aL A j).x/\dc.y=(aL A j).y,λσ' H' h=>h,?_⟩
   have F2:=F1.same s2
   have S2:=S1.trans (Step.same s2)
   have g2:=s2 _ _ g1
   have D2:=F2.aK j dc hj1
   rw [S1.aK j jl] at D2
   obtain ⟨da,g3⟩:=F2.af
   rw [S1.af] at g3
   refine vM rfl g2 rfl ⟨L.ad (.aK j),_,_,_,_,dc,rfl,D2,xE rfl ?_⟩
   by_cases c1:dc.hi=dc.lo+1
   ·rw [decide_eq_true c1]
    have eW:W=qX A dc:=by rw [<- cw,tX co c1]
    have nW:¬ U2 W=true:=by rw [eW];exact λq=>Vo q
    rw [if_neg nW,eW] at k
    refine bf (vM rfl g3 rfl (xE rfl ⟨bad,L1,bA A j dc,j,n,dc,r,s1,by rw [S1.af,S1.aK j jl];rfl,F2,hx1,⟨OB.prog,OB.n6,OB.vQ,OB.once⟩,hj1,⟨OC.xl,OC.yl,OC.xy,OC.xo,OC.yo,OC.hx,OC.hy,OC.ne,OC.lt,OC.le,OC.mid⟩,CG,λH3 L3 S3 F3=>?_⟩))
    have e3:VL (bA (bA A j dc) j (qX (bA A j dc) dc)) (qX (bA A j dc) dc)=VL (bA A j (qX A dc)) (qX A dc):=by
     rw [GV]
     rfl
    rw [e3] at S3 F3
    exact k H3 L3 (S2.trans S3) F3
   ·rw [decide_eq_false c1]
    refine bp ?_
    have c2:¬ dc.hi<=dc.lo+1:=by have:=OC.lt;lia
    refine vM rfl g3 rfl (vF rfl g2 T.ay T.aX rfl (iG D2.hosts.sq (at_of (j:=0) rfl rfl) (vF rfl g2 T.ay T.bz rfl ⟨bad,L1,bA A j dc,dc.x,dc.asked,by rw [S1.af];rfl,F2,OC.xl,OB.once,λv1 hv1=>?_⟩)))
    refine vM rfl g3 rfl (vF rfl g2 T.ay T.aX rfl (iG D2.hosts.sq (at_of (j:=1) rfl rfl) (vF rfl g2 T.ay T.bz rfl ⟨bad,L1,bA A j dc,dc.y,dc.asked,by rw [S1.af];rfl,F2,OC.yl,OB.once,λv2 hv2=>?_⟩)))
    have hv1:kj H2 v1 (UY A dc.x dc.asked):=hv1
    have hv2:kj H2 v2 (UY A dc.y dc.asked):=hv2
    have stop:(UY A dc.x dc.asked=none∨UY A dc.y dc.asked=none)->Q .dF H2:=λhn=>by
     have eW:W=dc:=by rw [<- cw,lS co c2 hn]
     rw [eW,if_pos co] at k
     exact k H2 L1 S2 F2
    refine xE rfl ⟨rfl,xE rfl ?_⟩
    cases e1:UY A dc.x dc.asked with
    | none =>
     rw [e1] at hv1
     have hv1:v1=.dF:=hv1
     subst hv1
     exact bf (bf (stop (.inl e1)))
    | some r' =>
     rw [e1] at hv1
     obtain ⟨q1,rfl,hq1⟩:=hv1
     refine bp (xE rfl ⟨rfl,xE rfl ?_⟩)
     cases e2:UY A dc.y dc.asked with
     | none =>
      rw [e2] at hv2
      have hv2:v2=.dF:=hv2
      subst hv2
      exact bf (stop (.inr e2))
     | some s' =>
      rw [e2] at hv2
      obtain ⟨q2,rfl,hq2⟩:=hv2
      refine bp ?_
      refine vM rfl g2 rfl (x2 rfl rfl ⟨L.ad (.aK j),L1.ad (.bM j),L1.dt j,L1.da j,L1.de j,q1,q2,dc,r',s',rfl,D2,OC.xy,hq1,hq2,λH3 ask' ag' k3 ha D3=>?_⟩)
      obtain ⟨g,rfl⟩:∃ g,f=g+1:=by
       cases f with
       | zero =>
        have:(2:Nat) ^ 0=1:=by decide
        lia
       | succ g=>exact ⟨g,rfl⟩
      obtain ⟨hlt,⟨r1,t1,OK⟩,hv,hf,hm,hag,hxx,hyy⟩:=Cn OC cv c1 e1 e2 cf (by lia)
      rw [<- S1.aK j jl] at D3 k3
      have k4:Keeps [L1.ad (.aK j),L1.ad (.bM j)] H2 H3:=k3.wide λx hx=>by rw [UX.mp hx];exact Vi ..
      have F3:=F2.rQ hj1 k4 ha D3
      have S3:=S2.trans (Step.rQ (dt:=L1.dt j) (da:=ag') (de:=L1.de j) (d':=cP dc r' s') hj1 k4 ha)
      have e3:({ bA A j dc with disputes:=(bA A j dc).disputes.set j (cP dc r' s') }:UQ)=bA A j (cP dc r' s'):=GV A j dc _
      rw [e3] at F3 S3
      refine ⟨_,hm,_,_,_,cP dc r' s',g,r1,t1,rfl,S3,F3,hv,?_,hf,OK,?_,rfl,by rw [hxx];exact cx,by rw [hyy];exact cy⟩
      ·rw [<- cw,wt co c2 e1 e2 hlt]
      ·rcases hag with q | q
       ·rw [q];exact CG
       ·rw [q]
        obtain ⟨z,hz,ez⟩:=qk e1
        rw [<- ez]
        exact hS z hz
end
def cA (A:UQ) (i t:Nat) (s:UU):UQ:={ A with heard:={ host:=i,turn:=t,says:=s }::A.heard }
def a9 (A:UQ) (k:Nat):UQ:=(List.range k).foldl fK A
noncomputable def vH (A:UQ) (i t:Nat) (s:UU):UQ:=if (US A i).out=true∨A.found.isSome=true then A else match UY A i t with
 | some r=>if r=s then A else pw A i
 | none=>a9 (cA A i t s) A.disputes.length
theorem fO (A:UQ) (k:Nat):a9 A (k+1)=fK (a9 A k) k:=by
 unfold a9
 rw [Xa,List.foldl_append]
 rfl
structure Good (A:UQ) (n:Nat):Prop where
 xy:XY A
 base:Fq A n
 cn:Cp A n
 J4:∀ j,j < A.disputes.length->U2 (aL A j)=true->(∃ r s,Od A (aL A j) r s)/\ir A.program n (aL A j).agreed
theorem Ej (A:UQ):(Vp A).disputes.length=A.disputes.length/\(Vp A).hosts.length=A.hosts.length:=by
 rw [kM]
 exact ⟨UT ..,rfl⟩
theorem JQ (A:UQ) (d:UW):∃ B:UQ,VL A d=Vp B/\B.disputes=A.disputes/\B.hosts.length=A.hosts.length:=by
 refine xE rfl ⟨?_,?_⟩
 ·generalize WB d=l
  generalize hL:l.length=k
  clear hL
  induction l generalizing A with
  | nil=>rfl
  | cons x r ih=>rw [List.foldl_cons,ih,kd]
 ·generalize WB d=l
  generalize hL:l.length=k
  clear hL
  induction l generalizing A with
  | nil=>rfl
  | cons x r ih=>rw [List.foldl_cons,ih,tK]
theorem CD (A:UQ) (j:Nat):(fK A j).disputes.length=A.disputes.length:=by
 unfold fK
 split
 ·rfl
 ·split
  ·exact Vs ..
  ·obtain ⟨B,e1,e2,_⟩:=JQ (bA A j (U3 A Va (aL A j))) (U3 A Va (aL A j))
   rw [e1,(Ej B).1,e2]
   exact Vs ..
theorem jL (A:UQ):∀ k,(a9 A k).disputes.length=A.disputes.length
 | 0=>rfl
 | k+1=>by rw [fO,CD,jL A k]
theorem Jk (A:UQ) (i t:Nat) (s:UU):lY (cA A i t s) i=lY A i++[(t,s)]:=by
 unfold lY cA
 simp
theorem Ij (A:UQ) {i k:Nat} (t:Nat) (s:UU) (h:k≠i):lY (cA A i t s) k=lY A k:=by
 unfold lY cA
 have:(i == k)=false:=beq_eq_false_iff_ne.mpr λz=>h z.symm
 simp [this]
theorem M5 {β:Type} {g:List (Nat × β)} {t:Nat} {b:β} (h:zc g t=none):C0 g t b=g++[(t,b)]:=by
 unfold C0
 rw [if_neg]
 intro q
 obtain ⟨p,hp,e⟩:=WQ.mp q
 unfold zc at h
 rw [Option.map_eq_none_iff,WW] at h
 exact h p hp e
theorem Ki (A:UQ) (i:Nat):(lY A i).length<=A.heard.length:=by
 unfold lY
 rw [UT,List.length_reverse]
 exact VU ..
section
variable {P:Program} {w:World} {K:UR} {mg:Str->Option Value} {base:Heap} {a:bF}
theorem aH.KI {bad:List Addr} {H H':Hp} {L:Lay} {A:UQ} {i t:Nat} {s:UU} (F:aH a bad H L A) (hi:i < A.hosts.length) (k:Keeps [L.ad (.qa i)] H H') (h:HK H' (L.ad (.qa i)) (lY (cA A i t s) i)):aH a bad H' L (cA A i t s):=by
 have hrs:∀ x∈[Role.qa i],Lv A x:=λx hx=>by rw [UX.mp hx];exact hi
 have k':Keeps ([Role.qa i].map L.ad) H H':=k
 refine ⟨F.inj,F.RE hrs k' (by simp),F.runK hrs k' (by simp),F.Nn,F.Qp hrs k',λi hi=>F.EY hrs k' hi (by simp),λi hi=>⟨F.De hrs k' hi (by simp),(F.tell i hi).2⟩,λj hj=>?_,F.RZ hrs k' (by simp) (by simp),F.Rn hrs k' (by simp),
  λj d hj=>F.Di hrs k' hj (by simp) (by simp),F.N4,F.NA,F.Ge⟩
 by_cases e:j=i
 ·rw [e];exact h
 ·rw [Ij A t s e]
  exact F.Jb hrs k' hj (by simp [e])
theorem Step.KI {H H':Hp} {L:Lay} {A:UQ} {i t:Nat} {s:UU} (hi:i < A.hosts.length) (k:Keeps [L.ad (.qa i)] H H'):Step H L A H' L (cA A i t s) :=
 { Step.refl H L A with keep:=λb o e n=>k b o e λm=>n (.qa i) hi (UX.mp m) }
def Em (K:UR) (a:bF):Sp:=λvs H Q _=>∃ (bad:List Addr) (L:Lay) (A:UQ) (i t n:Nat) (q:Addr) (s:UU),vs=[.ref (L.ad .af),.int (i:Int),.int (t:Int),.ref q]/\aH a bad H L A/\XY A/\Once A.heard/\A.disputes.length<=1000/\A.heard.length<=1000/\i < A.hosts.length/\H q=some (.tup (FL s)) /\
 ((US A i).out=false->A.found=none->UY A i t=none->∀ k,k<=A.disputes.length->Good (a9 (cA A i t s) k) n) /\
 ∀ (H':Hp) (L':Lay),Step H L A H' L' (vH A i t s)->aH a bad H' L' (vH A i t s)->Q .dF H'
theorem FF (T:Txt K mg a):a7 P w K mg base eQ 6 a.mz a.mf ["self","number","turn","state"] (Em K a):=by
 refine T.vv.ok nV ?_ ?_
 ·rintro _ _ _ _ ⟨_,_,_,_,_,_,_,_,rfl,_⟩
  rfl
 ·rintro cdv A outer s H _ Q E hr ⟨bad,L,A,i,t,n,q,s0,rfl,F,hx,ho,hm,hh,hi,hq,hG,k⟩
  refine ⟨_,(ah (aN (i:=4) nV.nd rfl (Or.inl rfl) (aJ (az (K:=K)) (ai (K:=K) (pv 0) rfl) (pv 1) (λ_ _=>rfl)))
   (ah (bg (PW.pt (GG (bG (ai (K:=K) (pv 4) rfl)) (Cy (bG (ai (K:=K) (pv 0) rfl))))) (ao Ik) aO)
   (ah (aN (i:=5) nV.nd rfl (Or.inl rfl) (El (mF hr) (ai (K:=K) (pv 4) rfl) (pv 2) ⟨rfl,rfl,rfl,rfl⟩))
   (ao (bg (a8 vi (pv 5) ib (bo _)) (ah (HY (mF hr) (ai (K:=K) (pv 4) rfl) (pv 2) (pv 3) rfl)
   (ao (Kw PassesOwn.never rfl (kR (K:=K) (ai (K:=K) (pv 0) rfl)) (ff (i:=6) nV.nd rfl (Or.inl rfl)) (ao (bQ (aI (pv 0) T.au T.lR (tQ (K:=K) T) hr.lo T.lC .nil aE (aa (pv 6) aj))))))) (ao (bg (a8 (LV (K:=K) hr.units) (pv 5) (pv 3) (bo _)) (ao (bQ (aI (pv 0) T.au T.jv (wb (K:=K) T) hr.lo T.jq .nil aE (aa (pv 1) aj)))) aO))))))),?_⟩
  have hz:=sizeLine_eq
  obtain ⟨da,g1⟩:=F.af
  obtain ⟨dh,g2⟩:=F.host i hi
  obtain ⟨kvs,g3,hD⟩:=F.qa i hi
  unfold vH at k
  refine vF rfl g1 T.au T.bw rfl (xE rfl (iE (bc.of F.hl) (at_of (j:=i) rfl (lx hi)) ?_))
  refine vF rfl g2 T.bK T.mY rfl (xE rfl ?_)
  cases c1:(US A i).out with
  | true =>
   rw [if_pos (.inl c1)] at k
   exact bf (bf (k H L (Step.refl _ _ _) F))
  | false =>
   refine bp (vF rfl g1 T.au T.cz rfl (xE rfl ?_))
   cases c2:A.found.isSome with
   | true =>
    rw [if_pos (.inr c2)] at k
    exact bf (k H L (Step.refl _ _ _) F)
   | false =>
    rw [if_neg (by rw [c1,c2];decide)] at k
    have fn:A.found=none:=by simpa using c2
    refine bp ?_
    refine vF rfl g2 T.bK T.lP rfl ⟨L.ad (.qa i),rfl,.inl ⟨_,.inl g3⟩,xE rfl ⟨_,lH.k (k:=Sum.inl (t:Int)) g3,?_⟩⟩
    rcases hD.get t with ⟨w1,w2⟩ | ⟨r,v,w1,w2,p,rfl,w3⟩
    ·have c3:UY A i t=none:=by rw [<- zx A i t ho];exact w1
     rw [c3] at k
     rw [w2]
     refine xE rfl ⟨rfl,xE rfl (bf ?_)⟩
     have k:∀ (H':Hp) (L':Lay),Step H L A H' L' (a9 (cA A i t s0) A.disputes.length)->aH a bad H' L' (a9 (cA A i t s0) A.disputes.length)->Q V.dF H':=k
     have hG:=hG c1 fn c3
     refine xE rfl (vF rfl g2 T.bK T.lP rfl (xE rfl ⟨L.ad (.qa i),xE rfl ⟨Ih.k (k:=Sum.inl (t:Int)) g3 (by rw [hD.len];have:=Ki A i;lia),?_⟩⟩))
     have k1:Keeps [L.ad (.qa i)] H (upd H (L.ad (.qa i)) (.dK (putK kvs (Sum.inl (t:Int)) (.ref q)))):=Keeps.upd (UX.mpr rfl)
     generalize hH1:upd H (L.ad (.qa i)) (.dK (putK kvs (Sum.inl (t:Int)) (.ref q)))=H1 at k1 ⊢
     have tk:∀ b xs,H b=some (.tup xs)->H1 b=some (.tup xs):=λb xs e=>by rw [<- hH1,ak (aV e g3 (by intro z;cases z))];exact e
     have S0:Step H L A H1 L (cA A i t s0):=Step.KI hi k1
     have F0:aH a bad H1 L (cA A i t s0):=by
      refine F.KI hi k1 ⟨_,by rw [<- hH1,ae],?_⟩
      have:=DR.put (t:=t) (DR.imp (λv r ⟨p,e,hp⟩=>(⟨p,e,tk _ _ hp⟩:T6 H1 v r)) hD) (show T6 H1 (.ref q) s0 from ⟨q,rfl,tk _ _ hq⟩)
      rw [M5 w1,<- Jk A i t s0] at this
      exact this
     obtain ⟨d0,g4⟩:=F0.af
     refine vF rfl g4 T.au T.bO rfl ⟨L.ad .dl,rfl,⟨_,bc.of F0.dl⟩,Fi (K:=K) (xs:=(List.range A.disputes.length).map λj=>V.ref (L.ad (.aK j))) (λm σ H'=>∃ (x:Option V) (L':Lay),σ=[some (.ref (L.ad .af)),some (.int (i:Int)),some (.int (t:Int)),some (.ref q),some (.ref (L.ad (.host i))),some .dF,x]/\Step H L A H' L' (a9 (cA A i t s0) m)/\aH a bad H' L' (a9 (cA A i t s0) m)) ⟨none,L,rfl,S0,F0⟩ ?_ ?_ ?_⟩
     ·rintro m σ H2 _ ⟨x,L2,rfl,S,F2⟩
      have e:=F2.dl
      have e2:(a9 (cA A i t s0) m).disputes.length=A.disputes.length:=jL _ m
      rw [S.dl,e2,Wc (λj hj=>by rw [S.aK j (Vq.mp hj)])] at e
      exact bc.of e
     ·rintro m x σ H2 hx2 ⟨x0,L2,rfl,S,F2⟩
      obtain ⟨ml,rfl⟩:=nI hx2
      obtain ⟨d2,g5⟩:=F2.af
      rw [S.af] at g5
      have G:=hG m (by exact VN ‹_›)
      have e2:(a9 (cA A i t s0) m).disputes.length=A.disputes.length:=jL _ m
      refine vM rfl g5 rfl (xE rfl ⟨bad,L2,a9 (cA A i t s0) m,m,n,by rw [S.af,S.aK m ml];rfl,F2,G.xy,G.base,G.cn,by rw [e2];exact ml,G.J4 m (by rw [e2];exact ml),λH3 L3 S3 F3=>?_⟩)
      rw [<- fO] at S3 F3
      exact ⟨_,L3,rfl,S.trans S3,F3⟩
     ·rintro σ H2 ⟨x,L2,rfl,S,F2⟩
      rw [UT,VA] at S F2
      exact k H2 L2 S F2
    ·have c3:UY A i t=some r:=by rw [<- zx A i t ho];exact w1
     rw [c3] at k
     rw [w2]
     refine xE rfl ⟨rfl,xE rfl (bp ?_)⟩
     refine x2 rfl rfl ⟨jy (stI r),jy (stI s0),pQ (gg.of (by rw [w3,fN])),pQ (gg.of (by rw [hq,fN])),shaped_ints _,shaped_ints _,xE rfl ?_⟩
     rw [sf,BE]
     have k:∀ (H':Hp) (L':Lay),Step H L A H' L' (if r=s0 then A else pw A i)->aH a bad H' L' (if r=s0 then A else pw A i)->Q V.dF H':=k
     by_cases c4:r=s0
     ·rw [if_pos c4] at k
      rw [decide_eq_true c4]
      exact bp (k H L (Step.refl _ _ _) F)
     ·rw [if_neg c4] at k
      rw [decide_eq_false c4]
      exact bf (vM rfl g1 rfl (xE rfl ⟨bad,L,A,i,rfl,F,hx,hm,hi,c1,k⟩))
end
section
variable {P:Program} {w:World} {K:UR} {mg:Str->Option Value} {base:Heap} {a:bF}
theorem aH.wD {bad:List Addr} {H H':Hp} {L:Lay} {A:UQ} {ts:List Addr} (F:aH a bad H L A) (k:R9 (L.ad .ls) H H') (R:sg a H' L.r L.lo (L.ad .ls) L.os ts A.program A.begin_) (hl:ts.length<=2001) :
  aH a bad H' { L with ts:=ts } A:=by
 have hrs:∀ x∈[Role.ls],Lv A x:=λx hx=>by rw [UX.mp hx];trivial
 have k':Keeps ([Role.ls].map L.ad) H H':=λb o e n=>k b o e λz=>n (by rw [z];exact UX.mpr rfl)
 exact ⟨F.inj,F.RE hrs k' (by simp),R,hl,F.Qp hrs k',λi hi=>F.EY hrs k' hi (by simp),λi hi=>⟨F.De hrs k' hi (by simp),(F.tell i hi).2⟩,λj hj=>F.Jb hrs k' hj (by simp),F.RZ hrs k' (by simp) (by simp),F.Rn hrs k' (by simp),
  λj d hj=>F.Di hrs k' hj (by simp) (by simp),F.N4,F.NA,F.Ge⟩
theorem Step.wD {H H':Hp} {L:Lay} {A:UQ} {ts:List Addr} (k:R9 (L.ad .ls) H H'):Step H L A H' { L with ts:=ts } A :=
 ⟨λb o e n=>k b o e (n .ls trivial),λr hr=>.inl ⟨r,hr,rfl⟩,rfl,rfl,U1 _,λ_ _=>rfl,λ_=>rfl,rfl,rfl,rfl,rfl⟩
def Lay.F7 (L:Lay) (m:Nat) (p ask dt da de:Addr):Lay:={ L with ad:=λr=>if r=.aK m then p else if r=.bM m then ask else L.ad r,dt:=λi=>if i=m then dt else L.dt i,da:=λi=>if i=m then da else L.da i,de:=λi=>if i=m then de else L.de i }
theorem aH.F7 {bad:List Addr} {H H':Hp} {L:Lay} {A:UQ} {p ask dt da de:Addr} {d:UW} (F:aH a bad H L A) (k:Keeps [L.ad .dl] H H') (hp:H p=none) (ha:H ask=none) (pa:p≠ask)
  (hdl:H' (L.ad .dl)=some (.lst (((List.range A.disputes.length).map λj=>V.ref (L.ad (.aK j)))++[.ref p]))) (D:fY a H' p ask dt da de d) :
  aH a bad H' (L.F7 A.disputes.length p ask dt da de) { A with disputes:=A.disputes++[d] }/\Step H L A H' (L.F7 A.disputes.length p ask dt da de) { A with disputes:=A.disputes++[d] }:=by
 have hrs:∀ x∈[Role.dl],Lv A x:=λx hx=>by rw [UX.mp hx];trivial
 have k':Keeps ([Role.dl].map L.ad) H H':=k
 have ll:(A.disputes++[d]).length=A.disputes.length+1:=by simp
 have ad:∀ r,Lv A r->(L.F7 A.disputes.length p ask dt da de).ad r=L.ad r:=λr hr=>by
  show (if r=.aK A.disputes.length then p else if r=.bM A.disputes.length then ask else L.ad r)=L.ad r
  rw [if_neg (λe=>by rw [e] at hr;exact absurd (show A.disputes.length < A.disputes.length from hr) (VT _)),if_neg (λe=>by rw [e] at hr;exact absurd (show A.disputes.length < A.disputes.length from hr) (VT _))]
 have adp:(L.F7 A.disputes.length p ask dt da de).ad (.aK A.disputes.length)=p:=if_pos rfl
 have ada:(L.F7 A.disputes.length p ask dt da de).ad (.bM A.disputes.length)=ask:=by
  show (if Role.bM A.disputes.length=.aK A.disputes.length then p else if Role.bM A.disputes.length=.bM A.disputes.length then ask else _)=ask
  rw [if_neg (by intro z;cases z),if_pos rfl]
 have cs:∀ r,FV A.hosts.length (A.disputes++[d]).length r->r=.aK A.disputes.length∨r=.bM A.disputes.length∨Lv A r:=λr hr=>by
  rw [ll] at hr
  cases r with
  | aK j =>
   have hr:j < A.disputes.length+1:=hr
   by_cases e:j=A.disputes.length
   ·rw [e];exact .inl rfl
   ·exact .inr (.inr (show j < A.disputes.length by lia))
  | bM j =>
   have hr:j < A.disputes.length+1:=hr
   by_cases e:j=A.disputes.length
   ·rw [e];exact .inr (.inl rfl)
   ·exact .inr (.inr (show j < A.disputes.length by lia))
  | af=>exact .inr (.inr trivial)
  | ls=>exact .inr (.inr trivial)
  | op=>exact .inr (.inr trivial)
  | oa=>exact .inr (.inr trivial)
  | dl=>exact .inr (.inr trivial)
  | host i=>exact .inr (.inr hr)
  | tell i=>exact .inr (.inr hr)
  | qa i=>exact .inr (.inr hr)
 have nf:∀ r,Lv A r->L.ad r≠p/\L.ad r≠ask:=λr hr=>by
  obtain ⟨o,ho⟩:=F.there hr
  exact ⟨λe=>(by rw [e,hp] at ho;cases ho),λe=>(by rw [e,ha] at ho;cases ho)⟩
 refine ⟨⟨λr r' hr hr' e=>?_,?_,?_,F.Nn,?_,λi hi=>?_,λi hi=>?_,λi hi=>?_,?_,?_,λi e he=>?_,?_,?_,F.Ge⟩,⟨λb o e n=>k b o e λm=>n .dl trivial (UX.mp m),λr hr=>?_,ad .af trivial,rfl,by show A.disputes.length<=(A.disputes++[d]).length;lia,λj hj=>ad (.aK j) hj,λj=>?_,ad .dl trivial,ad .ls trivial,ad .op trivial,rfl⟩⟩
 ·rcases cs r hr with rfl | rfl | hr
  ·rcases cs r' hr' with rfl | rfl | hr'
   ·rfl
   ·rw [adp,ada] at e;exact absurd e pa
   ·rw [adp,ad _ hr'] at e;exact absurd e.symm (nf _ hr').1
  ·rcases cs r' hr' with rfl | rfl | hr'
   ·rw [adp,ada] at e;exact absurd e.symm pa
   ·rfl
   ·rw [ada,ad _ hr'] at e;exact absurd e.symm (nf _ hr').2
  ·rcases cs r' hr' with rfl | rfl | hr'
   ·rw [adp,ad _ hr] at e;exact absurd e (nf _ hr).1
   ·rw [ada,ad _ hr] at e;exact absurd e (nf _ hr).2
   ·rw [ad _ hr,ad _ hr'] at e;exact F.inj _ _ hr hr' e
 ·rw [ad .af trivial];exact F.RE hrs k' (by simp)
 ·rw [ad .ls trivial];exact F.runK hrs k' (by simp)
 ·have:=F.Qp hrs k'
  rw [Wc (λi hi=>by rw [<- ad (.host i) (Vq.mp hi)])] at this
  exact this
 ·have hi:i < A.hosts.length:=hi
  rw [ad (.host i) hi,ad (.tell i) hi,ad (.qa i) hi]
  exact F.EY hrs k' hi (by simp)
 ·have hi:i < A.hosts.length:=hi
  rw [ad (.tell i) hi,ad .ls trivial,ad .dl trivial]
  exact ⟨F.De hrs k' hi (by simp),(F.tell i hi).2⟩
 ·have hi:i < A.hosts.length:=hi
  rw [ad (.qa i) hi]
  exact F.Jb hrs k' hi (by simp)
 ·rw [ad .op trivial,ad .oa trivial]
  exact F.RZ hrs k' (by simp) (by simp)
 ·rw [ad .dl trivial,hdl]
  show _=some (HO.lst ((List.range (A.disputes++[d]).length).map _))
  rw [ll,Xa,Vk,Wc (λj hj=>by rw [<- ad (.aK j) (Vq.mp hj)])]
  show _=some (HO.lst (_++[V.ref ((L.F7 A.disputes.length p ask dt da de).ad (.aK A.disputes.length))]))
  rw [adp]
 ·have he:(A.disputes++[d])[i]?=some e:=he
  by_cases c:i < A.disputes.length
  ·rw [W2 c] at he
   rw [ad (.aK i) c,ad (.bM i) c]
   show fY a H' _ _ (if i=A.disputes.length then dt else L.dt i) (if i=A.disputes.length then da else L.da i) (if i=A.disputes.length then de else L.de i) e
   rw [if_neg (by exact Vh ‹_›),if_neg (by exact Vh ‹_›),if_neg (by exact Vh ‹_›)]
   exact F.Di hrs k' he (by simp) (by simp)
  ·have ci:i=A.disputes.length:=by
    have:=(Vn.mp he).1
    rw [ll] at this
    lia
   subst ci
   rw [WK (U1 _),WU] at he
   cases he
   rw [adp,ada]
   show fY a H' _ _ (if A.disputes.length=A.disputes.length then dt else _) (if A.disputes.length=A.disputes.length then da else _) (if A.disputes.length=A.disputes.length then de else _) _
   rw [if_pos rfl,if_pos rfl,if_pos rfl]
   exact D
 ·rw [ad .ls trivial,ad .dl trivial];exact F.N4
 ·rw [ad .ls trivial,ad .dl trivial];exact F.NA
 ·rcases cs r hr with rfl | rfl | hr
  ·rw [adp];exact .inr hp
  ·rw [ada];exact .inr ha
  ·exact .inl ⟨r,hr,ad r hr⟩
 ·show (if Role.host j=.aK A.disputes.length then p else if Role.host j=.bM A.disputes.length then ask else L.ad (.host j))=L.ad (.host j)
  rw [if_neg (by intro z;cases z),if_neg (by intro z;cases z)]
theorem fY.imp {H H':Hp} {p ask ht ag en:Addr} {d:UW} (D:fY a H p ask ht ag en d) (f:∀ b o,H b=some o->(∀ xs,o≠.lst xs)->H' b=some o):fY a H' p ask ht ag en d:=by
 obtain ⟨⟨dx,h1⟩,⟨ob,h2,h2'⟩,h3,h4,h5⟩:=D
 exact ⟨⟨dx,f _ _ h1 (by intro xs z;cases z)⟩,⟨ob,f _ _ h2 (by intro xs z;cases z),h2'⟩,f _ _ h3 (by intro xs z;cases z),f _ _ h4 (by intro xs z;cases z),f _ _ h5 (by intro xs z;cases z)⟩
def iq (A:UQ) (x y:Nat):UQ:={ A with disputes:=A.disputes++[newD (A.disputes.length+1) x y A.turns A.begin_] }
def wc (K:UR) (a:bF):Sp:=λvs H Q _=>∃ (bad:List Addr) (L:Lay) (A:UQ) (x y n:Nat),vs=[.ref (L.ad .af),.int (x:Int),.int (y:Int)]/\aH a bad H L A/\Fq A n/\x≠y/\1<=A.turns/\A.disputes.length<=1000/\Good (iq A x y) n /\
 ∀ (H':Hp) (L':Lay),Step H L A H' L' (fK (iq A x y) A.disputes.length)->aH a bad H' L' (fK (iq A x y) A.disputes.length)->Q (.int ((A.disputes.length+1:Nat):Int)) H'
theorem vT (T:Txt K mg a):a7 P w K mg base eQ 6 a.cT a.cR ["self","first","second"] (wc K a):=by
 refine T.jc.ok m8 ?_ ?_
 ·rintro _ _ _ _ ⟨_,_,_,_,_,_,rfl,_⟩
  rfl
 ·rintro cdv A outer s H _ Q E hr ⟨bad,L,A,x,y,n,rfl,F,OB,hxy,hT,hm,hG,k⟩
  refine ⟨_,(ah (aN (i:=3) m8.nd rfl (Or.inl rfl) (rE T.Cw (DH (K:=K) T) hr.lo rfl T.b9 T.sj .nil aE (aa (pv 1) (aa (pv 2) (aa (aI (ai (K:=K) (pv 0) rfl) T.m7 T.lh (qM (K:=K) T) hr.lo T.lz .nil aE (aa aw aj)) (aa (ai (K:=K) (pv 0) rfl) aj))))))
   (ah (bQ (zR (K:=K) WT PySem.F.slot_list_append PySem.F.type_list_append BU (ai (K:=K) (pv 0) rfl) (aa (pv 3) aj)))
   (ah (bQ (aI (pv 0) T.au T.lR (tQ (K:=K) T) hr.lo T.lC .nil aE (aa (pv 3) aj)))
   (ao (aB (aT (a6 (K:=K)) (by rfl) T.dM Vd (aa (ai (K:=K) (pv 0) rfl) aj))))))),?_⟩
  have hz:=sizeLine_eq
  obtain ⟨da,g1⟩:=F.af
  obtain ⟨dr,g2⟩:=F.run.run
  refine x2 rfl rfl (DZ rfl g1 T.au T.gm rfl g2 rfl ⟨L.r,L.lo,L.ad .ls,L.os,L.ts,A.program,A.begin_,n,0,rfl,F.run,OB.prog,OB.n6,OB.vQ,by decide,F.Nn,λH1 t1 ts1 b1 R1 l1 h1=>?_⟩)
  have F1:=F.wD b1 R1 l1
  have S1:Step H L A H1 { L with ts:=ts1 } A:=Step.wD b1
  generalize hL1:({ L with ts:=ts1 }:Lay)=L1 at F1 S1
  obtain ⟨da1,g3⟩:=F1.af
  rw [S1.af] at g3
  refine vF rfl g3 T.au T.fC rfl (λp dp hp hdp npd=>?_)
  have tp:t1≠p:=aC h1 hp
  have tdp:t1≠dp:=aC h1 hdp
  refine ⟨p,dp,t1,x,y,A.turns,A.begin_,rfl,ae,by rw [ak tp,ak tdp];exact h1,hxy,hT,λH2 ask ht en k2 ha D=>⟨rfl,?_⟩⟩
  have s2:ax H1 H2:=λb o e=>k2 b o (by rw [ak (aC e hp),ak (aC e hdp)];exact e) λm=>aC e hp (UX.mp m)
  have ap:ask≠p:=λz=>by rw [z,ae] at ha;cases ha
  have adp:ask≠dp:=λz=>by rw [z,ak npd,ae] at ha;cases ha
  have ha1:H1 ask=none:=by rw [ak ap,ak adp] at ha;exact ha
  have F2:=F1.same s2
  have g4:=s2 _ _ g3
  have edl:=F2.dl
  have e1:L1.ad .dl=L.ad .dl:=S1.dl
  rw [e1] at edl
  refine vF rfl g4 T.au T.bO rfl ⟨.inl ⟨rfl,_,bc.of F2.dl⟩,xE rfl ⟨L1.ad .dl,_,xE rfl ⟨rfl,F2.dl,by rw [UT,VA];lia,?_⟩⟩⟩
  have K3:Keeps [L1.ad .dl] H1 (upd H2 (L1.ad .dl) (.lst (((List.range A.disputes.length).map λj=>V.ref (L1.ad (.aK j)))++[.ref p]))):=λb o e nb=>by
   rw [ak (λz=>nb (by rw [z];exact UX.mpr rfl))]
   exact s2 _ _ e
  have D3:fY a (upd H2 (L1.ad .dl) (.lst (((List.range A.disputes.length).map λj=>V.ref (L1.ad (.aK j)))++[.ref p]))) p ask ht t1 en (newD (A.disputes.length+1) x y A.turns A.begin_):=(D (A.disputes.length+1)).imp λb o e nl=>by
   rw [ak (λz=>by rw [z,F2.dl] at e;exact nl _ (Option.some.inj e).symm)]
   exact e
  obtain ⟨F3,S3⟩:=F1.F7 K3 hp ha1 (λz=>ap z.symm) ae D3
  generalize hH3:upd H2 (L1.ad .dl) (.lst (((List.range A.disputes.length).map λj=>V.ref (L1.ad (.aK j)))++[.ref p]))=H3 at F3 S3 ⊢
  have pd:(L1.F7 A.disputes.length p ask ht t1 en).ad (.aK A.disputes.length)=p:=if_pos rfl
  generalize hL3:L1.F7 A.disputes.length p ask ht t1 en=L3 at F3 S3 pd
  have F3:aH a bad H3 L3 (iq A x y):=F3
  have S3:Step H1 L1 A H3 L3 (iq A x y):=S3
  have pl:(iq A x y).disputes.length=A.disputes.length+1:=by
   show (A.disputes++[_]).length=_
   rw [VD]
   rfl
  obtain ⟨da3,g5⟩:=F3.af
  rw [S3.af,S1.af] at g5
  refine vM rfl g5 rfl (xE rfl ⟨bad,L3,iq A x y,A.disputes.length,n,by rw [S3.af,S1.af,pd];rfl,F3,hG.xy,hG.base,hG.cn,by rw [pl];exact U1 _,hG.J4 _ (by rw [pl];exact U1 _),λH4 L4 S4 F4=>?_⟩)
  obtain ⟨da4,g6⟩:=F4.af
  rw [S4.af,S3.af,S1.af] at g6
  refine vF rfl g6 T.au T.bO rfl ⟨L4.ad .dl,xE rfl ⟨.inl (bc.of F4.dl),?_⟩⟩
  rw [UT,VA,CD,pl]
  exact k H4 L4 ((S1.trans S3).trans S4) F4
end
theorem pV (A:UQ):∀ (f:Nat) (d:UW),(U3 A f d).no=d.no/\(U3 A f d).x=d.x/\(U3 A f d).y=d.y
 | 0,d=>⟨rfl,rfl,rfl⟩
 | f+1,d=>by
  rw [U3]
  split
  ·exact ⟨rfl,rfl,rfl⟩
  ·split
   ·exact ⟨rfl,rfl,rfl⟩
   ·split
    ·rename_i r s hr hs
     obtain ⟨h1,h2,h3⟩:=pV A f (if (if r=s then { d with lo:=d.asked,agreed:=r } else { d with hi:=d.asked }:UW).hi<=(if r=s then { d with lo:=d.asked,agreed:=r } else { d with hi:=d.asked }:UW).lo+1 then (if r=s then { d with lo:=d.asked,agreed:=r } else { d with hi:=d.asked }:UW) else asks (if r=s then { d with lo:=d.asked,agreed:=r } else { d with hi:=d.asked }:UW))
     have e:∀ (c:Prop) [Decidable c] (e:UW),(if c then e else asks e).no=e.no/\(if c then e else asks e).x=e.x/\(if c then e else asks e).y=e.y:=λc _ e=>by split<;>exact ⟨rfl,rfl,rfl⟩
     have e2:(if r=s then { d with lo:=d.asked,agreed:=r } else { d with hi:=d.asked }:UW).no=d.no/\(if r=s then { d with lo:=d.asked,agreed:=r } else { d with hi:=d.asked }:UW).x=d.x/\(if r=s then { d with lo:=d.asked,agreed:=r } else { d with hi:=d.asked }:UW).y=d.y:=by split<;>exact ⟨rfl,rfl,rfl⟩
     have e3:=e ((if r=s then { d with lo:=d.asked,agreed:=r } else { d with hi:=d.asked }:UW).hi<=(if r=s then { d with lo:=d.asked,agreed:=r } else { d with hi:=d.asked }:UW).lo+1) (if r=s then { d with lo:=d.asked,agreed:=r } else { d with hi:=d.asked }:UW)
     exact ⟨h1.trans (e3.1.trans e2.1),h2.trans (e3.2.1.trans e2.2.1),h3.trans (e3.2.2.trans e2.2.2)⟩
    ·exact ⟨rfl,rfl,rfl⟩
theorem GI {d:UW} (h:U2 d=true):d.verdict=none:=by
 have:d.verdict.isNone=true:=h
 simpa using this
theorem ED {A:UQ} {n:Nat} (hS:Cp A n):∀ (f:Nat) (d:UW) (r s:UU),Od A d r s->d.verdict=none->ir A.program n d.agreed->U2 (U3 A f d)=true ->
  (∃ r1 s1,Od A (U3 A f d) r1 s1)/\ir A.program n (U3 A f d).agreed
 | 0,d,r,s,O,hv,hg,_=>⟨⟨r,s,O⟩,hg⟩
 | f+1,d,r,s,O,hv,hg,ho=>by
  have co:U2 d=true:=by unfold U2;rw [hv];rfl
  by_cases c1:d.hi=d.lo+1
  ·rw [tX co c1] at ho
   exact absurd ho (λq=>Vo q)
  ·have c2:¬ d.hi<=d.lo+1:=by have:=O.lt;lia
   cases e1:UY A d.x d.asked with
   | none=>rw [lS co c2 (.inl e1)];exact ⟨⟨r,s,O⟩,hg⟩
   | some r' =>
    cases e2:UY A d.y d.asked with
    | none=>rw [lS co c2 (.inr e2)];exact ⟨⟨r,s,O⟩,hg⟩
    | some s' =>
     have le:=O.le
     have p11:(2:Nat) ^ 11=2048:=by decide
     obtain ⟨hlt,⟨r1,t1,OK⟩,hv',hf,hm,hag,hxx,hyy⟩:=Cn (f:=11) O hv c1 e1 e2 (by lia) (by decide)
     rw [wt co c2 e1 e2 hlt] at ho ⊢
     refine ED hS f _ r1 t1 OK hv' ?_ ho
     rcases hag with q | q
     ·rw [q];exact hg
     ·rw [q]
      obtain ⟨z,hz,ez⟩:=qk e1
      rw [<- ez]
      exact hS z hz
structure UK (A:UQ) (d:UW) (r s:UU):Prop where
 hx:UY A d.x d.hi=some r
 hy:UY A d.y d.hi=some s
 ne:r≠s
 lt:d.lo < d.hi
 le:d.hi<=2000
 mid:d.hi≠d.lo+1->d.asked=(d.lo+d.hi) / 2
structure Pre (A:UQ) (n:Nat):Prop where
 xy:XY A
 base:Fq A n
 cn:Cp A n
 J4:∀ j,j < A.disputes.length->U2 (aL A j)=true->(∃ r s,UK A (aL A j) r s)/\ir A.program n (aL A j).agreed
theorem Good.pre {A:UQ} {n:Nat} (g:Good A n):Pre A n:=⟨g.xy,g.base,g.cn,λj hj ho=>by
 obtain ⟨⟨r,s,O⟩,h⟩:=g.J4 j hj ho
 exact ⟨⟨r,s,O.hx,O.hy,O.ne,O.lt,O.le,O.mid⟩,h⟩⟩
theorem wx {A:UQ} {j i:Nat} {d:UW} (hj:j < A.disputes.length):aL (bA A j d) i=if i=j then d else aL A i:=by
 unfold aL bA
 rw [VY,VY]
 by_cases e:i=j
 ·subst e
  rw [if_pos rfl,V6 hj]
  rfl
 ·rw [if_neg e,WI (λz=>e z.symm)]
theorem Pre.closed {A:UQ} {n j:Nat} {e:UW} (p:Pre A n) (hj:j < A.disputes.length) (hc:U2 e=false) (ex:e.x=(aL A j).x) (ey:e.y=(aL A j).y):Pre (bA A j e) n:=by
 refine ⟨p.xy.set (ba hj) ex ey,⟨p.base.prog,p.base.n6,p.base.vQ,p.base.once⟩,p.cn,λi hi ho=>?_⟩
 rw [wx hj] at ho ⊢
 by_cases c:i=j
 ·rw [if_pos c,hc] at ho;cases ho
 ·rw [if_neg c] at ho ⊢
  have hi:i < A.disputes.length:=by
   have hi:i < (A.disputes.set j e).length:=hi
   rw [Vs] at hi
   exact hi
  obtain ⟨⟨r,s,O⟩,h⟩:=p.J4 i hi ho
  exact ⟨⟨r,s,O.hx,O.hy,O.ne,O.lt,O.le,O.mid⟩,h⟩
structure oB (A B:UQ):Prop where
 prog:B.program=A.program
 vQ:B.begin_=A.begin_
 turns:B.turns=A.turns
 heard:B.heard=A.heard
 hosts:B.hosts.length=A.hosts.length
 aK:B.disputes=A.disputes
theorem oB.refl (A:UQ):oB A A:=⟨rfl,rfl,rfl,rfl,rfl,rfl⟩
theorem oB.out {A B:UQ} (h:oB A B) (i:Nat) (to:Option Nat):oB A (Vu B i to):=by
 have l:=tK B i to
 have f:=kd B i to
 refine ⟨?_,?_,?_,?_,l.trans h.hosts,?_⟩
 ·rw [f];exact h.prog
 ·rw [f];exact h.vQ
 ·rw [f];exact h.turns
 ·rw [f];exact h.heard
 ·rw [f];exact h.aK
theorem oB.fold {A:UQ} {g:Nat->Option Nat}:∀ (l:List Nat) {B:UQ},oB A B->oB A (l.foldl (λa h=>Vu a h (g h)) B)
 | [],_,h=>h
 | x::r,_,h=>oB.fold r (h.out x (g x))
theorem CZ (B:UQ) (d:UW):(cU B d).no=d.no/\(cU B d).x=d.x/\(cU B d).y=d.y:=by
 unfold cU
 split
 ·split
  ·exact ⟨rfl,rfl,rfl⟩
  ·split<;>exact ⟨rfl,rfl,rfl⟩
 ·exact ⟨rfl,rfl,rfl⟩
theorem zY {B:UQ} {d:UW} (h:U2 (cU B d)=true):cU B d=d/\U2 d=true/\(US B d.x).out=false/\(US B d.y).out=false:=by
 unfold cU at h ⊢
 split at h
 ·rename_i o
  rw [if_pos o]
  split at h
  ·exact absurd h (λq=>Vo q)
  ·rename_i x
   rw [if_neg x]
   split at h
   ·exact absurd h (λq=>Vo q)
   ·rename_i y
    rw [if_neg y]
    exact ⟨rfl,o,by simpa using x,by simpa using y⟩
 ·rename_i o
  exact absurd h o
theorem gi {A B:UQ} (h:B.heard=A.heard) (i t:Nat):UY B i t=UY A i t:=by
 unfold UY
 rw [h]
theorem Cm {A B:UQ} {n:Nat} (p:Pre A n) (l:oB A B):Good (Vp B) n:=by
 rw [kM]
 refine ⟨λd hd=>?_,⟨by show yM B.program;rw [l.prog];exact p.base.prog,p.base.n6,by show ir B.program n B.begin_;rw [l.prog,l.vQ];exact p.base.vQ,by show Once B.heard;rw [l.heard];exact p.base.once⟩,λx hx=>?_,λj hj ho=>?_⟩
 ·obtain ⟨e,he,rfl⟩:=Vb.mp hd
  rw [l.aK] at he
  obtain ⟨h1,h2,h3⟩:=p.xy e he
  obtain ⟨_,k1,k2⟩:=CZ B e
  show (cU B e).x < B.hosts.length/\(cU B e).y < B.hosts.length/\_
  rw [k1,k2,l.hosts]
  exact ⟨h1,h2,h3⟩
 ·have hx:x∈B.heard:=hx
  rw [l.heard] at hx
  show ir B.program n x.says
  rw [l.prog]
  exact p.cn x hx
 ·have hj:j < B.disputes.length:=by
   have hj:j < (B.disputes.map (cU B)).length:=hj
   rw [UT] at hj
   exact hj
  have e1:aL { B with disputes:=B.disputes.map (cU B) } j=cU B (aL A j):=by
   refine yb (A:={ B with disputes:=B.disputes.map (cU B) }) ?_
   show (B.disputes.map (cU B))[j]?=_
   have hj2:j < A.disputes.length:=by rw [<- l.aK];exact hj
   rw [Vw,l.aK,ba hj2]
   rfl
  rw [e1] at ho ⊢
  obtain ⟨e2,o,xo,yo⟩:=zY ho
  rw [e2]
  have hj2:j < A.disputes.length:=by rw [<- l.aK];exact hj
  obtain ⟨⟨r,s,O⟩,hg⟩:=p.J4 j hj2 o
  obtain ⟨h1,h2,h3⟩:=p.xy _ (Vx (ba hj2))
  refine ⟨⟨r,s,?_,?_,h3,xo,yo,?_,?_,O.ne,O.lt,O.le,O.mid⟩,?_⟩
  ·show (aL A j).x < B.hosts.length;rw [l.hosts];exact h1
  ·show (aL A j).y < B.hosts.length;rw [l.hosts];exact h2
  ·exact (gi l.heard _ _).trans O.hx
  ·exact (gi l.heard _ _).trans O.hy
  ·show ir B.program n _;rw [l.prog];exact hg
theorem M8 {A:UQ} {n j:Nat} (g:Good A n) (hj:j < A.disputes.length):Good (fK A j) n:=by
 unfold fK
 split
 ·exact g
 ·rename_i ho
  have ho:U2 (aL A j)=true:=by simpa using ho
  obtain ⟨⟨r,s,O⟩,hg⟩:=g.J4 j hj ho
  obtain ⟨k0,k1,k2⟩:=pV A Va (aL A j)
  split
  ·rename_i hw
   have dv:=ED g.cn Va (aL A j) r s O (GI ho) hg hw
   refine ⟨g.xy.set (ba hj) k1 k2,⟨g.base.prog,g.base.n6,g.base.vQ,g.base.once⟩,g.cn,λi hi hi2=>?_⟩
   rw [wx hj] at hi2 ⊢
   by_cases c:i=j
   ·rw [if_pos c]
    obtain ⟨⟨r1,s1,O1⟩,h1⟩:=dv
    exact ⟨⟨r1,s1,O1.xl,O1.yl,O1.xy,O1.xo,O1.yo,O1.hx,O1.hy,O1.ne,O1.lt,O1.le,O1.mid⟩,h1⟩
   ·rw [if_neg c] at hi2 ⊢
    have hi:i < A.disputes.length:=by
     have hi:i < (A.disputes.set j _).length:=hi
     rw [Vs] at hi
     exact hi
    obtain ⟨⟨r1,s1,O1⟩,h1⟩:=g.J4 i hi hi2
    exact ⟨⟨r1,s1,O1.xl,O1.yl,O1.xy,O1.xo,O1.yo,O1.hx,O1.hy,O1.ne,O1.lt,O1.le,O1.mid⟩,h1⟩
  ·rename_i hw
   have hw:U2 (U3 A Va (aL A j))=false:=by simpa using hw
   exact Cm (g.pre.closed hj hw k1 k2) (oB.fold _ (oB.refl _))
theorem pK {A:UQ} {n:Nat} (g:Good A n):∀ k,k<=A.disputes.length->Good (a9 A k) n
 | 0,_=>g
 | k+1,h=>by
  rw [fO]
  exact M8 (pK g k (by exact VN ‹_›)) (by rw [jL];assumption)
def Num (A:UQ):Prop:=∀ (j:Nat) (d:UW),A.disputes[j]?=some d->d.no=j+1
theorem Num.at {A:UQ} (h:Num A) {j:Nat} (hj:j < A.disputes.length):(aL A j).no=j+1:=h j _ (ba hj)
theorem Lk:∀ (l:List UW) (k j:Nat),(∀ (i:Nat) (d:UW),l[i]?=some d->d.no=i+k)->l.find? (λd=>d.no == j+k)=l[j]?
 | [],k,j,_=>by simp
 | d::r,k,j,h=>by
  have h0:d.no=0+k:=h 0 d rfl
  rw [Vy]
  cases j with
  | zero =>
   have:(d.no == 0+k)=true:=beq_iff_eq.mpr h0
   rw [this]
   rfl
  | succ j =>
   have:(d.no == j+1+k)=false:=beq_eq_false_iff_ne.mpr (by lia)
   rw [this]
   have ih:=Lk r (k+1) j (λi e he=>by have:=h (i+1) e (by simpa using he);lia)
   show r.find? (λd=>d.no == j+1+k)=_
   rw [show j+1+k=j+(k+1) by lia,ih]
   rfl
theorem lE {A:UQ} (h:Num A) (j:Nat):Wk A (j+1)=A.disputes[j]?:=Lk A.disputes 1 j h
theorem OY:∀ (l:List UW) (k j:Nat) (e:UW),(∀ (i:Nat) (d:UW),l[i]?=some d->d.no=i+k)->e.no=j+k->l.map (λd=>if d.no=e.no then e else d)=l.set j e
 | [],k,j,e,_,_=>by simp
 | d::r,k,j,e,h,he=>by
  have h0:d.no=0+k:=h 0 d rfl
  have hr:∀ (i:Nat) (d':UW),r[i]?=some d'->d'.no=i+(k+1):=λi d' hd=>by have:=h (i+1) d' (by simpa using hd);lia
  rw [Vc]
  cases j with
  | zero =>
   rw [if_pos (by lia),List.set_cons_zero]
   congr 1
   have:r.map (λd=>if d.no=e.no then e else d)=r.map id:=Wc λd' hd=>by
    obtain ⟨i,hi⟩:=List.mem_iff_getElem?.mp hd
    have:=hr i d' hi
    rw [if_neg (by lia)]
    rfl
   rw [this,List.map_id]
  | succ j =>
   rw [if_neg (by lia),List.set_cons_succ,OY r (k+1) j e hr (by lia)]
theorem fw {A:UQ} (h:Num A) {j:Nat} {e:UW} (he:e.no=j+1):VQ A e=bA A j e:=by
 unfold VQ bA
 rw [OY A.disputes 1 j e h he]
theorem Num.set {A:UQ} (h:Num A) {j:Nat} {e:UW} (he:e.no=j+1):Num (bA A j e):=λi d hd=>by
 have hd:(A.disputes.set j e)[i]?=some d:=hd
 by_cases c:i=j
 ·subst c
  have hl:i < A.disputes.length:=by
   have:=(Vn.mp hd).1
   rw [Vs] at this
   exact this
  rw [V6 hl] at hd
  cases hd
  exact he
 ·rw [WI (λz=>c z.symm)] at hd
  exact h i d hd
theorem Num.left {A B:UQ} (h:Num A) (l:oB A B):Num (Vp B):=λi d hd=>by
 rw [kM] at hd
 have hd:(B.disputes.map (cU B))[i]?=some d:=hd
 rw [Vw,l.aK] at hd
 cases q:A.disputes[i]? with
 | none=>rw [q] at hd;cases hd
 | some e =>
  rw [q] at hd
  have hd:=Option.some.inj hd
  rw [<- hd,(CZ B e).1]
  exact h i e q
theorem Num.look {A:UQ} (h:Num A) {j:Nat} (hj:j < A.disputes.length):Num (fK A j):=by
 unfold fK
 have e:=(pV A Va (aL A j)).1.trans (h.at hj)
 split
 ·exact h
 ·split
  ·exact h.set e
  ·exact (h.set e).left (oB.fold _ (oB.refl _))
theorem Num.a9 {A:UQ} (h:Num A):∀ k,k<=A.disputes.length->Num (a9 A k)
 | 0,_=>h
 | k+1,hk=>by
  rw [fO]
  exact (Num.a9 h k (by exact VN ‹_›)).look (by rw [jL];assumption)
theorem QG {A:UQ} (h:Num A):(A.disputes.map λd=>d.no)=(List.range A.disputes.length).map (·+1):=by
 refine List.ext_getElem? λi=>?_
 rw [Vw,Vw]
 by_cases hi:i < A.disputes.length
 ·rw [WR hi,ba hi]
  show some (aL A i).no=some (i+1)
  rw [h.at hi]
 ·rw [Wf (by exact We.mp ‹_›),Wf (by rw [VA];exact We.mp ‹_›)]
  rfl
theorem vg {A:UQ} (h:Num A):Vbapaj.allWeighed A=a9 A A.disputes.length:=by
 unfold Vbapaj.allWeighed
 rw [QG h,List.foldl_map]
 have key:∀ k,k<=A.disputes.length->(List.range k).foldl (λ(a:UQ) (n:Nat)=>match Wk a (n+1) with
   | none=>a
   | some d=>if U2 d=false then a else
    let e:=U3 a Va d
    let b:=VQ a e
    if U2 e=true then b else VL b e) A=a9 A k:=by
  intro k
  induction k with
  | zero=>intro _;rfl
  | succ k ih =>
   intro hk
   rw [Xa,List.foldl_append,ih (by exact VN ‹_›),fO]
   have hn:=h.a9 k (by exact VN ‹_›)
   have hl:k < (a9 A k).disputes.length:=by rw [jL];assumption
   show (match Wk (a9 A k) (k+1) with
    | none=>a9 A k
    | some d=>if U2 d=false then a9 A k else
     if U2 (U3 (a9 A k) Va d)=true then VQ (a9 A k) (U3 (a9 A k) Va d) else VL (VQ (a9 A k) (U3 (a9 A k) Va d)) (U3 (a9 A k) Va d))=fK (a9 A k) k
   rw [lE hn,ba hl]
   unfold fK
   have e:=(pV (a9 A k) Va (aL (a9 A k) k)).1.trans (hn.at hl)
   show (if U2 (aL (a9 A k) k)=false then a9 A k else if U2 (U3 (a9 A k) Va (aL (a9 A k) k))=true then VQ (a9 A k) (U3 (a9 A k) Va (aL (a9 A k) k)) else VL (VQ (a9 A k) (U3 (a9 A k) Va (aL (a9 A k) k))) (U3 (a9 A k) Va (aL (a9 A k) k)))=_
   rw [fw hn e]
 exact key _ (U1 _)
def Quiet (A:UQ) (k:Nat):Prop:=∀ j,j < k->U2 (aL A j)=true->U3 A Va (aL A j)=aL A j
theorem BB {A B:UQ} (h1:B.heard=A.heard) (h2:B.program=A.program):∀ (f:Nat) (d:UW),U3 B f d=U3 A f d
 | 0,_=>rfl
 | f+1,d=>by
  rw [U3,U3,h2,gi h1,gi h1,gi h1,gi h1]
  split
  ·rfl
  ·split
   ·rfl
   ·split
    ·exact BB h1 h2 f _
    ·rfl
theorem AA (A:UQ) (j:Nat):(fK A j).heard=A.heard/\(fK A j).program=A.program:=by
 unfold fK
 split
 ·exact ⟨rfl,rfl⟩
 ·split
  ·exact ⟨rfl,rfl⟩
  ·have l:=oB.fold (A:=bA A j (U3 A Va (aL A j))) (g:=λh=>if (WB (U3 A Va (aL A j))).length=1 then some (if h=(U3 A Va (aL A j)).x then (U3 A Va (aL A j)).y else (U3 A Va (aL A j)).x) else none) (WB (U3 A Va (aL A j))) (oB.refl _)
   exact ⟨l.heard,l.prog⟩
theorem Pf {A:UQ} {j i:Nat} (hj:j < A.disputes.length) (hi:i < A.disputes.length) (ho:U2 (aL (fK A j) i)=true):aL (fK A j) i=if i=j then U3 A Va (aL A j) else aL A i:=by
 unfold fK at ho ⊢
 split
 ·rename_i c
  rw [if_pos c] at ho
  by_cases e:i=j
  ·rw [e,c] at ho;cases ho
  ·rw [if_neg e]
 ·rename_i c
  rw [if_neg c] at ho
  split
  ·rw [wx hj]
  ·rename_i c2
   rw [if_neg c2] at ho
   have l:=oB.fold (A:=bA A j (U3 A Va (aL A j))) (g:=λh=>if (WB (U3 A Va (aL A j))).length=1 then some (if h=(U3 A Va (aL A j)).x then (U3 A Va (aL A j)).y else (U3 A Va (aL A j)).x) else none) (WB (U3 A Va (aL A j))) (oB.refl _)
   generalize hB:(WB (U3 A Va (aL A j))).foldl _ (bA A j (U3 A Va (aL A j)))=B at l
   have eJ:VL (bA A j (U3 A Va (aL A j))) (U3 A Va (aL A j))=Vp B:=by rw [<- hB];rfl
   rw [eJ,kM] at ho ⊢
   have e1:aL { B with disputes:=B.disputes.map (cU B) } i=cU B (aL (bA A j (U3 A Va (aL A j))) i):=by
    refine yb (A:={ B with disputes:=B.disputes.map (cU B) }) ?_
    show (B.disputes.map (cU B))[i]?=_
    rw [Vw,l.aK,ba (by show i < (A.disputes.set j _).length;rw [Vs];exact hi)]
    rfl
   rw [e1] at ho ⊢
   rw [(zY ho).1,wx hj]
theorem Kh {A:UQ} {j:Nat} (hj:j < A.disputes.length) (h:U2 (aL A j)=true->U3 A Va (aL A j)=aL A j):fK A j=A:=by
 unfold fK
 split
 ·rfl
 ·rename_i c
  have c:U2 (aL A j)=true:=by simpa using c
  rw [h c,if_pos c,Ap (ba hj)]
def GP (A:UQ) (d:UW):Prop:=¬ d.hi<=d.lo+1/\(UY A d.x d.asked=none∨UY A d.y d.asked=none)
def xa (A:UQ) (k:Nat):Prop:=∀ j,j < k->U2 (aL A j)=true->GP A (aL A j)
theorem xa.quiet {A:UQ} {k:Nat} (q:xa A k):Quiet A k:=λj hj ho=>by
 obtain ⟨h1,h2⟩:=q j hj ho
 exact lS ho h1 h2
theorem Ep {A:UQ}:∀ (f:Nat) (d:UW) (r s:UU),Od A d r s->d.verdict=none->d.hi - d.lo<=2 ^ f->U2 (U3 A (f+1) d)=true->GP A (U3 A (f+1) d):=by
 intro f
 induction f with
 | zero =>
  intro d r s O hv hf ho
  have co:U2 d=true:=by unfold U2;rw [hv];rfl
  have lt:=O.lt
  have:(2:Nat) ^ 0=1:=by decide
  rw [tX co (by lia)] at ho
  exact absurd ho (λq=>Vo q)
 | succ f ih =>
  intro d r s O hv hf ho
  have co:U2 d=true:=by unfold U2;rw [hv];rfl
  have lt:=O.lt
  by_cases c1:d.hi=d.lo+1
  ·rw [tX co c1] at ho
   exact absurd ho (λq=>Vo q)
  ·have c2:¬ d.hi<=d.lo+1:=by lia
   cases e1:UY A d.x d.asked with
   | none=>rw [lS co c2 (.inl e1)];exact ⟨c2,.inl e1⟩
   | some r' =>
    cases e2:UY A d.y d.asked with
    | none=>rw [lS co c2 (.inr e2)];exact ⟨c2,.inr e2⟩
    | some s' =>
     obtain ⟨hlt,⟨r1,t1,OK⟩,hv',hf',hm,hag,hxx,hyy⟩:=Cn (f:=f+1) O hv c1 e1 e2 hf (by lia)
     rw [wt co c2 e1 e2 hlt] at ho ⊢
     exact ih _ r1 t1 OK hv' hf' ho
theorem z8 {A B:UQ} {d:UW} (h:B.heard=A.heard) (s:GP A d):GP B d:=by
 unfold GP
 rw [gi h,gi h]
 exact s
theorem wJ {A:UQ} {n:Nat} (g:Good A n):∀ k,k<=A.disputes.length->xa (a9 A k) k
 | 0,_=>λj hj=>absurd hj (VR j)
 | k+1,hk=>by
  have ih:=wJ g k (by exact VN ‹_›)
  have G:=pK g k (by exact VN ‹_›)
  have hl:k < (a9 A k).disputes.length:=by rw [jL];assumption
  rw [fO]
  obtain ⟨h1,h2⟩:=AA (a9 A k) k
  intro j hj ho
  have hj2:j < (a9 A k).disputes.length:=by exact VH ‹_› ‹_›
  have e:=Pf hl hj2 ho
  refine z8 h1 ?_
  rw [e] at ho ⊢
  by_cases c:j=k
  ·rw [if_pos c] at ho ⊢
   have hopen:U2 (aL (a9 A k) k)=true:=by
    cases q:U2 (aL (a9 A k) k) with
    | true=>rfl
    | false =>
     exfalso
     have h30:U3 (a9 A k) Va (aL (a9 A k) k)=aL (a9 A k) k:=by
      show U3 (a9 A k) (29+1) _=_
      rw [U3,if_pos q]
     rw [h30,q] at ho
     cases ho
   obtain ⟨⟨r,s,O⟩,_⟩:=G.J4 k hl hopen
   refine Ep 29 _ r s O (GI hopen) ?_ ho
   have:=O.le
   have e29:(2:Nat) ^ 29=536870912:=by decide
   lia
  ·rw [if_neg c] at ho ⊢
   exact ih j (by lia) ho
theorem Mv {A:UQ} (n:Nat):A.disputes.find? (λd=>U2 d&&Vv d n)=(j7 A n).head?.map (aL A):=by
 unfold j7
 rw [List.head?_filter]
 have e:A.disputes=(List.range A.disputes.length).map (aL A):=by
  refine List.ext_getElem? λi=>?_
  rw [Vw]
  by_cases hi:i < A.disputes.length
  ·rw [WR hi,ba hi];rfl
  ·rw [Wf (by exact We.mp ‹_›),Wf (by rw [VA];exact We.mp ‹_›)];rfl
 conv=>lhs;rw [e]
 rw [List.find?_map]
 rfl
theorem FA {A:UQ} {d:UW} {n:Nat} (h:WB d=[n]):VL A d=Vp (outs A [n] (some (if n=d.x then d.y else d.x))):=by
 unfold VL
 rw [h]
 rfl
theorem JI {A:UQ} {n j:Nat} (h:j∈j7 A n):j < A.disputes.length/\U2 (aL A j)=true/\Vv (aL A j) n=true:=by
 obtain ⟨h1,h2⟩:=V5.mp h
 rw [U6] at h2
 exact ⟨Vq.mp h1,h2.1,h2.2⟩
theorem J7 {A:UQ} (h:Num A) (i t:Nat) (s:UU):Vbapaj.hears A i t s=vH A i t s:=by
 unfold Vbapaj.hears vH
 split
 ·rfl
 ·cases e:UY A i t with
  | none=>exact vg (A:=cA A i t s) h
  | some r =>
   show (if r=s then A else _)=if r=s then A else pw A i
   split
   ·rfl
   ·rw [Mv]
    unfold pw
    cases q:j7 A i with
    | nil=>rfl
    | cons j l =>
     have hj:=(JI (A:=A) (n:=i) (j:=j) (by rw [q];exact Vi ..)).1
     show VL (VQ A { aL A j with verdict:=some (.twice i) }) { aL A j with verdict:=some (.twice i) }=_
     rw [fw h (show ({ aL A j with verdict:=some (.twice i) }:UW).no=j+1 from h.at hj),FA rfl]
     rfl
theorem GA {A:UQ} (h:Num A) {m n:Nat} (hm:m < A.disputes.length):VL (VQ A { aL A m with verdict:=some (.silent n) }) { aL A m with verdict:=some (.silent n) }=oI A (m+1) n:=by
 rw [fw h (show ({ aL A m with verdict:=some (.silent n) }:UW).no=m+1 from h.at hm),FA rfl]
 unfold oI
 rw [if_neg (show ¬ m+1=0 by exact WX _),Nat.add_sub_cancel]
 rfl
theorem Jo {A:UQ} {x y j:Nat} (hj:j < A.disputes.length):aL (iq A x y) j=aL A j:=by
 refine yb (A:=iq A x y) ?_
 show (A.disputes++[_])[j]?=_
 rw [W2 hj,ba hj]
theorem vX (A:UQ) (x y:Nat):(iq A x y).disputes.length=A.disputes.length+1:=by
 show (A.disputes++[_]).length=_
 rw [VD]
 rfl
theorem Num.pair {A:UQ} (h:Num A) (x y:Nat):Num (iq A x y):=λi d hd=>by
 have hd:(A.disputes++[newD (A.disputes.length+1) x y A.turns A.begin_])[i]?=some d:=hd
 by_cases c:i < A.disputes.length
 ·rw [W2 c] at hd
  exact h i d hd
 ·have ci:i=A.disputes.length:=by
   have:=(Vn.mp hd).1
   rw [VD] at this
   have:i < A.disputes.length+1:=this
   lia
  subst ci
  rw [WK (U1 _),WU] at hd
  cases hd
  rfl
theorem Iw {A:UQ} (h:Num A) (hq:Quiet A A.disputes.length) (x y:Nat):Vbapaj.allWeighed (iq A x y)=fK (iq A x y) A.disputes.length:=by
 rw [vg (h.pair x y),vX,fO]
 congr 1
 have key:∀ k,k<=A.disputes.length->a9 (iq A x y) k=iq A x y:=by
  intro k
  induction k with
  | zero=>intro _;rfl
  | succ k ih =>
   intro hk
   rw [fO,ih (by exact VN ‹_›)]
   refine Kh (by rw [vX];lia) λho=>?_
   rw [Jo (by assumption)] at ho ⊢
   rw [BB (A:=A) (B:=iq A x y) rfl rfl]
   exact hq k (by assumption) ho
 exact key _ (U1 _)
theorem Good.pair {A:UQ} {n x y:Nat} {r s:UU} (g:Good A n) (hx:x < A.hosts.length) (hy:y < A.hosts.length) (xy:x≠y) (xo:(US A x).out=false) (yo:(US A y).out=false) (hr:UY A x A.turns=some r) (hs:UY A y A.turns=some s) (ne:r≠s) (t1:1<=A.turns) (t2:A.turns<=2000) :
  Good (iq A x y) n:=by
 refine ⟨λd hd=>?_,⟨g.base.prog,g.base.n6,g.base.vQ,g.base.once⟩,g.cn,λj hj ho=>?_⟩
 ·have hd:d∈A.disputes++[newD (A.disputes.length+1) x y A.turns A.begin_]:=hd
  rcases Wi.mp hd with q | q
  ·exact g.xy d q
  ·rw [UX.mp q]
   exact ⟨hx,hy,xy⟩
 ·rw [vX] at hj
  by_cases c:j < A.disputes.length
  ·rw [Jo c] at ho ⊢
   obtain ⟨⟨r1,s1,O1⟩,h1⟩:=g.J4 j c ho
   exact ⟨⟨r1,s1,O1.xl,O1.yl,O1.xy,O1.xo,O1.yo,O1.hx,O1.hy,O1.ne,O1.lt,O1.le,O1.mid⟩,h1⟩
  ·have cj:j=A.disputes.length:=by lia
   have e:aL (iq A x y) j=newD (A.disputes.length+1) x y A.turns A.begin_:=by
    refine yb (A:=iq A x y) ?_
    show (A.disputes++[_])[j]?=_
    rw [cj,WK (U1 _),WU]
    rfl
   rw [e]
   refine ⟨⟨r,s,hx,hy,xy,xo,yo,hr,hs,ne,t1,t2,λ_=>?_⟩,g.base.vQ⟩
   show A.turns / 2=(0+A.turns) / 2
   rw [WO]
theorem Jn (A:UQ) (x y:Nat):((j7 A x).any λj=>Vv (aL A j) y)=WC A x y:=by
 unfold WC j7
 rw [List.any_filter]
 have e:A.disputes=(List.range A.disputes.length).map (aL A):=by
  refine List.ext_getElem? λi=>?_
  rw [Vw]
  by_cases hi:i < A.disputes.length
  ·rw [WR hi,ba hi];rfl
  ·rw [Wf (by exact We.mp ‹_›),Wf (by rw [VA];exact We.mp ‹_›)];rfl
 conv=>rhs;rw [e]
 rw [Wn]
 congr 1
 funext j
 simp only [Function.comp,Bool.and_assoc]
section
variable {P:Program} {w:World} {K:UR} {mg:Str->Option Value} {base:Heap} {a:bF}
def Bg (prog:List U9) (b:UU) (T k n st:Nat):UQ:={ program:=prog,begin_:=b,turns:=T,mayLose:=k,hosts:=WJ n { bent:=[],stake:=st,out:=false },heard:=[],saidTo:=WJ n 0,lost:=0,disputes:=[],purse:=0,found:=none }
theorem BS {prog:List U9} {b:UU} {T k n st i:Nat} (hi:i < n):US (Bg prog b T k n st) i={ bent:=[],stake:=st,out:=false }:=by
 unfold US Bg
 rw [VY,List.getElem?_replicate,if_pos hi]
 rfl
structure OA (a:bF) (H H':Hp) (f:Nat->Addr × Addr × Addr) (n st:Nat):Prop where
 is:∀ i,i < n->tf a H' (f i).1 (f i).2.1 (f i).2.2 st false/\H' (f i).2.1=some (.dK [])/\H' (f i).2.2=some (.dK [])
 free:∀ i,i < n->H (f i).1=none/\H (f i).2.1=none/\H (f i).2.2=none
 Tr:∀ i j,i < n->j < n->(f i).1=(f j).1->i=j
 S8:∀ i j,i < n->j < n->(f i).2.1=(f j).2.1->i=j
 Sx:∀ i j,i < n->j < n->(f i).2.2=(f j).2.2->i=j
 QJ:∀ i j,i < n->j < n->(f i).2.1≠(f j).2.2
noncomputable def T8:HO->Nat
 | .ins _ _ ((f,_)::_)=>if f="run" then 0 else if f="hosts" then 1 else if f="stake" then 2 else 9
 | .lst _=>3
 | .dK _=>4
 | _=>9
def Fh:Role->Nat
 | .af=>0
 | .op=>1
 | .host _=>2
 | .ls=>3
 | .dl=>3
 | .aK _=>8
 | .bM _=>8
 | _=>4
def FG (K:UR) (a:bF):Sp:=λvs H Q _=>∃ (af dx r lo ls:Addr) (os ts:List Addr) (T k n st:Nat) (prog:List U9) (b:UU) (bad:List Addr),vs=[.ref af,.ref r,.int (T:Int),.int (k:Int),.int (n:Int),.int (st:Int)]/\H af=some (.ins a.aG dx [])/\sg a H r lo ls os ts prog b/\ts.length<=2001/\n<=1000/\¬ lo∈bad/\(∀ x∈bad,H x≠none) /\
 ∀ (H':Hp) (L:Lay),Keeps [af] H H'->L.ad .af=af->L.ad .ls=ls->(∀ r,Lv (Bg prog b T k n st) r->r=.af∨r=.ls∨H (L.ad r)=none)->L.r=r->aH a bad H' L (Bg prog b T k n st)->Q .dF H'
theorem E8 (T:Txt K mg a):a7 P w K mg base eQ 4 a.mD a.mr ["self","run","turns","k","n","stake"] (FG K a):=by
 refine T.u7.ok sD ?_ ?_
 ·rintro _ _ _ _ ⟨_,_,_,_,_,_,_,_,_,_,_,_,_,_,rfl,_⟩
  rfl
 ·rintro cdv A outer s H _ Q E hr ⟨af,dx,r,lo,ls,os,ts,T0,k0,n,st,prog,b,bad,rfl,hp,R,htl,hn,hlo,hbad,k⟩
  refine ⟨_,(ah (aQ (K:=K) (pv 0) (pv 1) rfl)
   (ah (aQ (K:=K) (pv 0) (pv 2) rfl)
   (ah (aQ (K:=K) (pv 0) (pv 3) rfl)
   (ah (aQ (K:=K) (pv 0) (xm rfl sD.nd (Gz rfl T.D8 (aa (pv 4) aj)) (eU (own:=[("number",6)]) (by show xC ["self","run","turns","k","n","stake","number"] (aq pW) _ _=true;decide +kernel)) (λ_ _ _ _ _=>ff (i:=6) sD.nd rfl (Or.inl rfl)) (λ_ _ _ _ _=>oP) (λ_ _ _ _ _=>(rE T.KP (HG (K:=K) T) hr.lo rfl T.qL T.x6 .nil aE (aa (pv 5) aj)))) rfl)
   (ah (aQ (K:=K) (pv 0) (rE T.CJ (DE (K:=K) T) hr.lo rfl T.lN T.sW .nil aE (aa (pv 2) (aa (pv 4) aj))) rfl)
   (ah (aQ (K:=K) (pv 0) (aS aj) rfl)
   (ah (aQ (K:=K) (pv 0) aw rfl)
   (ao (aQ (K:=K) (pv 0) Ed rfl))))))))),?_⟩
  have hz:=sizeLine_eq
  refine xE rfl (vS rfl hp T.au T.gm (by show 0 < 1000;decide) ?_)
  refine xE rfl (vS rfl ae T.au T.fC (by show 1 < 1000;decide) ?_)
  refine xE rfl (vS rfl ae T.au T.et (by show 2 < 1000;decide) ?_)
  rw [b6,b6]
  have K1:Keeps [af] H (upd H af (.ins a.aG dx (aZ (Str.ofString "losses_allowed") (.int (k0:Int)) (aZ (Str.ofString "turns") (.int (T0:Int)) (aZ (Str.ofString "run") (.ref r) []))))):=Keeps.upd (UX.mpr rfl)
  have a1:upd H af (.ins a.aG dx (aZ (Str.ofString "losses_allowed") (.int (k0:Int)) (aZ (Str.ofString "turns") (.int (T0:Int)) (aZ (Str.ofString "run") (.ref r) [])))) af=some (.ins a.aG dx (aZ (Str.ofString "losses_allowed") (.int (k0:Int)) (aZ (Str.ofString "turns") (.int (T0:Int)) (aZ (Str.ofString "run") (.ref r) [])))):=ae
  generalize hH1:upd H af (.ins a.aG dx (aZ (Str.ofString "losses_allowed") (.int (k0:Int)) (aZ (Str.ofString "turns") (.int (T0:Int)) (aZ (Str.ofString "run") (.ref r) []))))=H1 at K1 a1 ⊢
  refine xE rfl ⟨(n:Int),rfl,by exact V7 _,by omega,λD hD=>I0 (lo:=0) (n:=n) (λi H2=>∃ f,H2 D=some (.lst ((List.range i).map λj=>V.ref (f j).1))/\OA a H1 H2 f i st/\ax H1 H2) ⟨λ_=>(0,0,0),ae,⟨λi hi=>absurd hi (VR _),λi hi=>absurd hi (VR _),λi j hi=>absurd hi (VR _),λi j hi=>absurd hi (VR _),λi j hi=>absurd hi (VR _),λi j hi=>absurd hi (VR _)⟩,ax.laid hD⟩ ?_ ?_⟩
  ·rintro i H3 hi ⟨f,q1,N,s3⟩
   refine ⟨rfl,EZ (xE rfl (λp dp hp3 hdp npd=>⟨p,dp,st,rfl,ae,λH4 t h k4 ht hh nth his e1 e2=>⟨rfl,(List.range i).map λj=>V.ref (f j).1,?_,?_,λj=>if j=i then (p,t,h) else f j,?_,?_,?_⟩⟩))⟩
   all_goals
    have s4:ax H3 H4:=λb o e=>k4 b o (by rw [ak (aC e hp3),ak (aC e hdp)];exact e) λm=>aC e hp3 (UX.mp m)
   ·exact s4 _ _ q1
   ·rw [UT,VA];lia
   ·have e5:(List.range i).map (λj=>V.ref (if j=i then (p,t,h) else f j).1)=(List.range i).map λj=>V.ref (f j).1:=Wc λj hj=>by rw [if_neg (Vh (Vq.mp hj))]
    rw [ae,Xa,Vk]
    show some (HO.lst (_++[V.ref p]))=some (HO.lst ((List.range i).map (λj=>V.ref (if j=i then (p,t,h) else f j).1)++[V.ref (if i=i then (p,t,h) else f i).1]))
    rw [e5,if_pos rfl]
   ·have tp:t≠p:=λz=>by rw [z,ae] at ht;cases ht
    have td:t≠dp:=λz=>by rw [z,ak npd,ae] at ht;cases ht
    have hp':h≠p:=λz=>by rw [z,ae] at hh;cases hh
    have hd':h≠dp:=λz=>by rw [z,ak npd,ae] at hh;cases hh
    have t3:H3 t=none:=by rw [ak tp,ak td] at ht;exact ht
    have h3:H3 h=none:=by rw [ak hp',ak hd'] at hh;exact hh
    have kD:∀ (o:HO) (b:Addr) (u:HO),H4 b=some u->(∀ xs,u≠.lst xs)->upd H4 D o b=some u:=λo b u e nl=>by
     rw [ak (λz=>by rw [z,s4 _ _ q1] at e;exact nl _ (Option.some.inj e).symm)]
     exact e
    have sm:∀ j,j < i->(∃ o,H3 (f j).1=some o)/\(∃ o,H3 (f j).2.1=some o)/\∃ o,H3 (f j).2.2=some o:=λj hj=>by
     obtain ⟨⟨d,w1⟩,w2,w3⟩:=N.is j hj
     exact ⟨⟨_,w1⟩,⟨_,w2⟩,⟨_,w3⟩⟩
    have ne1:∀ {j x},j < i->H3 x=none->(f j).1≠x:=λhj hx z=>by obtain ⟨⟨o,w⟩,_⟩:=sm _ hj;rw [z,hx] at w;cases w
    have ne2:∀ {j x},j < i->H3 x=none->(f j).2.1≠x:=λhj hx z=>by obtain ⟨_,⟨o,w⟩,_⟩:=sm _ hj;rw [z,hx] at w;cases w
    have ne3:∀ {j x},j < i->H3 x=none->(f j).2.2≠x:=λhj hx z=>by obtain ⟨_,_,⟨o,w⟩⟩:=sm _ hj;rw [z,hx] at w;cases w
    have f0:(if i=i then (p,t,h) else f i)=(p,t,h):=if_pos rfl
    have fj:∀ {j},j < i->(if j=i then (p,t,h) else f j)=f j:=λhj=>if_neg (Vh hj)
    have cs:∀ {j},j < i+1->j < i∨j=i:=λhj=>by lia
    refine ⟨λj hj=>?_,λj hj=>?_,λj l hj hl e=>?_,λj l hj hl e=>?_,λj l hj hl e=>?_,λj l hj hl e=>?_⟩
    ·rcases cs hj with hj | rfl
     ·simp only [fj hj]
      obtain ⟨⟨d,w1⟩,w2,w3⟩:=N.is j hj
      exact ⟨⟨d,kD _ _ _ (s4 _ _ w1) (by intro xs z;cases z)⟩,kD _ _ _ (s4 _ _ w2) (by intro xs z;cases z),kD _ _ _ (s4 _ _ w3) (by intro xs z;cases z)⟩
     ·simp only [f0]
      obtain ⟨d,w1⟩:=his
      exact ⟨⟨d,kD _ _ _ w1 (by intro xs z;cases z)⟩,kD _ _ _ e1 (by intro xs z;cases z),kD _ _ _ e2 (by intro xs z;cases z)⟩
    ·rcases cs hj with hj | rfl
     ·simp only [fj hj];exact N.free j hj
     ·simp only [f0];exact ⟨s3.free hp3,s3.free t3,s3.free h3⟩
    ·rcases cs hj with hj | rfl<;>rcases cs hl with hl | rfl
     ·simp only [fj hj,fj hl] at e;exact N.Tr j l hj hl e
     ·simp only [fj hj,f0] at e;exact absurd e (ne1 hj hp3)
     ·simp only [fj hl,f0] at e;exact absurd e.symm (ne1 hl hp3)
     ·rfl
    ·rcases cs hj with hj | rfl<;>rcases cs hl with hl | rfl
     ·simp only [fj hj,fj hl] at e;exact N.S8 j l hj hl e
     ·simp only [fj hj,f0] at e;exact absurd e (ne2 hj t3)
     ·simp only [fj hl,f0] at e;exact absurd e.symm (ne2 hl t3)
     ·rfl
    ·rcases cs hj with hj | rfl<;>rcases cs hl with hl | rfl
     ·simp only [fj hj,fj hl] at e;exact N.Sx j l hj hl e
     ·simp only [fj hj,f0] at e;exact absurd e (ne3 hj h3)
     ·simp only [fj hl,f0] at e;exact absurd e.symm (ne3 hl h3)
     ·rfl
    ·rcases cs hj with hj | rfl<;>rcases cs hl with hl | rfl
     ·simp only [fj hj,fj hl] at e;exact N.QJ j l hj hl e
     ·simp only [fj hj,f0] at e;exact absurd e (ne2 hj h3)
     ·simp only [fj hl,f0] at e;exact absurd e.symm (ne3 hl t3)
     ·simp only [f0] at e;exact nth e
   ·exact cO (s3.trans s4) hD
  ·rintro H2 ⟨f,q1,N,s2⟩
   have a2:=s2 _ _ a1
   have aD:af≠D:=aV a2 q1 (by intro z;cases z)
   refine vS rfl a2 T.au T.bw (by show 3 < 1000;decide) ?_
   have K3:∀ o,Keeps [af] H2 (upd H2 af o):=λo=>Keeps.upd (UX.mpr rfl)
   have a3:∀ o,upd H2 af o af=some o:=λo=>ae
   generalize hH3:upd H2 af _=H3
   have K3:Keeps [af] H2 H3:=by rw [<- hH3];exact K3 _
   have a3:=a3 (.ins a.aG dx (aZ (Str.ofString "hosts") (.ref D) (aZ (Str.ofString "losses_allowed") (.int (k0:Int)) (aZ (Str.ofString "turns") (.int (T0:Int)) (aZ (Str.ofString "run") (.ref r) [])))))
   rw [hH3] at a3
   refine x2 rfl rfl (λop dop hop hdop nop=>⟨op,dop,T0,n,rfl,ae,hn,λH4 oa ot k4 ha O=>⟨rfl,?_⟩⟩)
   have s4:ax H3 H4:=λb o e=>k4 b o (by rw [ak (aC e hop),ak (aC e hdop)];exact e) λm=>aC e hop (UX.mp m)
   have a4:=s4 _ _ a3
   have oaop:oa≠op:=λz=>by rw [z,ae] at ha;cases ha
   have oadp:oa≠dop:=λz=>by rw [z,ak nop,ae] at ha;cases ha
   have ha3:H3 oa=none:=by rw [ak oaop,ak oadp] at ha;exact ha
   refine vS rfl a4 T.au T.lD (by show 4 < 1000;decide) ?_
   refine ⟨Vt _,λdl hdl=>?_⟩
   have dla:dl≠af:=λz=>by rw [z,ae] at hdl;cases hdl
   have hdl4:H4 dl=none:=by rw [ak dla] at hdl;exact hdl
   refine vS rfl (by rw [ak dla.symm];exact ae) T.au T.bO (by show 5 < 1000;decide) ?_
   refine vS rfl ae T.au T.nS (by show 6 < 1000;decide) ?_
   refine vS rfl ae T.au T.cz (by show 7 < 1000;decide) ?_
   rw [b6,b6]
   have F5:∀ (o1 o2 o3:HO) (b:Addr) (o:HO),H4 b=some o->b≠af->upd (upd (upd H4 af o1) dl o2) af o3 b=some o:=λo1 o2 o3 b o e nb=>by
    rw [ak nb,ak (aC e hdl4),ak nb];exact e
   have fin:∀ (b:Addr) (o:HO),H2 b=some o->b≠af->H4 b=some o:=λb o e nb=>s4 _ _ (K3 _ _ e λm=>nb (UX.mp m))
   have fin0:∀ (b:Addr) (o:HO),H b=some o->b≠af->H2 b=some o:=λb o e nb=>s2 _ _ (K1 _ _ e λm=>nb (UX.mp m))
   have G9:∀ (b:Addr) (o:HO),H4 b=some o->b≠af->upd (upd (upd H4 af (.ins a.aG dx (aZ (Str.ofString "opening") (V.ref op) (aZ (Str.ofString "hosts") (V.ref D) (aZ (Str.ofString "losses_allowed") (V.int (k0:Int)) (aZ (Str.ofString "turns") (V.int (T0:Int)) (aZ (Str.ofString "run") (V.ref r) []))))))) dl (.lst [])) af (.ins a.aG dx (aZ (Str.ofString "end_found") (V.bl false) (aZ (Str.ofString "purse") (V.int 0) (aZ (Str.ofString "disputes") (V.ref dl) (aZ (Str.ofString "opening") (V.ref op) (aZ (Str.ofString "hosts") (V.ref D) (aZ (Str.ofString "losses_allowed") (V.int (k0:Int)) (aZ (Str.ofString "turns") (V.int (T0:Int)) (aZ (Str.ofString "run") (V.ref r) []))))))))) b=some o:=F5 _ _ _
   have c_af:upd (upd (upd H4 af (.ins a.aG dx (aZ (Str.ofString "opening") (V.ref op) (aZ (Str.ofString "hosts") (V.ref D) (aZ (Str.ofString "losses_allowed") (V.int (k0:Int)) (aZ (Str.ofString "turns") (V.int (T0:Int)) (aZ (Str.ofString "run") (V.ref r) []))))))) dl (.lst [])) af (.ins a.aG dx (aZ (Str.ofString "end_found") (V.bl false) (aZ (Str.ofString "purse") (V.int 0) (aZ (Str.ofString "disputes") (V.ref dl) (aZ (Str.ofString "opening") (V.ref op) (aZ (Str.ofString "hosts") (V.ref D) (aZ (Str.ofString "losses_allowed") (V.int (k0:Int)) (aZ (Str.ofString "turns") (V.int (T0:Int)) (aZ (Str.ofString "run") (V.ref r) []))))))))) af=some (.ins a.aG dx [("run",.ref r),("turns",.int (T0:Int)),("losses_allowed",.int (k0:Int)),("hosts",.ref D),("opening",.ref op),("disputes",.ref dl),("purse",.int 0),("end_found",.bl false)]):=ae
   have c_dl:upd (upd (upd H4 af (.ins a.aG dx (aZ (Str.ofString "opening") (V.ref op) (aZ (Str.ofString "hosts") (V.ref D) (aZ (Str.ofString "losses_allowed") (V.int (k0:Int)) (aZ (Str.ofString "turns") (V.int (T0:Int)) (aZ (Str.ofString "run") (V.ref r) []))))))) dl (.lst [])) af (.ins a.aG dx (aZ (Str.ofString "end_found") (V.bl false) (aZ (Str.ofString "purse") (V.int 0) (aZ (Str.ofString "disputes") (V.ref dl) (aZ (Str.ofString "opening") (V.ref op) (aZ (Str.ofString "hosts") (V.ref D) (aZ (Str.ofString "losses_allowed") (V.int (k0:Int)) (aZ (Str.ofString "turns") (V.int (T0:Int)) (aZ (Str.ofString "run") (V.ref r) []))))))))) dl=some (.lst []):=by rw [ak dla,ae]
   show Q V.dF _
   generalize hH9:upd (upd (upd H4 af (.ins a.aG dx (aZ (Str.ofString "opening") (V.ref op) (aZ (Str.ofString "hosts") (V.ref D) (aZ (Str.ofString "losses_allowed") (V.int (k0:Int)) (aZ (Str.ofString "turns") (V.int (T0:Int)) (aZ (Str.ofString "run") (V.ref r) []))))))) dl (.lst [])) af (.ins a.aG dx (aZ (Str.ofString "end_found") (V.bl false) (aZ (Str.ofString "purse") (V.int 0) (aZ (Str.ofString "disputes") (V.ref dl) (aZ (Str.ofString "opening") (V.ref op) (aZ (Str.ofString "hosts") (V.ref D) (aZ (Str.ofString "losses_allowed") (V.int (k0:Int)) (aZ (Str.ofString "turns") (V.int (T0:Int)) (aZ (Str.ofString "run") (V.ref r) [])))))))))=H9 at G9 c_af c_dl ⊢
   have G0:∀ (b:Addr) (o:HO),H b=some o->b≠af->H9 b=some o:=λb o e nb=>G9 _ _ (fin _ _ (fin0 _ _ e nb) nb) nb
   have fr3:∀ x,H3 x=none->H x=none:=λx hx=>by
    cases q:H x with
    | none=>rfl
    | some o =>
     have nx:x≠af:=λz=>by rw [z,a3] at hx;cases hx
     rw [K3 _ _ (fin0 _ _ q nx) λm=>nx (UX.mp m)] at hx
     cases hx
   have fr1:∀ x,H1 x=none->H x=none:=λx hx=>by
    cases q:H x with
    | none=>rfl
    | some o =>
     have nx:x≠af:=λz=>by rw [z,a1] at hx;cases hx
     rw [K1 _ _ q λm=>nx (UX.mp m)] at hx
     cases hx
   have nl:∀ {b:Addr} {xs:List V},H b=some (.lst xs)->b≠af:=λe=>aV e hp (by intro z;cases z)
   have nt:∀ {b:Addr} {xs:List V},H b=some (.tup xs)->b≠af:=λe=>aV e hp (by intro z;cases z)
   have nh:∀ i,i < n->(f i).1≠af/\(f i).2.1≠af/\(f i).2.2≠af:=λi hi=>by
    obtain ⟨⟨d,w1⟩,w2,w3⟩:=N.is i hi
    exact ⟨kG w1 a2 (by decide),aV w2 a2 (by intro z;cases z),aV w3 a2 (by intro z;cases z)⟩
   obtain ⟨dopn,o1⟩:=O.ins
   obtain ⟨okvs,o3,o4⟩:=O.ask
   have opa:op≠af:=kG o1 a4 (by decide)
   have ota:ot≠af:=aV O.hosts a4 (by intro z;cases z)
   have oaa:oa≠af:=aV o3 a4 (by intro z;cases z)
   have Da:D≠af:=aD.symm
   have c_hl:=G9 _ _ (fin _ _ q1 Da) Da
   have c_ls:=G0 _ _ R.ES (nl R.ES)
   have c_op:=G9 _ _ o1 opa
   have c_oa:=G9 _ _ o3 oaa
   have c_h:∀ i,i < n->tf a H9 (f i).1 (f i).2.1 (f i).2.2 st false/\H9 (f i).2.1=some (.dK [])/\H9 (f i).2.2=some (.dK []):=λi hi=>by
    obtain ⟨⟨d,w1⟩,w2,w3⟩:=N.is i hi
    obtain ⟨m1,m2,m3⟩:=nh i hi
    exact ⟨⟨d,G9 _ _ (fin _ _ w1 m1) m1⟩,G9 _ _ (fin _ _ w2 m2) m2,G9 _ _ (fin _ _ w3 m3) m3⟩
   have ot1:∀ i,i < n->(f i).2.1≠oa/\(f i).2.2≠oa:=λi hi=>by
    obtain ⟨_,w2,w3⟩:=N.is i hi
    obtain ⟨_,m2,m3⟩:=nh i hi
    exact ⟨λz=>(by rw [<- z,K3 _ _ w2 λm=>m2 (UX.mp m)] at ha3;cases ha3),λz=>(by rw [<- z,K3 _ _ w3 λm=>m3 (UX.mp m)] at ha3;cases ha3)⟩
   have lsdl:ls≠dl:=λz=>by rw [<- z,fin _ _ (fin0 _ _ R.ES (nl R.ES)) (nl R.ES)] at hdl4;cases hdl4
   have lodl:lo≠dl:=λz=>by rw [<- z,fin _ _ (fin0 _ _ R.BR (nl R.BR)) (nl R.BR)] at hdl4;cases hdl4
   have Dls:D≠ls:=λz=>by rw [z,K1 _ _ R.ES λm=>nl R.ES (UX.mp m)] at hD;cases hD
   have Ddl:D≠dl:=λz=>by rw [<- z,fin _ _ q1 Da] at hdl4;cases hdl4
   have Db:¬ D∈bad:=λm=>hbad D m (fr1 D hD)
   have hln:(Bg prog b T0 k0 n st).hosts.length=n:=WL ..
   let L:Lay:={ ad:=λx=>match x with | .af=>af | .ls=>ls | .op=>op | .oa=>oa | .dl=>dl | .host i=>(f i).1 | .tell i=>(f i).2.1 | .qa i=>(f i).2.2 | .aK _=>af | .bM _=>af,r:=r,lo:=lo,hl:=D,ot:=ot,os:=os,ts:=ts,dt:=λ_=>af,da:=λ_=>af,de:=λ_=>af,tl:=λ_=>[] }
   refine k H9 L (λb o e m=>G0 _ _ e λz=>m (by rw [z];exact UX.mpr rfl)) rfl rfl (λx hx=>?_) rfl ⟨λx y hx hy e=>?_,⟨dx,c_af⟩,?_,htl,?_,λi hi=>?_,λi hi=>?_,λi hi=>?_,?_,c_dl,λj d hj=>?_,?_,?_,?_⟩
   ·cases x with
    | af=>exact .inl rfl
    | ls=>exact .inr (.inl rfl)
    | op=>exact .inr (.inr (fr3 _ hop))
    | oa=>exact .inr (.inr (fr3 _ ha3))
    | dl=>exact .inr (.inr (fr3 _ (s4.free hdl4)))
    | host i=>exact .inr (.inr (fr1 _ (N.free i (by rw [<- hln];exact hx)).1))
    | tell i=>exact .inr (.inr (fr1 _ (N.free i (by rw [<- hln];exact hx)).2.1))
    | qa i=>exact .inr (.inr (fr1 _ (N.free i (by rw [<- hln];exact hx)).2.2))
    | aK j=>exact absurd (show j < 0 from hx) (VR _)
    | bM j=>exact absurd (show j < 0 from hx) (VR _)
   ·have tg:∀ x,Lv (Bg prog b T0 k0 n st) x->∃ o,H9 (L.ad x)=some o/\T8 o=Fh x:=λx hx=>by
     cases x with
     | af=>exact ⟨_,c_af,rfl⟩
     | ls=>exact ⟨_,c_ls,rfl⟩
     | op=>exact ⟨_,c_op,rfl⟩
     | oa=>exact ⟨_,c_oa,rfl⟩
     | dl=>exact ⟨_,c_dl,rfl⟩
     | host i=>obtain ⟨⟨d,w1⟩,_,_⟩:=c_h i (by rw [<- hln];exact hx);exact ⟨_,w1,rfl⟩
     | tell i=>exact ⟨_,(c_h i (by rw [<- hln];exact hx)).2.1,rfl⟩
     | qa i=>exact ⟨_,(c_h i (by rw [<- hln];exact hx)).2.2,rfl⟩
     | aK j=>exact absurd (show j < 0 from hx) (VR _)
     | bM j=>exact absurd (show j < 0 from hx) (VR _)
    obtain ⟨u1,w1,t1⟩:=tg x hx
    obtain ⟨u2,w2,t2⟩:=tg y hy
    have ht:Fh x=Fh y:=by
     rw [e,w2] at w1
     cases w1
     exact t1.symm.trans t2
    have lv:∀ {i:Nat},i < (Bg prog b T0 k0 n st).hosts.length->i < n:=λh=>by rw [<- hln];exact h
    cases x with
    | af=>cases y<;>first | rfl | (simp [Fh] at ht;done)
    | op=>cases y<;>first | rfl | (simp [Fh] at ht;done)
    | aK j=>exact absurd (show j < 0 from hx) (VR _)
    | bM j=>exact absurd (show j < 0 from hx) (VR _)
    | ls =>
     cases y with
     | ls=>rfl
     | dl=>exact absurd e lsdl
     | _=>simp [Fh] at ht
    | dl =>
     cases y with
     | ls=>exact absurd e.symm lsdl
     | dl=>rfl
     | _=>simp [Fh] at ht
    | host i =>
     cases y with
     | host j=>exact congrArg Role.host (N.Tr i j (lv hx) (lv hy) e)
     | _=>simp [Fh] at ht
    | oa =>
     cases y with
     | oa=>rfl
     | tell j=>exact absurd e.symm (ot1 j (lv hy)).1
     | qa j=>exact absurd e.symm (ot1 j (lv hy)).2
     | _=>simp [Fh] at ht
    | tell i =>
     cases y with
     | oa=>exact absurd e (ot1 i (lv hx)).1
     | tell j=>exact congrArg Role.tell (N.S8 i j (lv hx) (lv hy) e)
     | qa j=>exact absurd e (N.QJ i j (lv hx) (lv hy))
     | _=>simp [Fh] at ht
    | qa i =>
     cases y with
     | oa=>exact absurd e (ot1 i (lv hx)).2
     | tell j=>exact absurd e.symm (N.QJ j i (lv hy) (lv hx))
     | qa j=>exact congrArg Role.qa (N.Sx i j (lv hx) (lv hy) e)
     | _=>simp [Fh] at ht
   ·obtain ⟨⟨d,r1⟩,r2,r3,r4,r5,r6,r7,r8⟩:=R
    have ra:r≠af:=aV r1 hp (by intro z;injection z with _ _ z;cases z)
    exact ⟨⟨d,G0 _ _ r1 ra⟩,G0 _ _ r2 (nl r2),r3,λi q o hq ho=>G0 _ _ (r4 i q o hq ho) (nt (r4 i q o hq ho)),G0 _ _ r5 (nl r5),r6,r7,λi t ht=>G0 _ _ (r8 i t ht) (nt (r8 i t ht))⟩
   ·rw [hln];exact c_hl
   ·rw [hln] at hi
    rw [BS hi]
    exact (c_h i hi).1
   ·rw [hln] at hi
    rw [BS hi]
    exact ⟨⟨[],(c_h i hi).2.1,.nil⟩,TB.nil⟩
   ·rw [hln] at hi
    exact ⟨[],(c_h i hi).2.2,.nil⟩
   ·exact ⟨⟨dopn,c_op⟩,G9 _ _ O.hosts ota,okvs,c_oa,o4⟩
   ·have hj:([]:List UW)[j]?=some d:=hj
    simp at hj
   ·intro m
    rcases U4.mp m with e | m
    ·exact R.ne e
    ·rcases U4.mp m with e | m
     ·exact lodl e
     ·exact hlo m
   ·intro m
    rcases U4.mp m with e | m
    ·exact Dls e
    ·rcases U4.mp m with e | m
     ·exact Ddl e
     ·exact Db m
   ·rw [hln]
    exact WL ..
end
section
variable {P:Program} {w:World} {K:UR} {mg:Str->Option Value} {base:Heap} {a:bF}
def bW (A:UQ) (z:Int):Bool:=decide (0<=z)&&decide (z < (A.hosts.length:Int))
def l5 (A:UQ) (z:Int):Bool:=decide (0<=z)&&decide (z<=(A.turns:Int))
def l3 (A:UQ) (z:Int):Bool:=decide (0<=z)&&decide (z<=(A.disputes.length:Int))
def rL (K:UR) (a:bF):Sp:=λvs H Q _=>∃ (bad:List Addr) (L:Lay) (A:UQ) (i t:Int),vs=[.ref (L.ad .af),.int i,.int t]/\aH a bad H L A/\Q (.bl (bW A i&&l5 A t)) H
theorem bP (T:Txt K mg a):a7 P w K mg base eQ 2 a.bU a.bT ["self","number","turn"] (rL K a):=by
 refine T.fL.ok rM ?_ ?_
 ·rintro _ _ _ _ ⟨_,_,_,_,_,rfl,_⟩
  rfl
 ·rintro cdv A outer s H _ Q E hr ⟨bad,L,A,i,t,rfl,F,k⟩
  refine ⟨_,(ao (aB (BZ (aI (pv 0) T.au T.di (fU (K:=K) T) hr.lo T.cV .nil aE (aa (pv 1) aj)) (B8 (aI (pv 0) T.au T.j0 (sN (K:=K) T) hr.lo T.j1 .nil aE (aa (pv 2) aj)))))),?_⟩
  obtain ⟨da,g1⟩:=F.af
  refine vM rfl g1 rfl (xE rfl ⟨bad,L,A,i,rfl,F,xE rfl ?_⟩)
  show if bW A i=true then _ else _
  cases e:bW A i with
  | false=>rw [e] at k;exact bp k
  | true =>
   rw [e,Wg] at k
   exact bf (vM rfl g1 rfl (xE rfl ⟨bad,L,A,t,rfl,F,k⟩))
def Au (K:UR) (a:bF):Sp:=λvs H Q _=>∃ (bad:List Addr) (L:Lay) (A:UQ) (z:Int),vs=[.ref (L.ad .af),.int z]/\aH a bad H L A/\Q (.bl (!decide (z=0)&&l3 A z)) H
theorem rX (T:Txt K mg a):a7 P w K mg base eQ 2 a.gN a.gJ ["self","number"] (Au K a):=by
 refine T.oG.ok Al ?_ ?_
 ·rintro _ _ _ _ ⟨_,_,_,_,rfl,_⟩
  rfl
 ·rintro cdv A outer s H _ Q E hr ⟨bad,L,A,z,rfl,F,k⟩
  refine ⟨_,(ao (aB (BZ (nP Fy (pv 1) aw (bo _)) (B8 (aI (pv 0) T.au T.gx (o8 (K:=K) T) hr.lo T.gQ .nil aE (aa (pv 1) aj)))))),?_⟩
  obtain ⟨da,g1⟩:=F.af
  refine xE rfl ⟨rfl,xE rfl ?_⟩
  refine Eh (λe=>?_) λe=>?_
  ·rw [decide_eq_false e] at k
   exact vM rfl g1 rfl (xE rfl ⟨bad,L,A,z,rfl,F,k⟩)
  ·rw [decide_eq_true e] at k
   exact k
def BW (A:UQ) (n:Nat):List Int:=(List.range n).map λi=>((lY A i).length:Int)
def vA (K:UR) (a:bF):Sp:=λvs H Q _=>∃ (bad:List Addr) (L:Lay) (A:UQ),vs=[.ref (L.ad .af)]/\aH a bad H L A/\A.hosts.length<=1000 /\
 ∀ (H':Hp),ax H H'->Q (.int (BW A A.hosts.length).sum) H'
theorem vB (T:Txt K mg a):a7 P w K mg base eQ 1 a.cJ a.cI ["self"] (vA K a):=by
 refine T.iO.ok hJ ?_ ?_
 ·rintro _ _ _ _ ⟨_,_,_,rfl,_⟩
  rfl
 ·rintro cdv A outer s H _ Q E hr ⟨bad,L,A,rfl,F,hm,k⟩
  refine ⟨_,(ao (aB (aT (L7 (K:=K) rfl) (by rfl) T.Qy C3 (aa (xm rfl hJ.nd (kR (K:=K) (ai (K:=K) (pv 0) rfl)) (eU (own:=[("host",1)]) (by show xC ["self","host"] (aq eI) _ _=true;decide +kernel)) (λ_ _ _ _ _=>ff (i:=1) hJ.nd rfl (Or.inl rfl)) (λ_ _ _ _ _=>oP) (λ_ _ _ _ _=>(aT vY (by rfl) T.dM Vd (aa (ai (K:=K) (pv 1) rfl) aj)))) aj)))),?_⟩
  have hz:=sizeLine_eq
  obtain ⟨da,g1⟩:=F.af
  refine vF rfl g1 T.au T.bw rfl ⟨L.hl,rfl,⟨_,bc.of F.hl⟩,λD hD=>tZ (K:=K) (xs:=(List.range A.hosts.length).map λj=>V.ref (L.ad (.host j))) (λi H2=>H2 D=some (.lst (((List.range A.hosts.length).take i).map λi=>V.int ((lY A i).length:Int)))/\ax H H2) ⟨ae,ax.laid hD⟩ (λi H2 _ q=>bc.of (q.2 _ _ F.hl)) ?_ ?_⟩
  ·rintro i x H2 hx ⟨q1,q2⟩
   obtain ⟨hi,rfl⟩:=nI hx
   have F2:=F.same q2
   obtain ⟨dh,g2⟩:=F2.host i hi
   obtain ⟨kvs,g3,hD3⟩:=F2.qa i hi
   refine ⟨rfl,EZ (vF rfl g2 T.bK T.lP rfl ⟨L.ad (.qa i),kvs,rfl,g3,_,q1,?_,?_,cO q2 hD⟩)⟩
   ·rw [UT,Vr,VA];lia
   ·rw [ae,take_snoc (sL hi),Vk,hD3.len]
    rfl
  ·rintro H2 ⟨q1,q2⟩
   rw [UT,VV] at q1
   refine ⟨D,BW A A.hosts.length,rfl,bc.of (by rw [q1];unfold BW;rw [V0];rfl),?_⟩
   exact k H2 q2
end
theorem Mo (A:UQ) (n:Nat) (h:∀ x∈A.heard,x.host < n):(BW A n).sum=(A.heard.length:Int):=by
 unfold BW lY
 have key:∀ l:List Vbapaj.Heard,(∀ x∈l,x.host < n)->((List.range n).map λi=>((((l.filter λh=>h.host == i).reverse).map λh=>(h.turn,h.says)).length:Int)).sum=(l.length:Int):=by
  intro l
  induction l with
  | nil =>
   intro _
   simp only [Wr,List.reverse_nil,Wy,List.length_nil]
   have z:∀ m:Nat,((List.range m).map λ_=>((0:Nat):Int)).sum=0:=λm=>by
    induction m with
    | zero=>rfl
    | succ m ih=>rw [Xa,Vk,List.sum_append,ih];rfl
   exact z n
  | cons x r ih =>
   intro hl
   have ih:=ih λy hy=>hl y (Vl _ hy)
   have hx:=hl x (Vi ..)
   rw [Vj]
   have st:∀ m:Nat,((List.range m).map λi=>(((((x::r).filter λh=>h.host == i).reverse).map λh=>(h.turn,h.says)).length:Int)).sum=((List.range m).map λi=>((((r.filter λh=>h.host == i).reverse).map λh=>(h.turn,h.says)).length:Int)).sum+(if x.host < m then 1 else 0):=λm=>by
    induction m with
    | zero=>rfl
    | succ m im =>
     rw [Xa,Vk,List.sum_append,im,Vk,List.sum_append]
     by_cases e:x.host=m
     ·have e1:(x.host == m)=true:=beq_iff_eq.mpr e
      simp only [Vc,Wy,Wo,List.sum_nil,Ve,e1,if_true,UT,List.length_reverse,Vj]
      rw [if_neg (by lia),if_pos (by lia)]
      push_cast
      lia
     ·have e1:(x.host == m)=false:=beq_eq_false_iff_ne.mpr e
      simp only [Vc,Wy,Wo,List.sum_nil,Ve,e1,Bool.false_eq_true,if_false,UT,List.length_reverse]
      by_cases c:x.host < m
      ·rw [if_pos c,if_pos (by lia)];lia
      ·rw [if_neg c,if_neg (by lia)];lia
   rw [st n,ih,if_pos hx]
   push_cast
   rfl
 exact key A.heard h
theorem Dj {A:UQ} {i t x h:Nat} {s:UU}:UY (cA A i t s) x h=if i=x/\t=h then some s else UY A x h:=by
 unfold UY cA
 rw [Vy]
 by_cases c:i=x/\t=h
 ·obtain ⟨rfl,rfl⟩:=c
  simp
 ·rw [if_neg c]
  have:(i == x&&t == h)=false:=by
   by_cases c1:i=x
   ·have c2:¬ t=h:=λq=>c ⟨c1,q⟩
    simp [c2]
   ·simp [c1]
  show Option.map _ (match (i == x&&t == h) with | true=>_ | false=>_)=_
  rw [this]
theorem Ow {A:UQ} {i t:Nat} {s:UU} (ho:Once A.heard) (hn:UY A i t=none):Once (cA A i t s).heard:=by
 refine ⟨λk hk e=>?_,ho⟩
 unfold UY at hn
 rw [Option.map_eq_none_iff,WW] at hn
 have:=hn k hk
 rw [show k.host=i from e.1,show k.turn=t from e.2] at this
 simp at this
theorem Ey {A:UQ} {n i t:Nat} {s:UU} (g:Good A n) (hn:UY A i t=none) (hs:ir A.program n s):Good (cA A i t s) n:=by
 refine ⟨g.xy,⟨g.base.prog,g.base.n6,g.base.vQ,Ow g.base.once hn⟩,λx hx=>?_,λj hj ho=>?_⟩
 ·rcases U4.mp hx with rfl | hx
  ·exact hs
  ·exact g.cn x hx
 ·obtain ⟨⟨r,u,O⟩,h⟩:=g.J4 j hj ho
  have k1:UY (cA A i t s) (aL A j).x (aL A j).hi=some r:=by
   rw [Dj,if_neg,O.hx]
   rintro ⟨rfl,rfl⟩
   rw [O.hx] at hn
   cases hn
  have k2:UY (cA A i t s) (aL A j).y (aL A j).hi=some u:=by
   rw [Dj,if_neg,O.hy]
   rintro ⟨rfl,rfl⟩
   rw [O.hy] at hn
   cases hn
  exact ⟨⟨r,u,O.xl,O.yl,O.xy,O.xo,O.yo,k1,k2,O.ne,O.lt,O.le,O.mid⟩,h⟩
theorem OZ {B:UQ} {j:Nat} (hj:j < B.disputes.length):aL (Vp B) j=cU B (aL B j):=by
 rw [kM]
 refine yb (A:={ B with disputes:=B.disputes.map (cU B) }) ?_
 show (B.disputes.map (cU B))[j]?=_
 rw [Vw,ba hj]
 rfl
theorem EK {A B:UQ} (q:xa A A.disputes.length) (l:oB A B):xa (Vp B) (Vp B).disputes.length:=λj hj ho=>by
 rw [(Ej B).1] at hj
 rw [OZ hj] at ho ⊢
 obtain ⟨e,o,_,_⟩:=zY ho
 rw [e]
 have hj2:j < A.disputes.length:=by rw [<- l.aK];exact hj
 have eb:aL B j=aL A j:=by
  refine yb ?_
  rw [l.aK]
  exact ba hj2
 rw [eb] at o ⊢
 exact z8 (A:=A) (B:=Vp B) (by show B.heard=_;exact l.heard) (q j hj2 o)
theorem Mg {A:UQ} {j:Nat} {e:UW} (q:xa A A.disputes.length) (hj:j < A.disputes.length) (hc:U2 e=false):xa (bA A j e) (bA A j e).disputes.length:=λi hi ho=>by
 have hi:i < A.disputes.length:=by
  have hi:i < (A.disputes.set j e).length:=hi
  rw [Vs] at hi
  exact hi
 rw [wx hj] at ho ⊢
 by_cases c:i=j
 ·rw [if_pos c,hc] at ho;cases ho
 ·rw [if_neg c] at ho ⊢
  exact z8 (A:=A) (B:=bA A j e) rfl (q i hi ho)
def mG (A:UQ) (n:Nat):Prop:=∀ d∈A.disputes,ir A.program n d.agreed
theorem mG.left {A:UQ} {n:Nat} (h:mG A n):mG (Vp A) n:=λd hd=>by
 rw [kM] at hd
 obtain ⟨e,he,rfl⟩:=Vb.mp hd
 have:(cU A e).agreed=e.agreed:=by
  unfold cU
  split
  ·split
   ·rfl
   ·split<;>rfl
  ·rfl
 rw [this]
 exact h e he
theorem mG.QY {A B:UQ} {n:Nat} (h:mG A n) (l:oB A B):mG B n:=λd hd=>by
 rw [l.aK] at hd
 rw [l.prog]
 exact h d hd
theorem mG.set {A:UQ} {n j:Nat} {e:UW} (h:mG A n) (he:ir A.program n e.agreed):mG (bA A j e) n:=λd hd=>by
 rcases List.mem_or_eq_of_mem_set hd with q | q
 ·exact h d q
 ·rw [q];exact he
theorem Df {A:UQ} {n:Nat} (hs:Cp A n):∀ (f:Nat) (d:UW),ir A.program n d.agreed->ir A.program n (U3 A f d).agreed
 | 0,d,h=>h
 | f+1,d,h=>by
  unfold U3
  split
  ·exact h
  ·split
   ·exact h
   ·split
    ·rename_i r s hr _
     have key:∀ e:UW,ir A.program n e.agreed->ir A.program n (U3 A f (if e.hi<=e.lo+1 then e else { e with asked:=(e.lo+e.hi) / 2,saidX:=0,saidY:=0,questions:=e.questions+1 })).agreed:=λe he=>by
      refine Df hs f _ ?_
      split
      ·exact he
      ·exact he
     refine key _ ?_
     split
     ·obtain ⟨x,hx,e⟩:=qk hr
      show ir A.program n r
      rw [<- e]
      exact hs x hx
     ·exact h
    ·exact h
theorem mG.look {A:UQ} {n j:Nat} (h:mG A n) (hs:Cp A n) (hj:j < A.disputes.length):mG (fK A j) n:=by
 have hw:=Df hs Va (aL A j) (h _ (Vx (ba hj)))
 have h1:mG (bA A j (U3 A Va (aL A j))) n:=h.set hw
 unfold fK
 split
 ·exact h
 ·split
  ·exact h1
  ·unfold VL
   exact (h1.QY (oB.fold _ (oB.refl _))).left
theorem mG.a9 {A:UQ} {n:Nat} (h:mG A n) (g:Good A n):∀ k,k<=A.disputes.length->mG (a9 A k) n
 | 0,_=>h
 | k+1,hk=>by
  rw [fO]
  exact (mG.a9 h g k (by exact VN ‹_›)).look (pK g k (by exact VN ‹_›)).cn (by rw [jL];assumption)
structure we (A:UQ) (N:Nat):Prop where
 good:Good A A.begin_.nums.length
 num:Num A
 quiet:xa A A.disputes.length
 t1:1<=A.turns
 t2:A.turns<=2000
 h1:2<=A.hosts.length
 h2:A.hosts.length<=6
 Ge:A.saidTo.length=A.hosts.length
 hb:∀ x∈A.heard,x.host < A.hosts.length
 bent:∀ i,i < A.hosts.length->(US A i).bent.length<=N/\∀ b∈(US A i).bent,∀ s,b.says=some s->ir A.program A.begin_.nums.length s
 hl:A.heard.length<=N
 dl:A.disputes.length<=N
 F8:mG A A.begin_.nums.length
structure ph (A B:UQ):Prop where
 prog:B.program=A.program
 vQ:B.begin_=A.begin_
 turns:B.turns=A.turns
 may:B.mayLose=A.mayLose
 hosts:B.hosts.length=A.hosts.length
 cn:B.saidTo=A.saidTo
 IZ:B.disputes.length=A.disputes.length
 bent:∀ i,i < A.hosts.length->(US B i).bent=(US A i).bent
theorem ph.refl (A:UQ):ph A A:=⟨rfl,rfl,rfl,rfl,rfl,rfl,rfl,λ_ _=>rfl⟩
theorem ph.trans {A B C:UQ} (k:ph A B) (l:ph B C):ph A C:=⟨l.prog.trans k.prog,l.vQ.trans k.vQ,l.turns.trans k.turns,l.may.trans k.may,l.hosts.trans k.hosts,l.cn.trans k.cn,l.IZ.trans k.IZ,λi hi=>(l.bent i (by rw [k.hosts];exact hi)).trans (k.bent i hi)⟩
theorem kN {A:UQ} {i j:Nat} {h:Vbapaj.Host} (hb:h.bent=(US A i).bent):(US (VJ A i h) j).bent=(US A j).bent:=by
 by_cases hi:i < A.hosts.length
 ·rw [kK hi]
  split
  ·rename_i e;rw [e,hb]
  ·rfl
 ·have:VJ A i h=A:=by
   unfold VJ
   rw [List.set_eq_of_length_le (by exact We.mp ‹_›)]
  rw [this]
theorem ph.out (A:UQ) (i:Nat) (to:Option Nat):ph A (Vu A i to):=by
 have f:=kd A i to
 refine ⟨by rw [f],by rw [f],by rw [f],by rw [f],tK A i to,by rw [f],by rw [f],λj _=>?_⟩
 unfold Vu
 simp only []
 split
 ·rfl
 ·cases to with
  | none =>
   show (US (VJ A i { US A i with out:=true,stake:=0 }) j).bent=_
   exact kN rfl
  | some o =>
   show (US (VJ (VJ A i { US A i with out:=true,stake:=0 }) o { US (VJ A i { US A i with out:=true,stake:=0 }) o with stake:=(US (VJ A i { US A i with out:=true,stake:=0 }) o).stake+(US A i).stake / 2 }) j).bent=_
   rw [kN (by rfl),kN (by rfl)]
theorem ph.fold {g:Nat->Option Nat}:∀ (l:List Nat) (A:UQ),ph A (l.foldl (λa h=>Vu a h (g h)) A)
 | [],A=>ph.refl A
 | x::r,A=>(ph.out A x (g x)).trans (ph.fold r _)
theorem ph.left (A:UQ):ph A (Vp A):=⟨rfl,rfl,rfl,rfl,rfl,rfl,(Ej A).1,λ_ _=>rfl⟩
theorem ph.set (A:UQ) (j:Nat) (e:UW):ph A (bA A j e):=⟨rfl,rfl,rfl,rfl,rfl,rfl,Vs ..,λ_ _=>rfl⟩
theorem ph.judged (A:UQ) (d:UW):ph A (VL A d):=(ph.fold _ A).trans (ph.left _)
theorem ph.look (A:UQ) (j:Nat):ph A (fK A j):=by
 unfold fK
 split
 ·exact ph.refl A
 ·split
  ·exact ph.set ..
  ·exact (ph.set ..).trans (ph.judged ..)
theorem ph.a9 (A:UQ):∀ k,ph A (a9 A k)
 | 0=>ph.refl A
 | k+1=>by rw [fO];exact (ph.a9 A k).trans (ph.look _ k)
theorem we.Pn {A B:UQ} {N:Nat} (o:we A N) (k:ph A B) (g:Good B A.begin_.nums.length) (n:Num B) (q:xa B B.disputes.length) (h:B.heard=A.heard) (ag:mG B A.begin_.nums.length):we B N :=
 ⟨by rw [k.vQ];exact g,n,q,by rw [k.turns];exact o.t1,by rw [k.turns];exact o.t2,by rw [k.hosts];exact o.h1,by rw [k.hosts];exact o.h2,by rw [k.cn,k.hosts];exact o.Ge,λx hx=>by rw [h] at hx;rw [k.hosts];exact o.hb x hx,
  λi hi=>by rw [k.hosts] at hi;rw [k.bent i hi,k.prog,k.vQ];exact o.bent i hi,by rw [h];exact o.hl,by rw [k.IZ];exact o.dl,by rw [k.vQ];exact ag⟩
theorem we.mono {A:UQ} {N M:Nat} (o:we A N) (h:N<=M):we A M :=
 ⟨o.good,o.num,o.quiet,o.t1,o.t2,o.h1,o.h2,o.Ge,o.hb,λi hi=>⟨U8 (o.bent i hi).1 h,(o.bent i hi).2⟩,U8 o.hl h,U8 o.dl h,o.F8⟩
theorem CK (A:UQ):∀ k,(a9 A k).heard=A.heard
 | 0=>rfl
 | k+1=>by rw [fO,(AA _ k).1,CK A k]
theorem GS {A:UQ} {N:Nat} (o:we A N) (ns:List Nat) (to:Option Nat):we (Vp (outs A ns to)) N:=by
 have l:oB A (outs A ns to):=oB.fold (g:=λ_=>to) ns (oB.refl A)
 exact o.Pn ((ph.fold (g:=λ_=>to) ns A).trans (ph.left _)) (Cm o.good.pre l) (o.num.left l) (EK o.quiet l) (by show (outs A ns to).heard=_;exact l.heard) (o.F8.QY l).left
theorem zI {A:UQ} {N j:Nat} {e:UW} (o:we A N) (hj:j < A.disputes.length) (hc:U2 e=false) (en:e.no=j+1) (ex:e.x=(aL A j).x) (ey:e.y=(aL A j).y) (ea:e.agreed=(aL A j).agreed) (ns:List Nat) (to:Option Nat):we (Vp (outs (bA A j e) ns to)) N:=by
 have l:oB (bA A j e) (outs (bA A j e) ns to):=oB.fold (g:=λ_=>to) ns (oB.refl _)
 exact o.Pn (((ph.set A j e).trans (ph.fold (g:=λ_=>to) ns _)).trans (ph.left _)) (Cm (o.good.pre.closed hj hc ex ey) l) ((o.num.set en).left l) (EK (Mg o.quiet hj hc) l) (by show (outs (bA A j e) ns to).heard=_;exact l.heard) ((o.F8.set (by rw [ea];exact o.F8 _ (Vx (ba hj)))).QY l).left
theorem Ng {A:UQ} {N n:Nat} (o:we A N):we (pw A n) N:=by
 unfold pw
 cases e:j7 A n with
 | nil=>exact GS o _ _
 | cons j r =>
  have hj:=(JI (A:=A) (n:=n) (j:=j) (by rw [e];exact Vi ..)).1
  exact zI (e:={ aL A j with verdict:=some (.twice n) }) o hj rfl (o.num.at hj) rfl rfl rfl _ _
theorem KZ {A:UQ} {N m n:Nat} (o:we A N) (hm:m<=A.disputes.length):we (oI A m n) N:=by
 unfold oI
 split
 ·exact GS o _ _
 ·have hj:m - 1 < A.disputes.length:=by lia
  exact zI (e:={ aL A (m - 1) with verdict:=some (.silent n) }) o hj rfl (o.num.at hj) rfl rfl rfl _ _
theorem O7 {A:UQ} {N i t:Nat} {s:UU} (o:we A N) (hi:i < A.hosts.length) (hs:ir A.program A.begin_.nums.length s):we (vH A i t s) (N+1):=by
 unfold vH
 split
 ·exact o.mono (by exact V8 _ _)
 ·cases e:UY A i t with
  | some r =>
   show we (if r=s then A else pw A i) _
   split
   ·exact o.mono (by exact V8 _ _)
   ·exact (Ng o).mono (by exact V8 _ _)
  | none =>
   show we (a9 (cA A i t s) A.disputes.length) _
   have g:=Ey o.good e hs
   have k:=ph.a9 (cA A i t s) A.disputes.length
   have hh:(a9 (cA A i t s) A.disputes.length).heard={ host:=i,turn:=t,says:=s }::A.heard:=CK _ _
   have o0:=o
   refine ⟨?_,(show Num (cA A i t s) from o.num).a9 _ (U1 _),?_,?_,?_,?_,?_,?_,λx hx=>?_,λj hj=>?_,?_,?_,?_⟩
   ·rw [k.vQ];exact pK g _ (U1 _)
   ·rw [jL];exact wJ g _ (U1 _)
   ·rw [k.turns];exact o.t1
   ·rw [k.turns];exact o.t2
   ·rw [k.hosts];exact o.h1
   ·rw [k.hosts];exact o.h2
   ·rw [k.cn,k.hosts];exact o.Ge
   ·rw [hh] at hx
    rw [k.hosts]
    rcases U4.mp hx with rfl | hx
    ·exact hi
    ·exact o.hb x hx
   ·rw [k.hosts] at hj
    rw [k.bent j hj,k.prog,k.vQ]
    exact ⟨U8 (o.bent j hj).1 (by exact V8 _ _),(o.bent j hj).2⟩
   ·rw [hh]
    show A.heard.length+1<=N+1
    have:=o.hl
    lia
   ·rw [jL]
    show A.disputes.length<=N+1
    have:=o.dl
    lia
   ·rw [k.vQ]
    exact (show mG (cA A i t s) A.begin_.nums.length from o.F8).a9 g _ (U1 _)
theorem O0 {A:UQ} {N x y:Nat} {r s:UU} (o:we A N) (hx:x < A.hosts.length) (hy:y < A.hosts.length) (xy:x≠y) (xo:(US A x).out=false) (yo:(US A y).out=false) (hr:UY A x A.turns=some r) (hs:UY A y A.turns=some s) (ne:r≠s) :
  we (fK (iq A x y) A.disputes.length) (N+1):=by
 have g:=o.good.pair hx hy xy xo yo hr hs ne o.t1 o.t2
 have e1:a9 (iq A x y) (A.disputes.length+1)=fK (iq A x y) A.disputes.length:=by
  rw [<- Iw o.num o.quiet.quiet x y,vg (o.num.pair x y),vX]
 have pl:=vX A x y
 have k:=ph.look (iq A x y) A.disputes.length
 have ll:=CD (iq A x y) A.disputes.length
 have hh:(fK (iq A x y) A.disputes.length).heard=A.heard:=(AA _ _).1
 refine ⟨?_,?_,?_,?_,?_,?_,?_,?_,λx hx=>?_,λj hj=>?_,?_,?_,?_⟩
 ·rw [k.vQ,<- e1];exact pK g _ (by lia)
 ·rw [<- e1];exact (o.num.pair x y).a9 _ (by lia)
 ·rw [ll,pl,<- e1];exact wJ g _ (by lia)
 ·rw [k.turns];exact o.t1
 ·rw [k.turns];exact o.t2
 ·rw [k.hosts];exact o.h1
 ·rw [k.hosts];exact o.h2
 ·rw [k.cn,k.hosts];exact o.Ge
 ·rw [hh] at hx;rw [k.hosts];exact o.hb x hx
 ·rw [k.hosts] at hj
  rw [k.bent j hj,k.prog,k.vQ]
  exact ⟨U8 (o.bent j hj).1 (by exact V8 _ _),(o.bent j hj).2⟩
 ·rw [hh];have:=o.hl;lia
 ·rw [ll,pl];have:=o.dl;lia
 ·rw [k.vQ]
  refine mG.look (A:=iq A x y) (λd hd=>?_) g.cn (by lia)
  rcases Wi.mp hd with q | q
  ·exact o.F8 d q
  ·rw [UX.mp q];exact o.good.base.vQ
theorem mV (z:Int):VB z 0 999=IG z:=by
 unfold VB IG
 congr 1
 by_cases h:z < 1000
 ·rw [decide_eq_true h];exact decide_eq_true (show z<=((999:Nat):Int) by lia)
 ·rw [decide_eq_false h];exact decide_eq_false (show ¬ z<=((999:Nat):Int) by lia)
theorem Cz (l:List Int):Vbapaj.isNums l=l.all IG:=by
 unfold Vbapaj.isNums
 congr 1
 funext z
 exact mV z
theorem p3 {z:Int}:IG z=true ↔ 0<=z/\z < 1000:=by
 unfold IG
 rw [U6,decide_eq_true_eq,decide_eq_true_eq]
theorem LU {z:Int}:VB z 0 7=true ↔ 0<=z/\z<=7:=by
 unfold VB
 rw [U6,decide_eq_true_eq,decide_eq_true_eq]
 exact Iff.rfl
theorem Aw (o:U9) (p:List U9):tY (o::p)=(o.op:Int)::(o.x:Int)::(o.y:Int)::(o.z:Int)::tY p:=rfl
theorem Io:∀ (f:Nat) (ns:List Int) (p:List U9),VS f ns=some p->ns=tY p/\(∀ o∈p,BN o)/\p.length<=f
 | 0,ns,p,h=>by
  unfold VS at h
  split at h
  ·rename_i e
   cases h
   exact ⟨List.isEmpty_iff.mp e,λo ho=>(by cases ho),U1 _⟩
  ·cases h
 | f+1,[],p,h=>by
  unfold VS at h
  cases h
  exact ⟨rfl,λo ho=>(by cases ho),Vt _⟩
 | f+1,[_],p,h=>by unfold VS at h;cases h
 | f+1,[_,_],p,h=>by unfold VS at h;cases h
 | f+1,[_,_,_],p,h=>by unfold VS at h;cases h
 | f+1,o::x::y::z::r,p,h=>by
  unfold VS at h
  simp only [] at h
  split at h
  ·rename_i c
   rw [U6,U6,U6,mV,mV,mV,LU,p3,p3,p3] at c
   cases q:VS f r with
   | none=>rw [q] at h;cases h
   | some t =>
    rw [q] at h
    cases h
    obtain ⟨e1,e2,e3⟩:=Io f r t q
    refine ⟨?_,λu hu=>?_,Xb e3⟩
    ·rw [Aw,e1]
     show o::x::y::z::_=((o.toNat:Nat):Int)::((x.toNat:Nat):Int)::((y.toNat:Nat):Int)::((z.toNat:Nat):Int)::_
     rw [Wl c.1.1,Wl c.2.1.1,Wl c.2.2.1.1,Wl c.2.2.2.1]
    ·rcases U4.mp hu with rfl | hu
     ·exact ⟨by show o.toNat<=7;lia,by show x.toNat < 1000;lia,by show y.toNat < 1000;lia,by show z.toNat < 1000;lia⟩
     ·exact e2 u hu
  ·cases h
theorem Lx:∀ (f:Nat) (p:List U9),(∀ o∈p,BN o)->p.length<=f->VS f (tY p)=some p
 | 0,[],_,_=>rfl
 | 0,_::_,_,h=>absurd h (Nat.not_succ_le_zero _)
 | f+1,[],_,_=>rfl
 | f+1,o::r,ho,h=>by
  obtain ⟨h1,h2,h3,h4⟩:=ho o (Vi ..)
  rw [Aw,VS]
  rw [if_pos,Lx f r (λu hu=>ho u (Vl _ hu)) (by have:r.length+1<=f+1:=h;lia)]
  ·rfl
  ·rw [U6,U6,U6,mV,mV,mV,LU,p3,p3,p3]
   lia
theorem N6:∀ (m:Nat) (ns:List Int),ns.length=4 * m->ns.all IG=true->(∀ k,k < m->∀ z,ns[4 * k]?=some z->z<=7)->∃ p,ns=tY p/\p.length=m/\∀ o∈p,BN o
 | 0,ns,h,_,_=>⟨[],List.eq_nil_of_length_eq_zero (by assumption),rfl,λo ho=>(by cases ho)⟩
 | m+1,[],h,_,_=>by simp at h
 | m+1,[_],h,_,_=>by simp at h;lia
 | m+1,[_,_],h,_,_=>by simp at h;lia
 | m+1,[_,_,_],h,_,_=>by simp at h;lia
 | m+1,o::x::y::z::r,h,ha,hk=>by
  simp only [W5,U6,p3] at ha
  obtain ⟨a1,a2,a3,a4,a5⟩:=ha
  obtain ⟨p,e1,e2,e3⟩:=N6 m r (by simp at h;lia) a5 (λk hk' w hw=>hk (k+1) (by exact Nat.succ_lt_succ ‹_›) w (by rw [show 4 * (k+1)=4 * k+4 by lia];exact hw))
  have o7:=hk 0 (by lia) o rfl
  refine ⟨⟨o.toNat,x.toNat,y.toNat,z.toNat⟩::p,?_,by rw [Vj,e2],λu hu=>?_⟩
  ·rw [Aw,e1]
   show o::x::y::z::_=((o.toNat:Nat):Int)::((x.toNat:Nat):Int)::((y.toNat:Nat):Int)::((z.toNat:Nat):Int)::_
   rw [Wl a1.1,Wl a2.1,Wl a3.1,Wl a4.1]
  ·rcases U4.mp hu with rfl | hu
   ·exact ⟨by show o.toNat<=7;lia,by show x.toNat < 1000;lia,by show y.toNat < 1000;lia,by show z.toNat < 1000;lia⟩
   ·exact e3 u hu
theorem RD (m:Nat):sliceRange 0 ((4 * m:Nat):Int) 4=(List.range m).map λk=>4 * k:=by
 unfold sliceRange
 simp only [show ((4:Int) > 0)=True from eq_true (by decide),if_true]
 have e:(if (0:Int) < ((4 * m:Nat):Int) then (((4 * m:Nat):Int) - 0+4 - 1) / 4 else 0).toNat=m:=by
  split
  ·lia
  ·lia
 rw [e]
 refine Wc λk _=>?_
 show (0+4 * (k:Int)).toNat=4 * k
 lia
theorem Jt {ns:List Int} {m:Nat} (h:ns.length=4 * m):((stepI 4 ns).all λz=>decide (z<=7))=true ↔ ∀ k,k < m->∀ z,ns[4 * k]?=some z->z<=7:=by
 unfold stepI
 rw [h,RD,W6]
 constructor
 ·intro f k hk z hz
  have:=f z (List.mem_filterMap.mpr ⟨4 * k,Vb.mpr ⟨k,Vq.mpr hk,rfl⟩,hz⟩)
  simpa using this
 ·intro f z hz
  obtain ⟨i,hi,e⟩:=List.mem_filterMap.mp hz
  obtain ⟨k,hk,rfl⟩:=Vb.mp hi
  simpa using f k (Vq.mp hk) z e
theorem CL {ns:List Int} (h:nH ns=true):∃ p,VS 20 ns=some p/\ns=tY p/\yM p:=by
 unfold nH at h
 simp only [U6,decide_eq_true_eq] at h
 obtain ⟨⟨h1,h2,h3⟩,h4,h5⟩:=h
 have hm:ns.length=4 * (ns.length / 4):=by lia
 obtain ⟨p,e1,e2,e3⟩:=N6 (ns.length / 4) ns hm h4 ((Jt hm).mp (by simpa using h5))
 refine ⟨p,?_,e1,by lia,by lia,e3⟩
 rw [e1]
 exact Lx 20 p e3 (by lia)
theorem Hv {ns:List Int} (h:nH ns=false):VS 20 ns=none∨VS 20 ns=some []:=by
 cases q:VS 20 ns with
 | none=>exact .inl rfl
 | some p =>
  cases p with
  | nil=>exact .inr rfl
  | cons o r =>
   exfalso
   obtain ⟨e1,e2,e3⟩:=Io 20 ns _ q
   have hl:ns.length=4 * (o::r).length:=by rw [e1,Co]
   have hl2:(o::r).length=r.length+1:=rfl
   have ha:ns.all IG=true:=by
    rw [W6,e1]
    intro z hz
    obtain ⟨u,hu,hz⟩:=List.mem_flatMap.mp hz
    obtain ⟨u1,u2,u3,u4⟩:=e2 u hu
    have hz:z=(u.op:Int)∨z=(u.x:Int)∨z=(u.y:Int)∨z=(u.z:Int):=by simpa [vZ] using hz
    rw [p3]
    lia
   have h7:((stepI 4 ns).all λz=>decide (z<=7))=true:=(Jt hl).mpr λk hk z hz=>by
    obtain ⟨u,hu⟩:∃ u,(o::r)[k]?=some u:=⟨_,VI hk⟩
    have:=Fc hu
    rw [<- e1] at this
    have e4:((ns.drop (4 * k)).take 4)[0]?=some z:=by rw [Xg (by lia),List.getElem?_drop];exact hz
    rw [this] at e4
    have e4:(u.op:Int)=z:=Option.some.inj e4
    have:=(e2 u (Vx hu)).1
    lia
   unfold nH at h
   rw [ha,h7,decide_eq_true (show ns.length % 4=0 by lia),decide_eq_true (show 1<=ns.length / 4 by lia),decide_eq_true (show ns.length / 4<=20 by lia)] at h
   cases h
theorem Fl {l:List Int} (h:l.all IG=true):(l.map V.int)=l9 (l.map V2)/\∀ v∈l.map V2,v < 1000:=by
 rw [W6] at h
 refine ⟨?_,λv hv=>?_⟩
 ·unfold l9
  rw [V0]
  refine Wc λz hz=>?_
  show V.int z=V.int ((z.toNat:Nat):Int)
  rw [Wl (p3.mp (h z hz)).1]
 ·obtain ⟨z,hz,rfl⟩:=Vb.mp hv
  have:=p3.mp (h z hz)
  lia
theorem Es {A:UQ} {ns:List Int} (hp:0 < A.program.length) (hn:0 < A.begin_.nums.length) :
  (F9 A.program.length A.begin_.nums.length ns=true->∃ s,Vbapaj.runOf A ns=some s/\ir A.program A.begin_.nums.length s/\ns.map V.int=FL s)/\(F9 A.program.length A.begin_.nums.length ns=false->Vbapaj.runOf A ns=none):=by
 cases ns with
 | nil=>exact ⟨λh=>by simp [F9] at h,λ_=>rfl⟩
 | cons p r =>
  unfold F9 Vbapaj.runOf
  simp only []
  rw [Cz]
  have ew:VB p 0 (A.program.length - 1)=(decide (0<=p)&&decide (p < (A.program.length:Int))):=by
   unfold VB
   congr 1
   by_cases c:p < (A.program.length:Int)
   ·rw [decide_eq_true c];exact decide_eq_true (show p<=((A.program.length - 1:Nat):Int) by lia)
   ·rw [decide_eq_false c];exact decide_eq_false (show ¬ p<=((A.program.length - 1:Nat):Int) by lia)
  have el:decide ((p::r).length=A.begin_.nums.length+1)=(r.length == A.begin_.nums.length):=by
   by_cases c:r.length=A.begin_.nums.length
   ·rw [c];simp [c]
   ·rw [beq_eq_false_iff_ne.mpr c];exact decide_eq_false (by rw [Vj];lia)
  rw [ew,el]
  constructor
  ·intro h
   simp only [U6,decide_eq_true_eq,beq_iff_eq] at h
   obtain ⟨h1,⟨h2,h3⟩,h4⟩:=h
   rw [if_pos (by simp [h1,h2,h3,h4])]
   obtain ⟨n1,n2⟩:=Fl h4
   refine ⟨_,rfl,⟨by show p.toNat < _;lia,by show (r.map V2).length=_;rw [UT];exact h1,hn,n2⟩,?_⟩
   show V.int p::r.map V.int=V.int ((p.toNat:Nat):Int)::l9 (r.map V2)
   rw [n1,Wl h2]
  ·intro h
   rw [if_neg]
   intro q
   simp only [U6,decide_eq_true_eq,beq_iff_eq] at q
   obtain ⟨⟨h2,h3⟩,h1,h4⟩:=q
   rw [show (r.length == A.begin_.nums.length)=true from beq_iff_eq.mpr h1,decide_eq_true h2,decide_eq_true h3,h4] at h
   cases h
theorem Ph {A:UQ} {N M i:Nat} {l:List VF} (o:we A N) (hNM:N<=M) (hi:i < A.hosts.length) (hl:l.length<=M) (hs:∀ b∈l,∀ s,b.says=some s->ir A.program A.begin_.nums.length s):we (VJ A i { US A i with bent:=l }) M:=by
 have hln:(VJ A i { US A i with bent:=l }).hosts.length=A.hosts.length:=Vs ..
 have ho:∀ j,(US (VJ A i { US A i with bent:=l }) j).out=(US A j).out:=λj=>by
  rw [kK hi]
  split
  ·rename_i e;rw [e]
  ·rfl
 refine ⟨⟨λd hd=>?_,⟨o.good.base.prog,o.good.base.n6,o.good.base.vQ,o.good.base.once⟩,o.good.cn,λj hj hop=>?_⟩,o.num,o.quiet,o.t1,o.t2,by rw [hln];exact o.h1,by rw [hln];exact o.h2,by rw [hln];exact o.Ge,λx hx=>by rw [hln];exact o.hb x hx,λj hj=>?_,U8 o.hl hNM,U8 o.dl hNM,o.F8⟩
 ·rw [hln];exact o.good.xy d hd
 ·obtain ⟨⟨r,s,O⟩,h⟩:=o.good.J4 j hj hop
  exact ⟨⟨r,s,by rw [hln];exact O.xl,by rw [hln];exact O.yl,O.xy,(ho _).trans O.xo,(ho _).trans O.yo,O.hx,O.hy,O.ne,O.lt,O.le,O.mid⟩,h⟩
 ·rw [hln] at hj
  rw [kK hi]
  split
  ·exact ⟨hl,hs⟩
  ·exact ⟨U8 (o.bent j hj).1 hNM,(o.bent j hj).2⟩
theorem Fz {A:UQ} {N j:Nat} {e:UW} (o:we A N) (hj:j < A.disputes.length) (h:e.no=(aL A j).no/\e.x=(aL A j).x/\e.y=(aL A j).y/\e.lo=(aL A j).lo/\e.agreed=(aL A j).agreed/\e.hi=(aL A j).hi/\e.asked=(aL A j).asked/\e.verdict=(aL A j).verdict):we (bA A j e) N:=by
 obtain ⟨e1,e2,e3,e4,e5,e6,e7,e8⟩:=h
 have eo:U2 e=U2 (aL A j):=by unfold U2;rw [e8]
 refine o.Pn (ph.set A j e) ⟨o.good.xy.set (ba hj) e2 e3,⟨o.good.base.prog,o.good.base.n6,o.good.base.vQ,o.good.base.once⟩,o.good.cn,λi hi ho=>?_⟩ (o.num.set (e1.trans (o.num.at hj))) (λi hi ho=>?_) rfl (o.F8.set (by rw [e5];exact o.F8 _ (Vx (ba hj))))
 ·have hi:i < A.disputes.length:=by
   have hi:i < (A.disputes.set j e).length:=hi
   rw [Vs] at hi
   exact hi
  rw [wx hj] at ho ⊢
  by_cases c:i=j
  ·rw [if_pos c] at ho ⊢
   rw [eo] at ho
   obtain ⟨⟨r,s,O⟩,h⟩:=o.good.J4 j hj ho
   refine ⟨⟨r,s,by rw [e2];exact O.xl,by rw [e3];exact O.yl,by rw [e2,e3];exact O.xy,by rw [e2];exact O.xo,by rw [e3];exact O.yo,by rw [e2,e6];exact O.hx,by rw [e3,e6];exact O.hy,O.ne,by rw [e4,e6];exact O.lt,by rw [e6];exact O.le,by rw [e4,e6,e7];exact O.mid⟩,?_⟩
   rw [e5];exact h
  ·rw [if_neg c] at ho ⊢
   obtain ⟨⟨r,s,O⟩,h⟩:=o.good.J4 i hi ho
   exact ⟨⟨r,s,O.xl,O.yl,O.xy,O.xo,O.yo,O.hx,O.hy,O.ne,O.lt,O.le,O.mid⟩,h⟩
 ·have hi:i < A.disputes.length:=by
   have hi:i < (A.disputes.set j e).length:=hi
   rw [Vs] at hi
   exact hi
  rw [wx hj] at ho ⊢
  by_cases c:i=j
  ·rw [if_pos c] at ho ⊢
   rw [eo] at ho
   have:=o.quiet j hj ho
   unfold GP at this ⊢
   rw [e2,e3,e4,e6,e7]
   exact this
  ·rw [if_neg c] at ho ⊢
   exact o.quiet i hi ho
theorem JG {A:UQ} {N:Nat} {l:List Nat} {k:Nat} (o:we A N) (h:l.length=A.saidTo.length):we { A with saidTo:=l,lost:=k } N :=
 ⟨⟨o.good.xy,⟨o.good.base.prog,o.good.base.n6,o.good.base.vQ,o.good.base.once⟩,o.good.cn,λj hj ho=>by
  obtain ⟨⟨r,s,O⟩,h⟩:=o.good.J4 j hj ho
  exact ⟨⟨r,s,O.xl,O.yl,O.xy,O.xo,O.yo,O.hx,O.hy,O.ne,O.lt,O.le,O.mid⟩,h⟩⟩,o.num,o.quiet,o.t1,o.t2,o.h1,o.h2,h.trans o.Ge,o.hb,o.bent,o.hl,o.dl,o.F8⟩
theorem MA {A:UQ} {N:Nat} {f:Option UU} (o:we A N):we { A with found:=f } N :=
 ⟨⟨o.good.xy,⟨o.good.base.prog,o.good.base.n6,o.good.base.vQ,o.good.base.once⟩,o.good.cn,λj hj ho=>by
  obtain ⟨⟨r,s,O⟩,h⟩:=o.good.J4 j hj ho
  exact ⟨⟨r,s,O.xl,O.yl,O.xy,O.xo,O.yo,O.hx,O.hy,O.ne,O.lt,O.le,O.mid⟩,h⟩⟩,o.num,o.quiet,o.t1,o.t2,o.h1,o.h2,o.Ge,o.hb,o.bent,o.hl,o.dl,o.F8⟩
theorem Qj {prog:List U9} {b:UU} {T k n st N m:Nat} (hp:yM prog) (hm:m<=6) (hb:ir prog m b) (t1:1<=T) (t2:T<=2000) (n1:2<=n) (n2:n<=6):we (Bg prog b T k n st) N:=by
 have hl:(Bg prog b T k n st).hosts.length=n:=WL ..
 have e:b.nums.length=m:=hb.len
 refine ⟨⟨λd hd=>(by cases hd),⟨hp,by show b.nums.length<=6;lia,by show ir prog b.nums.length b;rw [e];exact hb,trivial⟩,λx hx=>(by cases hx),λj hj=>absurd hj (VR _)⟩,λj d hd=>?_,λj hj=>absurd hj (VR _),t1,t2,by rw [hl];exact n1,by rw [hl];exact n2,?_,λx hx=>(by cases hx),λi hi=>?_,Vt _,Vt _,λd hd=>(by cases hd)⟩
 ·have hd:([]:List UW)[j]?=some d:=hd
  simp at hd
 ·rw [hl];exact WL ..
 ·rw [hl] at hi
  rw [BS hi]
  exact ⟨Vt _,λb hb=>(by cases hb)⟩
structure o5 (h:UZ) (N:Nat):Prop where
 ka:∀ A,h.affair=some A->we A N
 no:h.affair=none->h.line=[]
 ids:∀ x∈h.line,x.id < h.next
 nd:(h.line.map λx=>x.id).Nodup
 wd:∀ A,h.affair=some A->∀ x∈h.line,x.host < A.hosts.length/\x.turn<=2000/\x.dispute<=A.disputes.length/\∀ s,x.answer=some s->ir A.program A.begin_.nums.length s
 nx:h.next<=N
 ln:h.line.length<=N
theorem o5.empty:o5 Vbapaj.empty 0:=⟨λA h=>(by cases h),λ_=>rfl,λx hx=>(by cases hx),List.nodup_nil,λA h=>(by cases h),U1 _,U1 _⟩
theorem o5.mono {h:UZ} {N M:Nat} (o:o5 h N) (hm:N<=M):o5 h M:=⟨λA e=>(o.ka A e).mono hm,o.no,o.ids,o.nd,o.wd,U8 o.nx hm,U8 o.ln hm⟩
theorem o5.xO {h:UZ} {N M:Nat} {A B:UQ} (o:o5 h N) (hA:h.affair=some A) (hNM:N<=M) (hB:we B M) (p:B.program=A.program) (b:B.begin_=A.begin_) (n:B.hosts.length=A.hosts.length) (d:A.disputes.length<=B.disputes.length):o5 { h with affair:=some B } M:=by
 refine ⟨λC e=>?_,λe=>(by cases e),o.ids,o.nd,λC e x hx=>?_,U8 o.nx hNM,U8 o.ln hNM⟩
 ·cases e;exact hB
 ·cases e
  obtain ⟨h1,h2,h3,h4⟩:=o.wd A hA x hx
  exact ⟨by rw [n];exact h1,h2,U8 h3 d,λs hs=>by rw [p,b];exact h4 s hs⟩
theorem o5.put {h:UZ} {N:Nat} {A:UQ} {x:Vm} (o:o5 h N) (hA:h.affair=some A) (hid:x.id=h.next) (hx:x.host < A.hosts.length/\x.turn<=2000/\x.dispute<=A.disputes.length/\∀ s,x.answer=some s->ir A.program A.begin_.nums.length s) :
  o5 { h with line:=h.line++[x],next:=h.next+1 } (N+1):=by
 refine ⟨λC e=>(o.ka C e).mono (by exact V8 _ _),λe=>(by rw [show h.affair=none from e] at hA;cases hA),λy hy=>?_,?_,λC e y hy=>?_,Xb o.nx,?_⟩
 ·rcases Wi.mp hy with q | q
  ·exact Nat.lt_succ_of_lt (o.ids y q)
  ·rw [UX.mp q,hid];exact Nat.lt_succ_self _
 ·show ((h.line++[x]).map λx=>x.id).Nodup
  rw [Vk]
  refine HD o.nd λm=>?_
  obtain ⟨y,hy,e⟩:=Vb.mp m
  have e:y.id=x.id:=e
  have:=o.ids y hy
  lia
 ·have e:C=A:=by
   have:h.affair=some C:=e
   rw [hA] at this
   exact (Option.some.inj this).symm
  subst e
  rcases Wi.mp hy with q | q
  ·exact o.wd C hA y q
  ·rw [UX.mp q];exact hx
 ·show (h.line++[x]).length<=N+1
  rw [VD]
  exact Xb o.ln
theorem o5.take {h:UZ} {N c g:Nat} {x:Vm} (o:o5 h N):o5 { VE h x with came:=c,gone:=g } N:=by
 refine ⟨o.ka,λe=>?_,λy hy=>o.ids y (V5.mp hy).1,?_,λC e y hy=>o.wd C e y (V5.mp hy).1,o.nx,U8 (VU _ _) o.ln⟩
 ·show h.line.filter _=[]
  rw [o.no e]
  rfl
 ·exact List.Nodup.sublist (List.Sublist.map _ List.filter_sublist) o.nd
theorem uw {h:UZ} {M:Nat} {f:UQ->UZ × VG} (h0:o5 h M) (hf:∀ A,h.affair=some A->o5 (f A).1 M):o5 (Wh h f).1 M:=by
 unfold Wh
 cases e:h.affair with
 | none=>exact h0
 | some A=>exact hf A e
theorem pJ {h:UZ} {M:Nat} {i:Int} {f:UQ->Nat->UZ × VG} (h0:o5 h M) (hf:∀ A,h.affair=some A->i.toNat < A.hosts.length->o5 (f A i.toNat).1 M):o5 (V3 h i f).1 M:=by
 unfold V3
 refine uw h0 λA e=>?_
 split
 ·rename_i c
  rw [U6,decide_eq_true_eq,decide_eq_true_eq] at c
  exact hf A e c.2
 ·exact h0
theorem HW {h:UZ} {N i:Nat} {A:UQ} {l:List VF} (o:o5 h N) (e:h.affair=some A) (hi:i < A.hosts.length) (hl:l.length<=N+1) (hs:∀ b∈l,∀ s,b.says=some s->ir A.program A.begin_.nums.length s):o5 (Vbapaj.bend h A i l).1 (N+1) :=
 o.xO e (by exact V8 _ _) (Ph (o.ka A e) (by exact V8 _ _) hi hl hs) rfl rfl (Vs ..) (U1 _)
theorem Ay {h:UZ} {z:Int} {x:Vm} (e:WD h z=some x):x∈h.line:=by
 unfold WD at e
 split at e
 ·cases e
 ·exact Xl e
theorem Gw {A:UQ} {N i t:Nat} {s:UU} (o:we A N) (hi:i < A.hosts.length) (h:V4 A i t=some s):ir A.program A.begin_.nums.length s:=by
 unfold V4 at h
 split at h
 ·rename_i b hb
  exact (o.bent i hi).2 b (Xl hb) s h
 ·cases h
  exact A6 o.good.base.vQ o.good.base.prog.BR t
theorem IU (A:UQ) (i t:Nat) (s:UU):(vH A i t s).program=A.program/\(vH A i t s).begin_=A.begin_/\(vH A i t s).hosts.length=A.hosts.length/\(vH A i t s).disputes.length=A.disputes.length:=by
 have tw:ph A (pw A i):=by
  unfold pw
  split
  ·exact (ph.fold (g:=λ_=>none) [i] A).trans (ph.left _)
  ·rename_i j _ _
   exact ((ph.set A j { aL A j with verdict:=some (.twice i) }).trans (ph.fold (g:=λ_=>some (if i=(aL A j).x then (aL A j).y else (aL A j).x)) [i] _)).trans (ph.left _)
 unfold vH
 split
 ·exact ⟨rfl,rfl,rfl,rfl⟩
 ·split
  ·split
   ·exact ⟨rfl,rfl,rfl,rfl⟩
   ·exact ⟨tw.prog,tw.vQ,tw.hosts,tw.IZ⟩
  ·have k:=ph.a9 (cA A i t s) A.disputes.length
   exact ⟨k.prog,k.vQ,k.hosts,k.IZ⟩
theorem Hc (A:UQ) (m n:Nat):ph A (oI A m n):=by
 unfold oI
 split
 ·exact (ph.fold (g:=λ_=>none) [n] A).trans (ph.left _)
 ·exact ((ph.set A (m - 1) { aL A (m - 1) with verdict:=some (.silent n) }).trans (ph.fold (g:=λ_=>some (if n=(aL A (m - 1)).x then (aL A (m - 1)).y else (aL A (m - 1)).x)) [n] _)).trans (ph.left _)
theorem GD {A:UQ} {z:Int} {e:UW} (hn:Num A) (z0:¬ z=0) (h:(if z < 0 then none else Wk A z.toNat)=some e):∃ j,j < A.disputes.length/\z=((j+1:Nat):Int)/\e=aL A j:=by
 split at h
 ·cases h
 ·have hz:z.toNat=(z.toNat - 1)+1:=by lia
  rw [hz,lE hn] at h
  have hl:=(Vn.mp h).1
  exact ⟨z.toNat - 1,hl,by lia,(yb h).symm⟩
theorem wK {z:Int} {lo hi:Nat}:VB z lo hi=true ↔ (lo:Int)<=z/\z<=(hi:Int):=by
 unfold VB
 rw [U6,decide_eq_true_eq,decide_eq_true_eq]
theorem Pe {A:UQ} {N:Nat} {l:List Int} {s:UU} (o:we A N) (h:Vbapaj.runOf A l=some s):ir A.program A.begin_.nums.length s:=by
 obtain ⟨h1,h2⟩:=Es (A:=A) (ns:=l) o.good.base.prog.pos o.good.base.vQ.pos
 cases q:F9 A.program.length A.begin_.nums.length l with
 | false=>rw [h2 q] at h;cases h
 | true =>
  obtain ⟨u,e1,e2,_⟩:=h1 q
  rw [e1] at h
  cases h
  exact e2
theorem N0 {A:UQ} {N j:Nat} (o:we A N) (hj:j < A.disputes.length) (ho:U2 (aL A j)=true):(aL A j).asked<=2000:=by
 obtain ⟨⟨r,s,O⟩,_⟩:=o.good.J4 j hj ho
 have h1:=(o.quiet j hj ho).1
 have h2:=O.mid (by omega)
 have:=O.le
 omega
theorem Jg {h:UZ} {N d i t:Nat} {A B:UQ} (o:o5 h N) (e:h.affair=some A) (hB:we B N) (k1:B.program=A.program) (k2:B.begin_=A.begin_) (k3:B.hosts.length=A.hosts.length) (k4:B.disputes.length=A.disputes.length) (hi:i < A.hosts.length) (ht:t<=2000) (hd:d<=A.disputes.length):o5 (WE h B d i t).1 (N+1):=by
 unfold WE
 split
 ·exact o.mono (by omega)
 ·have o2:o5 { h with affair:=some B } N:=o.xO e (U1 _) hB k1 k2 k3 (by rw [k4];exact U1 _)
  exact o2.put (A:=B) rfl rfl ⟨by rw [k3];exact hi,ht,by rw [k4];exact hd,λs hs=>(by cases hs)⟩
theorem Qc {h:UZ} {N:Nat} (o:o5 h N) (t k n st:Int) (p b:List Int):o5 (U0 h (.new t k n st p b)).1 (N+1):=by
 have o1:=o.mono (Vz N)
 unfold U0
 simp only []
 split
 ·exact o1
 ·rename_i c1
  split
  ·exact o1
  ·rename_i c2
   split
   ·exact o1
   ·rename_i pr hp
    split
    ·exact o1
    ·rename_i c3
     rw [Bool.not_eq_false,U6,U6,U6,wK,wK,wK,wK] at c1
     rw [Bool.not_eq_false] at c2 c3
     rw [U6,U6,U6,decide_eq_true_eq,decide_eq_true_eq,Cz] at c3
     obtain ⟨e1,e2,e3⟩:=Io 20 p pr hp
     have e4:1<=pr.length:=by
      cases pr with
      | nil=>simp at c3
      | cons x r=>exact Xb (Vt _)
     have hP:yM pr:=⟨e4,e3,e2⟩
     have hl:h.line=[]:=List.isEmpty_iff.mp c2
     obtain ⟨n1,n2⟩:=Fl c3.2.2.2
     have hb:ir pr (b.map V2).length { at_:=0,nums:=b.map V2 }:=⟨e4,rfl,by rw [UT];exact c3.2.1,n2⟩
     have oA:we (Bg pr { at_:=0,nums:=b.map V2 } t.toNat k.toNat n.toNat st.toNat) (N+1):=Qj hP (by rw [UT];exact c3.2.2.1) hb (by omega) (by omega) (by omega) (by omega)
     refine ⟨λC e=>?_,λe=>(by cases e),?_,?_,?_,Nat.le_succ_of_le o.nx,Nat.le_succ_of_le o.ln⟩
     ·cases e;exact oA
     ·intro x hx;have hx:x∈h.line:=hx;rw [hl] at hx;cases hx
     ·exact o.nd
     ·intro C e x hx;have hx:x∈h.line:=hx;rw [hl] at hx;cases hx
theorem NJ {h:UZ} {N:Nat} (o:o5 h N) (x y:Int):o5 (U0 h (.pair x y)).1 (N+1):=by
 have o1:=o.mono (Vz N)
 unfold U0
 refine pJ o1 λA eA hx=>pJ o1 λA' eA' hy=>?_
 have:A'=A:=by rw [eA] at eA';exact (Option.some.inj eA').symm
 subst this
 simp only []
 split
 ·exact o1
 ·split
  ·exact o1
  ·rename_i c2
   split
   ·exact o1
   ·rename_i c3
    split
    ·rename_i r s hr hs
     split
     ·exact o1
     ·rename_i c4
      rw [Bool.not_eq_false,U6] at c2
      have out:∀ i,Vbapaj.isIn A' i=true->(US A' i).out=false:=λi hi=>by
       unfold Vbapaj.isIn at hi
       rw [U6] at hi
       simpa using hi.2
      have oA:=o.ka A' eA
      have k:=ph.look (iq A' x.toNat y.toNat) A'.disputes.length
      have e:=Iw oA.num oA.quiet.quiet x.toNat y.toNat
      have:=o.xO eA (Vz N) (O0 oA hx hy (λq=>c3 (.inl q)) (out _ c2.1) (out _ c2.2) hr hs c4) k.prog k.vQ k.hosts (by rw [k.IZ,vX];exact Vz _)
      rw [<- e] at this
      exact this
    ·exact o1
theorem Qi {h:UZ} {N:Nat} (o:o5 h N) (d i:Int):o5 (U0 h (.say d i)).1 (N+1):=by
 have o1:=o.mono (Vz N)
 unfold U0
 refine pJ o1 λA eA hi=>?_
 have oA:=o.ka A eA
 split
 ·exact o1
 ·split
  ·exact o1
  ·split
   ·split
    ·exact o1
    ·exact Jg o eA (JG (k:=A.lost) oA (List.length_modify ..)) rfl rfl rfl rfl hi oA.t2 (Vt _)
   ·rename_i d0
    split
    ·exact o1
    ·rename_i e he
     split
     ·exact o1
     ·rename_i ho
      rw [Bool.not_eq_false] at ho
      split
      ·exact o1
      ·split
       ·exact o1
       ·obtain ⟨j,hj,ez,rfl⟩:=GD oA.num d0 he
        have en:=oA.num.at hj
        have hk:∀ f:UW,f.no=(aL A j).no/\f.x=(aL A j).x/\f.y=(aL A j).y/\f.lo=(aL A j).lo/\f.agreed=(aL A j).agreed/\f.hi=(aL A j).hi/\f.asked=(aL A j).asked/\f.verdict=(aL A j).verdict ->
          o5 (WE h (VQ A f) (aL A j).no i.toNat (aL A j).asked).1 (N+1):=λf hf=>by
         rw [fw oA.num (hf.1.trans en)]
         exact Jg o eA (Fz oA hj hf) rfl rfl rfl (Vs ..) hi (N0 oA hj ho) (by rw [en];exact hj)
        refine hk _ ?_
        split
        ·exact ⟨rfl,rfl,rfl,rfl,rfl,rfl,rfl,rfl⟩
        ·exact ⟨rfl,rfl,rfl,rfl,rfl,rfl,rfl,rfl⟩
theorem JD {h:UZ} {N:Nat} (o:o5 h N) (w:Int):o5 (U0 h (.deliver w)).1 (N+1):=by
 have o1:=o.mono (Vz N)
 unfold U0
 refine uw o1 λA eA=>?_
 have oA:=o.ka A eA
 split
 ·exact o1
 ·rename_i x hx
  have hm:=Ay hx
  obtain ⟨h1,h2,h3,h4⟩:=o.wd A eA x hm
  show o5 (VW (VE h x) A x) (N+1)
  unfold VW
  cases ea:x.answer with
  | some s =>
   show o5 { VE h x with affair:=some (Vbapaj.hears A x.host x.turn s),came:=h.came+1 } (N+1)
   have k:=IU A x.host x.turn s
   rw [J7 oA.num]
   exact (o.take (c:=h.came+1) (g:=h.gone) (x:=x)).xO (A:=A) eA (Vz N) (O7 oA h1 (h4 s ea)) k.1 k.2.1 k.2.2.1 (by rw [k.2.2.2];exact U1 _)
  | none =>
   show o5 (match V4 A x.host x.turn with
    | none=>{ VE h x with came:=h.came+1 }
    | some s=>{ VE h x with line:=(VE h x).line++[{ x with id:=h.next,answer:=some s }],next:=h.next+1,came:=h.came+1 }) (N+1)
   cases es:V4 A x.host x.turn with
   | none=>exact (o.take (c:=h.came+1) (g:=h.gone) (x:=x)).mono (Vz N)
   | some s=>exact (o.take (c:=h.came+1) (g:=h.gone) (x:=x)).put (A:=A) (x:={ x with id:=h.next,answer:=some s }) eA rfl ⟨h1,h2,h3,λu hu=>by cases hu;exact Gw oA h1 es⟩
theorem OT {h:UZ} {N:Nat} (o:o5 h N) (w:Int):o5 (U0 h (.lose w)).1 (N+1):=by
 have o1:=o.mono (Vz N)
 unfold U0
 refine uw o1 λA eA=>?_
 have oA:=o.ka A eA
 split
 ·exact o1
 ·rename_i x hx
  have hm:=Ay hx
  obtain ⟨h1,h2,h3,h4⟩:=o.wd A eA x hm
  have ot:=o.take (c:=h.came) (g:=h.gone+1) (x:=x)
  simp only []
  split
  ·split
   ·exact o1
   ·exact ot.xO (A:=A) eA (Vz N) ((JG (l:=A.saidTo) (k:=A.lost+1) oA rfl).mono (Vz N)) rfl rfl rfl (U1 _)
  ·rename_i c0
   split
   ·exact o1
   ·rename_i e he
    split
    ·exact o1
    ·have hd:x.dispute=(x.dispute - 1)+1:=by omega
     rw [hd,lE oA.num] at he
     have hl:=(Vn.mp he).1
     obtain rfl:=yb he
     rw [fw oA.num (show ({ aL A (x.dispute - 1) with lost:=(aL A (x.dispute - 1)).lost+1 }:UW).no=_ from oA.num.at hl)]
     have k:=ph.set A (x.dispute - 1) { aL A (x.dispute - 1) with lost:=(aL A (x.dispute - 1)).lost+1 }
     exact ot.xO (A:=A) eA (Vz N) ((Fz (e:={ aL A (x.dispute - 1) with lost:=(aL A (x.dispute - 1)).lost+1 }) oA hl ⟨rfl,rfl,rfl,rfl,rfl,rfl,rfl,rfl⟩).mono (Vz N)) k.prog k.vQ k.hosts (by rw [k.IZ];exact U1 _)
theorem KQ {h:UZ} {N:Nat} (o:o5 h N) (w:Int):o5 (U0 h (.double w)).1 (N+1):=by
 have o1:=o.mono (Vz N)
 unfold U0
 simp only []
 split
 ·exact o1
 ·rename_i x hx
  split
  ·exact o1
  ·have hm:=Ay hx
   cases eA:h.affair with
   | none=>rw [o.no eA] at hm;cases hm
   | some A=>
    have:=o.put (A:=A) (x:={ x with id:=h.next }) eA rfl (o.wd A eA x hm)
    rw [eA] at this
    exact this
theorem NO {h:UZ} {N:Nat} (o:o5 h N) (d i:Int):o5 (U0 h (.hush d i)).1 (N+1):=by
 have o1:=o.mono (Vz N)
 unfold U0
 refine pJ o1 λA eA hi=>?_
 have oA:=o.ka A eA
 have fin:∀ m,m<=A.disputes.length->o5 (Ws h (oI A m i.toNat)) (N+1):=λm hm=>by
  have k:=Hc A m i.toNat
  exact o.xO eA (Vz N) ((KZ oA hm).mono (Vz N)) k.prog k.vQ k.hosts (by rw [k.IZ];exact U1 _)
 simp only []
 split
 ·exact o1
 ·split
  ·exact o1
  ·split
   ·split
    ·exact o1
    ·split
     ·exact o1
     ·split
      ·exact o1
      ·exact fin 0 (Vt _)
   ·rename_i d0
    split
    ·exact o1
    ·rename_i e he
     split
     ·exact o1
     ·split
      ·exact o1
      ·split
       ·exact o1
       ·generalize (if e.x=i.toNat then e.saidX else e.saidY)=cnt
        split
        ·exact o1
        ·split
         ·exact o1
         ·obtain ⟨j,hj,ez,rfl⟩:=GD oA.num d0 he
          rw [GA oA.num hj]
          exact fin (j+1) hj
theorem MZ {h:UZ} {N:Nat} (o:o5 h N):o5 (U0 h .close).1 (N+1):=by
 have o1:=o.mono (Vz N)
 unfold U0
 refine uw o1 λA eA=>?_
 have oA:=o.ka A eA
 split
 ·exact o1
 ·split
  ·exact o1
  ·split
   ·exact o1
   ·split
    ·exact o1
    ·split
     ·exact o1
     ·exact o.xO eA (Vz N) ((MA oA).mono (Vz N)) rfl rfl rfl (U1 _)
theorem step_same (h:UZ):∀ c:VC,(match c with
  | .line | .word _ | .dispute _ | .agreed _ | .truth _ | .heard _ _ | .says _ _ | .host _ | .affair | .counts | .work _=>True
  | _=>False)->(U0 h c).1=h:=by
 have onA:∀ f:UQ->UZ × VG,(∀ A,(f A).1=h)->(Wh h f).1=h:=λf hf=>by
  unfold Wh
  split
  ·rfl
  ·exact hf _
 have onH:∀ (i:Int) (f:UQ->Nat->UZ × VG),(∀ A i,(f A i).1=h)->(V3 h i f).1=h:=λi f hf=>by
  unfold V3
  refine onA _ λA=>?_
  split
  ·exact hf _ _
  ·rfl
 intro c hc
 cases c<;>first | exact absurd hc id | skip
 ·rfl
 ·unfold U0;simp only [];split<;>rfl
 ·unfold U0;refine onA _ λA=>?_;split<;>rfl
 ·unfold U0;refine onA _ λA=>?_;split<;>rfl
 ·unfold U0;refine onA _ λA=>?_;split<;>rfl
 ·unfold U0;refine onH _ _ λA i=>?_;split;rfl;split<;>rfl
 ·unfold U0;refine onH _ _ λA i=>?_;split;rfl;split<;>rfl
 ·unfold U0;exact onH _ _ λA i=>rfl
 ·unfold U0;exact onA _ λA=>rfl
 ·rfl
 ·unfold U0;refine onA _ λA=>?_;split<;>rfl
theorem NW {h:UZ} {N:Nat} (o:o5 h N) (c:VC):o5 (U0 h c).1 (N+1):=by
 have o1:=o.mono (Vz N)
 cases c with
 | clear=>exact o5.empty.mono (Vt _)
 | new t k n st p b=>exact Qc o t k n st p b
 | lie i t l =>
  unfold U0
  refine pJ o1 λA eA hi=>?_
  have oA:=o.ka A eA
  split
  ·exact o1
  ·split
   ·exact o1
   ·rename_i s hs
    refine HW o eA hi (Xb (oA.bent _ hi).1) λb hb u hu=>?_
    rcases U4.mp hb with rfl | hb
    ·cases hu;exact Pe oA hs
    ·exact (oA.bent _ hi).2 b hb u hu
 | mute i t =>
  unfold U0
  refine pJ o1 λA eA hi=>?_
  have oA:=o.ka A eA
  split
  ·exact o1
  ·refine HW o eA hi (Xb (oA.bent _ hi).1) λb hb u hu=>?_
   rcases U4.mp hb with rfl | hb
   ·cases hu
   ·exact (oA.bent _ hi).2 b hb u hu
 | honest i t =>
  unfold U0
  refine pJ o1 λA eA hi=>?_
  have oA:=o.ka A eA
  split
  ·exact o1
  ·exact HW o eA hi (Nat.le_succ_of_le (U8 (VU _ _) (oA.bent _ hi).1)) λb hb u hu=>(oA.bent _ hi).2 b (V5.mp hb).1 u hu
 | pair x y=>exact NJ o x y
 | say d i=>exact Qi o d i
 | deliver w=>exact JD o w
 | lose w=>exact OT o w
 | double w=>exact KQ o w
 | hush d i=>exact NO o d i
 | close=>exact MZ o
 | _=>rw [step_same h _ trivial];exact o1
def Py (cl:Addr) (pl:Nat):List (Str × V):=[("calls",.ref cl),("place",.int (pl:Int))]
def mB (a:bF) (H:Hp) (rd cl:Addr) (pl:Nat):Prop:=∃ dx,H rd=some (.ins a.gR dx (Py cl pl))
theorem PM (xs:List V) (p n:Nat) (h:p+n<=xs.length):zQ xs (some (p:Int)) (some ((p+n:Nat):Int))=(xs.drop p).take n:=by
 unfold zQ
 rw [HT.DW,HT.DW,WV (show p<=xs.length by lia),WV h,Nat.add_sub_cancel_left]
section
variable {P:Program} {w:World} {K:UR} {mg:Str->Option Value} {base:Heap} {a:bF}
def EA (K:UR) (a:bF):Sp:=λvs H Q _=>∃ (rd dx cl:Addr),vs=[.ref rd,.ref cl]/\H rd=some (.ins a.gR dx [])/\∀ H',Keeps [rd] H H'->mB a H' rd cl 0->Q .dF H'
theorem EF (T:Txt K mg a):a7 P w K mg base eQ 1 a.mv a.mx ["self","calls"] (EA K a):=by
 refine T.uG.ok E5 ?_ ?_
 ·rintro _ _ _ _ ⟨_,_,_,rfl,_⟩
  rfl
 ·rintro cdv A outer s H _ Q E hr ⟨rd,dx,cl,rfl,hp,k⟩
  refine ⟨_,(ah (aQ (K:=K) (pv 0) (pv 1) rfl)
   (ao (aQ (K:=K) (pv 0) aw rfl))),?_⟩
  refine xE rfl (vS rfl hp T.dG T.nU (by show 0 < 1000;decide) ?_)
  refine vS rfl ae T.dG T.fm (by show 1 < 1000;decide) ?_
  rw [b6]
  exact k _ (Keeps.upd (UX.mpr rfl)) ⟨dx,ae⟩
def Bz (K:UR) (a:bF):Sp:=λvs H Q _=>∃ (rd cl:Addr) (pl:Nat) (ns:List Int),vs=[.ref rd]/\mB a H rd cl pl/\bc K H cl (ns.map V.int)/\Q (.bl (decide (ns.length<=pl))) H
theorem Br (T:Txt K mg a):a7 P w K mg base eQ 1 a.i0 a.iS ["self"] (Bz K a):=by
 refine T.pA.ok Bw ?_ ?_
 ·rintro _ _ _ _ ⟨_,_,_,_,rfl,_⟩
  rfl
 ·rintro cdv A outer s H _ Q E hr ⟨rd,cl,pl,ns,rfl,⟨dx,h1⟩,hS,k⟩
  refine ⟨_,(ao (aB (nP LJ (ai (K:=K) (pv 0) rfl) (aT (a6 (K:=K)) (by rfl) T.dM Vd (aa (ai (K:=K) (pv 0) rfl) aj)) (bo _)))),?_⟩
  refine vF rfl h1 T.dG T.fm rfl (vF rfl h1 T.dG T.nU rfl ⟨cl,xE rfl ⟨.inl hS,_,xE rfl ⟨rfl,?_⟩⟩⟩)
  rw [UT]
  have e:decide ((ns.length:Int)<=(pl:Int))=decide (ns.length<=pl):=by by_cases q:ns.length<=pl<;>simp [q]<;>omega
  rw [<- e] at k
  exact k
def xA (K:UR) (a:bF):Sp:=λvs H Q _=>∃ (rd cl:Addr) (pl:Nat) (ns:List Int) (z:Int),vs=[.ref rd]/\mB a H rd cl pl/\bc K H cl (ns.map V.int)/\(∀ o,bc K (upd H rd o) cl (ns.map V.int))/\ns[pl]?=some z/\∀ H',Keeps [rd] H H'->mB a H' rd cl (pl+1)->Q (.int z) H'
theorem o9 (T:Txt K mg a):a7 P w K mg base eQ 1 a.dZ a.d7 ["self"] (xA K a):=by
 refine T.kQ.ok xq ?_ ?_
 ·rintro _ _ _ _ ⟨_,_,_,_,_,rfl,_⟩
  rfl
 ·rintro cdv A outer s H _ Q E hr ⟨rd,cl,pl,ns,z,rfl,⟨dx,h1⟩,hS,hS2,hz,k⟩
  refine ⟨_,(ah (gX (K:=K) (pv 0) aw uN)
   (ao (aB (aJ (az (K:=K)) (ai (K:=K) (pv 0) rfl) (b5 HJ (ai (K:=K) (pv 0) rfl) aw) (λ_ _=>rfl))))),?_⟩
  refine xE rfl ⟨rd,a.gR,dx,_,xE rfl ⟨h1,T.dG,T.fm,rfl,_,xE rfl ⟨rfl,dx,_,h1,by show 2 < 1000;decide,?_⟩⟩⟩
  refine vF rfl ae T.dG T.nU rfl (vF rfl ae T.dG T.fm rfl ⟨_,xE rfl ⟨rfl,iG (hS2 _) (at_of (j:=pl) (v:=.int z) (by lia) (by rw [Vw,hz];rfl)) ?_⟩⟩)
  exact k _ (Keeps.upd (UX.mpr rfl)) ⟨dx,ae⟩
def AF (K:UR) (a:bF):Sp:=λvs H Q _=>∃ (rd cl:Addr) (pl n:Nat) (ns:List Int),vs=[.ref rd,.int (n:Int)]/\mB a H rd cl pl/\bc K H cl (ns.map V.int)/\(∀ o,bc K (upd H rd o) cl (ns.map V.int))/\pl+n<=ns.length /\
 ∀ (H':Hp) (c:Addr),Keeps [rd] H H'->H c=none->mB a H' rd cl (pl+n)->H' c=some (.lst (((ns.drop pl).take n).map V.int))->Q (.ref c) H'
theorem su (T:Txt K mg a):a7 P w K mg base eQ 1 a.gL a.gu ["self","length"] (AF K a):=by
 refine T.oQ.ok As ?_ ?_
 ·rintro _ _ _ _ ⟨_,_,_,_,_,rfl,_⟩
  rfl
 ·rintro cdv A outer s H _ Q E hr ⟨rd,cl,pl,n,ns,rfl,⟨dx,h1⟩,hS,hS2,hl,k⟩
  refine ⟨_,(ah (gX (K:=K) (pv 0) (pv 1) uN)
   (ao (aB (AW (Fw (K:=K)) (ai (K:=K) (pv 0) rfl) (zw (b5 HJ (ai (K:=K) (pv 0) rfl) (pv 1))) (zw (ai (K:=K) (pv 0) rfl)))))),?_⟩
  refine xE rfl ⟨rd,a.gR,dx,_,xE rfl ⟨h1,T.dG,T.fm,rfl,xE rfl ⟨_,xE rfl ⟨rfl,dx,_,h1,by show 2 < 1000;decide,?_⟩⟩⟩⟩
  refine vF rfl ae T.dG T.nU rfl (vF rfl ae T.dG T.fm rfl ?_)
  refine xE rfl ⟨_,xE rfl ⟨rfl,xE rfl (vF rfl ae T.dG T.fm rfl (xE rfl ⟨cl,xE rfl ⟨hS2 _,λc hc=>?_⟩⟩))⟩⟩
  have cr:c≠rd:=λz=>by rw [z,ae] at hc;cases hc
  refine k _ c (λb o e m=>?_) (by rw [ak cr] at hc;exact hc) ⟨dx,by rw [ak cr.symm];exact ae⟩ ?_
  ·have br:b≠rd:=λz=>m (by rw [z];exact UX.mpr rfl)
   have hc0:H c=none:=by rw [ak cr] at hc;exact hc
   rw [ak (aC e hc0),ak br]
   exact e
  ·rw [ae,show ((pl:Int)+(n:Int) - (n:Int))=(pl:Int) by lia,show ((pl:Int)+(n:Int))=((pl+n:Nat):Int) by push_cast;rfl,PM _ _ _ (by rw [UT];exact hl),<- List.map_drop,<- List.map_take]
end
end HR
namespace HR
open Vbapaj in
section
variable (h:House)
theorem Oq (i t:Int) (l:List Int):step h (.lie i t l)=onHost h i λa i=>if within t 0 a.turns=false then no h (-1) else match runOf a l with
  | none=>no h (-1)
  | some s=>bend h a i ({ turn:=t.toNat,says:=some s }::(hostAt a i).bent):=by unfold step;rfl
theorem La (i t:Int):step h (.mute i t)=onHost h i λa i=>if within t 0 a.turns=false then no h (-1) else bend h a i ({ turn:=t.toNat,says:=none }::(hostAt a i).bent):=by unfold step;rfl
theorem GQ (i t:Int):step h (.honest i t)=onHost h i λa i=>if within t 0 a.turns=false then no h (-1) else bend h a i ((hostAt a i).bent.filter λb=>b.turn != t.toNat):=by unfold step;rfl
theorem JZ (i t:Int):step h (.heard i t)=onHost h i λa i=>if within t 0 a.turns=false then no h (-1) else match heardOf a i t.toNat with
  | none=>no h (-6)
  | some s=>(h,{ value:=t,rows:=[told s] }):=by unfold step;rfl
theorem Ld (i t:Int):step h (.says i t)=onHost h i λa i=>if within t 0 a.turns=false then no h (-1) else match saysOf a i t.toNat with
  | none=>no h (-6)
  | some s=>(h,{ value:=t,rows:=[told s] }):=by unfold step;rfl
theorem LX (i:Int):step h (.host i)=onHost h i λa i=>(h,{ value:=((hostAt a i).stake:Int),more:=Vbapaj.ints [natOf (hostAt a i).out,(hostAt a i).bent.length,a.saidTo.getD i 0,openOf a i] }):=by unfold step;rfl
theorem Mt:step h .affair=onAffair h λa=>(h,{ value:=(a.turns:Int),more:=Vbapaj.ints [a.mayLose,a.hosts.length,(ends a).length,a.disputes.length,(a.disputes.filter isOpen).length,a.lost,a.purse,natOf a.found.isSome,a.heard.length] }):=by unfold step;rfl
theorem Qb (l:List Int):step h (.work l)=onAffair h λa=>match runOf a l with
  | none=>no h (-1)
  | some s=>(h,{ value:=0,rows:=[told (turn a.program s)] }):=by unfold step;rfl
theorem P7 (x y:Int):step h (.pair x y)=onHost h x λa x=>onHost h y λ_ y =>
  if a.found.isSome=true then no h (-3)
  else if (isIn a x&&isIn a y)=false then no h (-10)
  else if x=y∨together a x y=true then no h (-11)
  else match heardOf a x a.turns,heardOf a y a.turns with
  | some r,some s =>
   if r=s then no h (-12)
   else (withAffair h (allWeighed { a with disputes:=a.disputes++[{ no:=a.disputes.length+1,x:=x,y:=y,lo:=0,agreed:=a.begin_,hi:=a.turns,asked:=a.turns / 2,saidX:=0,saidY:=0,lost:=0,questions:=if a.turns<=1 then 0 else 1,verdict:=none }] }),{ value:=((a.disputes.length+1:Nat):Int) })
  | _,_=>no h (-4):=by unfold step;rfl
theorem Rm (d i:Int):step h (.say d i)=onHost h i λa i =>
  if a.found.isSome=true then no h (-3)
  else if isIn a i=false then no h (-10)
  else if d=0 then (if (heardOf a i a.turns).isSome=true then no h (-4) else asked h { a with saidTo:=a.saidTo.modify i λn=>n+1 } 0 i a.turns)
  else match (if d < 0 then none else disputeAt a d.toNat) with
  | none=>no h (-6)
  | some e =>
   if isOpen e=false then no h (-3)
   else if hasPart e i=false then no h (-6)
   else if (heardOf a i e.asked).isSome=true then no h (-4)
   else asked h (withDispute a (if e.x=i then { e with saidX:=e.saidX+1 } else { e with saidY:=e.saidY+1 })) e.no i e.asked:=by unfold step;rfl
theorem P4 (d i:Int):step h (.hush d i)=onHost h i λa i =>
  if a.found.isSome=true then no h (-3)
  else if isIn a i=false then no h (-10)
  else if d=0 then (
   if (heardOf a i a.turns).isSome=true then no h (-4)
   else if a.saidTo.getD i 0<=a.mayLose then no h (-8)
   else if underWay h 0 i a.turns=true then no h (-9)
   else (withAffair h (leftOnes (putOut a i none)),{ value:=(i:Int) }))
  else match (if d < 0 then none else disputeAt a d.toNat) with
  | none=>no h (-6)
  | some e =>
   if isOpen e=false then no h (-3)
   else if hasPart e i=false then no h (-6)
   else if (heardOf a i e.asked).isSome=true then no h (-4)
   else if (if e.x=i then e.saidX else e.saidY)<=a.mayLose then no h (-8)
   else if underWay h e.no i e.asked=true then no h (-9)
   else (withAffair h (judged (withDispute a { e with verdict:=some (.silent i) }) { e with verdict:=some (.silent i) }),{ value:=(i:Int) }):=by unfold step;rfl
theorem EB (w:Int):step h (.deliver w)=onAffair h λa=>match wordAt h w with
  | none=>no h (-6)
  | some x=>(comes (without h x) a x,{ value:=((comes (without h x) a x).line.length:Int) }):=by unfold step;rfl
theorem K6 (w:Int):step h (.lose w)=onAffair h λa=>match wordAt h w with
  | none=>no h (-6)
  | some x =>
   if x.dispute=0 then (if a.mayLose<=a.lost then no h (-7) else ({ without h x with affair:=some { a with lost:=a.lost+1 },gone:=h.gone+1 },{ value:=((without h x).line.length:Int) }))
   else match disputeAt a x.dispute with
   | none=>no h (-7)
   | some e=>if a.mayLose<=e.lost then no h (-7) else ({ without h x with affair:=some (withDispute a { e with lost:=e.lost+1 }),gone:=h.gone+1 },{ value:=((without h x).line.length:Int) }):=by unfold step;rfl
theorem MY (w:Int):step h (.double w)=match wordAt h w with
  | none=>no h (-6)
  | some x=>if LINE<=h.line.length then no h (-5) else ({ h with line:=h.line++[{ x with id:=h.next }],next:=h.next+1 },{ value:=(h.next:Int) }):=by unfold step;rfl
theorem NK:step h .close=onAffair h λa =>
  if a.found.isSome=true then no h (-3)
  else match ends a with
  | []=>no h (-10)
  | e::r=>match e.2 with
   | none=>no h (-4)
   | some s =>
    if r.any (λx=>x.2.isNone)=true then no h (-4)
    else if r.any (λx=>x.2 != some s)=true then no h (-12)
    else (withAffair h { a with found:=some s },{ value:=((ends a).length:Int),rows:=[told s] }):=by unfold step;rfl
theorem RN (t k n st:Int) (p b:List Int):step h (.new t k n st p b) =
  if (within t 1 2000&&(within k 0 5&&(within n 2 6&&within st 0 1000)))=false then no h (-1)
  else if h.line.isEmpty=false then no h (-3)
  else match programOf 20 p with
  | none=>no h (-1)
  | some o =>
   if (!o.isEmpty&&(decide (1<=b.length)&&(decide (b.length<=6)&&isNums b)))=false then no h (-1)
   else (withAffair h (Bg o { at_:=0,nums:=b.map V2 } t.toNat k.toNat n.toNat st.toNat),{ value:=n }):=by unfold step;rfl
theorem ik {h:House} {A:Affair} {f:Affair->House × Answer} (e:h.affair=some A):onAffair h f=f A:=by
 unfold onAffair
 rw [e]
end
end HR
namespace HR
open PySem PySem.Spec L2
open PyProof.Rows hiding St
section
variable {a:bF} {bad:List Addr} {H H':Hp} {L:Lay} {A:UQ}
theorem aH.N5 (F:aH a bad H L A) (k:∀ b o,H b=some o->((∃ r,Lv A r/\b=L.ad r)∨b=L.r∨(∃ xs,o=.tup xs)∨(∃ ob u,o=.frz ob u)∨((∃ xs,o=.lst xs)/\¬ b∈L.ad .ls::L.ad .dl::bad))->H' b=some o):aH a bad H' L A:=by
 have ro:∀ (r:Role) o,Lv A r->H (L.ad r)=some o->H' (L.ad r)=some o:=λr o hr e=>k _ _ e (.inl ⟨r,hr,rfl⟩)
 have tu:∀ b xs,H b=some (.tup xs)->H' b=some (.tup xs):=λb xs e=>k _ _ e (.inr (.inr (.inl ⟨xs,rfl⟩)))
 have li:∀ b xs,H b=some (.lst xs)->¬ b∈L.ad .ls::L.ad .dl::bad->H' b=some (.lst xs):=λb xs e n=>k _ _ e (.inr (.inr (.inr (.inr ⟨⟨xs,rfl⟩,n⟩))))
 refine ⟨F.inj,?_,?_,F.Nn,li _ _ F.hl F.NA,λi hi=>?_,λi hi=>?_,λi hi=>?_,?_,ro .dl _ trivial F.dl,λj d hj=>?_,F.N4,F.NA,F.Ge⟩
 ·obtain ⟨dx,h⟩:=F.af
  exact ⟨dx,ro .af _ trivial h⟩
 ·obtain ⟨⟨dx,h1⟩,h2,h3,h4,h5,h6,h7,h8⟩:=F.run
  exact ⟨⟨dx,k _ _ h1 (.inr (.inl rfl))⟩,li _ _ h2 F.N4,h3,λi q o hq ho=>tu _ _ (h4 i q o hq ho),ro .ls _ trivial h5,h6,h7,λi u hu=>tu _ _ (h8 i u hu)⟩
 ·obtain ⟨dx,h⟩:=F.host i hi
  exact ⟨dx,ro (.host i) _ hi h⟩
 ·obtain ⟨⟨kvs,h,hD⟩,tb⟩:=F.tell i hi
  exact ⟨⟨kvs,ro (.tell i) _ hi h,DR.imp (λv l hh=>CO.qh (l:=[]) tu li hh) hD⟩,tb⟩
 ·obtain ⟨kvs,h,hD⟩:=F.qa i hi
  exact ⟨kvs,ro (.qa i) _ hi h,DR.imp (λv s ⟨q,e,hq⟩=>⟨q,e,tu _ _ hq⟩) hD⟩
 ·obtain ⟨⟨dx,h1⟩,h2,kvs,h3,h4⟩:=F.op
  exact ⟨⟨dx,ro .op _ trivial h1⟩,tu _ _ h2,kvs,ro .oa _ trivial h3,h4⟩
 ·have hl:j < A.disputes.length:=(Vn.mp hj).1
  obtain ⟨⟨dx,h1⟩,⟨o,h2,h2'⟩,h3,h4,h5⟩:=F.aK j d hj
  exact ⟨⟨dx,ro (.aK j) _ hl h1⟩,⟨o,k _ _ h2 (.inr (.inr (.inr (.inl ⟨_,_,rfl⟩)))),h2'⟩,tu _ _ h3,ro (.bM j) _ hl h4,tu _ _ h5⟩
theorem aH.Fd (F:aH a bad H L A) {r:Role} (hr:Lv A r) {p C dx:Addr} {f:Str} {v:V} {rest:List (Str × V)} (h:H p=some (.ins C dx ((f,v)::rest))) (h1:f≠"run") (h2:f≠"hosts") (h3:f≠"stake"):p≠L.ad r:=λe=>by
 rcases F.kind hr with ⟨_,_,g,_,_,h4,hg⟩ | ⟨_,h4⟩ | ⟨⟨_,h4⟩,_⟩
 ·refine kG h h4 ?_ e
  rcases hg with rfl | rfl | rfl<;>assumption
 ·rw [e,h4] at h;cases h
 ·rw [e,h4] at h;cases h
theorem aH.SF (F:aH a bad H L A) {r:Role} (hr:Lv A r) {p:Addr} {o:Obj} {u:HO} (h:H p=some (.frz o u)):p≠L.ad r:=λe=>by
 rcases F.kind hr with ⟨_,_,g,_,_,h4,hg⟩ | ⟨_,h4⟩ | ⟨⟨_,h4⟩,_⟩<;>(rw [e,h4] at h;cases h)
end
def AM (ln:Addr) (v:V):List (Str × V):=[("line",.ref ln),("affair",v)]
noncomputable def BI (L:Lay) (h:UZ):V:=match h.affair with
 | none=>.dF
 | some _=>.ref (L.ad .af)
structure bh (a:bF) (bad:List Addr) (H:Hp) (be ln wd:Addr) (L:Lay) (h:UZ):Prop where
 ins:∃ dx,H be=some (.ins a.iz dx (AM ln (BI L h)))
 line:mW a H ln wd h.line h.next h.came h.gone
 ka:∀ A,h.affair=some A->aH a bad H L A
 Qs:∀ A r,h.affair=some A->Lv A r->wd≠L.ad r
 J6:∀ A r,h.affair=some A->Lv A r->¬ L.ad r∈bad
 zC:∀ x∈bad,∃ xs,H x=some (.lst xs)
def Own (L:Lay) (be ln wd:Addr) (h:UZ) (x:Addr):Prop:=x=be∨x=ln∨x=wd∨∃ A r,h.affair=some A/\Lv A r/\x=L.ad r
section
variable {a:bF} {bad:List Addr} {H H':Hp} {be ln wd:Addr} {L:Lay} {h:UZ}
theorem mW.N5 {line:List Vm} {n c g:Nat} (Ln:mW a H ln wd line n c g) (k:∀ b o,H b=some o->(b=ln∨b=wd∨(∃ xs,o=.tup xs)∨∃ C dx v r,o=.ins C dx (("dispute",v)::r))->H' b=some o):mW a H' ln wd line n c g:=by
 obtain ⟨⟨dx,h1⟩,kvs,h2,h3⟩:=Ln
 refine ⟨⟨dx,k _ _ h1 (.inl rfl)⟩,kvs,k _ _ h2 (.inr (.inl rfl)),DR.imp (λv x ⟨q,e,d,sv,hq,ho⟩=>⟨q,e,d,sv,k _ _ hq (.inr (.inr (.inr ⟨_,_,_,_,rfl⟩))),ho.qh λb xs e=>k _ _ e (.inr (.inr (.inl ⟨xs,rfl⟩)))⟩) h3⟩
theorem bh.same (B:bh a bad H be ln wd L h) (s:ax H H'):bh a bad H' be ln wd L h:=by
 obtain ⟨dx,h1⟩:=B.ins
 exact ⟨⟨dx,s _ _ h1⟩,B.line.N5 λb o e _=>s _ _ e,λA e=>(B.ka A e).same s,B.Qs,B.J6,λx hx=>by obtain ⟨xs,e⟩:=B.zC x hx;exact ⟨xs,s _ _ e⟩⟩
theorem bh.Nv (B:bh a bad H be ln wd L h) {A:UQ} {r:Role} (e:h.affair=some A) (hr:Lv A r):be≠L.ad r/\ln≠L.ad r:=by
 obtain ⟨dx,h1⟩:=B.ins
 obtain ⟨⟨dl,h2⟩,_⟩:=B.line
 exact ⟨(B.ka A e).Fd hr h1 (by decide) (by decide) (by decide),(B.ka A e).Fd hr h2 (by decide) (by decide) (by decide)⟩
theorem bh.ne (B:bh a bad H be ln wd L h):be≠ln/\be≠wd/\ln≠wd:=by
 obtain ⟨dx,h1⟩:=B.ins
 obtain ⟨⟨dl,h2⟩,kvs,h3,_⟩:=B.line
 exact ⟨kG h1 h2 (by decide),aV h1 h3 (by intro z;cases z),aV h2 h3 (by intro z;cases z)⟩
theorem bh.QE (B:bh a bad H be ln wd L h) {x:Addr} (hx:x∈bad):¬ Own L be ln wd h x:=by
 obtain ⟨xs,e⟩:=B.zC x hx
 obtain ⟨dx,h1⟩:=B.ins
 obtain ⟨⟨dl,h2⟩,kvs,h3,_⟩:=B.line
 rintro (rfl | rfl | rfl | ⟨A,r,eA,hr,rfl⟩)
 ·rw [e] at h1;cases h1
 ·rw [e] at h2;cases h2
 ·rw [e] at h3;cases h3
 ·exact B.J6 A r eA hr hx
theorem bh.xO (B:bh a bad H be ln wd L h) {A A':UQ} {L':Lay} (eA:h.affair=some A) (S:Step H L A H' L' A') (F:aH a bad H' L' A'):bh a bad H' be ln wd L' { h with affair:=some A' }:=by
 obtain ⟨dx,h1⟩:=B.ins
 have F0:=B.ka A eA
 have new:∀ r x,Lv A' r->H x≠none->(∀ r0,Lv A r0->x≠L.ad r0)->x≠L'.ad r:=λr x hr hx n e=>by
  rcases S.old r hr with ⟨r0,h0,e0⟩ | h0
  ·exact n r0 h0 (e.trans e0)
  ·rw [<- e] at h0;exact hx h0
 have e1:BI L h=.ref (L'.ad .af):=by unfold BI;rw [eA,S.af]
 obtain ⟨⟨dl,h2⟩,kvs,h3,_⟩:=id B.line
 refine ⟨⟨dx,?_⟩,B.line.N5 λb o e c=>S.keep b o e λr hr=>?_,λC e=>?_,λC r e hr=>?_,λC r e hr=>?_,λx hx=>?_⟩
 ·rw [e1] at h1
  exact S.keep _ _ h1 λr hr=>(B.Nv eA hr).1
 ·rcases c with rfl | rfl | ⟨xs,rfl⟩ | ⟨C,d,v,rest,rfl⟩
  ·exact (B.Nv eA hr).2
  ·exact B.Qs A r eA hr
  ·intro z;rw [z] at e;exact F0.QC hr xs e
  ·exact F0.Fd hr e (by decide) (by decide) (by decide)
 ·cases e;exact F
 ·cases e
  exact new r wd hr (by rw [h3];intro z;cases z) λr0 h0=>B.Qs A r0 eA h0
 ·cases e
  intro m
  obtain ⟨xs,q⟩:=B.zC _ m
  exact new r _ hr (by rw [q];intro z;cases z) (λr0 h0 z=>B.J6 A r0 eA h0 (by rw [<- z];exact m)) rfl
 ·obtain ⟨xs,q⟩:=B.zC x hx
  exact ⟨xs,S.keep _ _ q λr0 h0 z=>B.J6 A r0 eA h0 (by rw [<- z];exact hx)⟩
theorem bh.SE (B:bh a bad H be ln wd L h) {A:UQ} (eA:h.affair=some A) (k:∀ b o,H b=some o->b≠be->b≠ln->b≠wd->¬ b∈bad->H' b=some o):aH a bad H' L A:=by
 have F:=B.ka A eA
 obtain ⟨dx,h1⟩:=B.ins
 obtain ⟨⟨dl,h2⟩,kvs,h3,_⟩:=B.line
 refine F.N5 λb o e c=>?_
 obtain ⟨dr,h4⟩:=F.run.run
 have nb:(∀ xs,o≠.lst xs)->¬ b∈bad:=λn m=>by
  obtain ⟨xs,q⟩:=B.zC b m
  rw [q] at e
  cases e
  exact n xs rfl
 rcases c with ⟨r,hr,rfl⟩ | rfl | ⟨xs,rfl⟩ | ⟨ob,u,rfl⟩ | ⟨⟨xs,rfl⟩,n⟩
 ·exact k _ _ e (λz=>(B.Nv eA hr).1 z.symm) (λz=>(B.Nv eA hr).2 z.symm) (λz=>B.Qs A r eA hr z.symm) (B.J6 A r eA hr)
 ·rw [h4] at e
  cases e
  exact k _ _ h4 (kG h4 h1 (by decide)) (kG h4 h2 (by decide)) (aV h4 h3 (by intro z;cases z)) (nb (by intro xs z;cases z))
 ·exact k _ _ e (aV e h1 (by intro z;cases z)) (aV e h2 (by intro z;cases z)) (aV e h3 (by intro z;cases z)) (nb (by intro xs z;cases z))
 ·exact k _ _ e (aV e h1 (by intro z;cases z)) (aV e h2 (by intro z;cases z)) (aV e h3 (by intro z;cases z)) (nb (by intro xs z;cases z))
 ·exact k _ _ e (aV e h1 (by intro z;cases z)) (aV e h2 (by intro z;cases z)) (aV e h3 (by intro z;cases z)) λm=>n (Vl _ (Vl _ m))
theorem bh.Ny (B:bh a bad H be ln wd L h) {line:List Vm} {n c g:Nat} (k:Keeps [ln,wd] H H') (Ln:mW a H' ln wd line n c g):bh a bad H' be ln wd L { h with line:=line,next:=n,came:=c,gone:=g }:=by
 obtain ⟨dx,h1⟩:=B.ins
 obtain ⟨n1,n2,n3⟩:=B.ne
 have off:∀ b,b≠ln->b≠wd->¬ b∈[ln,wd]:=λb h1 h2 m=>by
  rcases U4.mp m with z | m
  ·exact h1 z
  ·exact h2 (UX.mp m)
 refine ⟨⟨dx,k _ _ h1 (off _ n1 n2)⟩,Ln,λA e=>B.SE e λb o q _ c1 c2 _=>k _ _ q (off _ c1 c2),B.Qs,B.J6,λx hx=>?_⟩
 obtain ⟨xs,q⟩:=B.zC x hx
 obtain ⟨⟨dl,h2⟩,kvs,h3,_⟩:=B.line
 exact ⟨xs,k _ _ q (off _ (aV q h2 (by intro z;cases z)) (aV q h3 (by intro z;cases z)))⟩
theorem bh.given (B:bh a bad H be ln wd L h) {g:Addr} {ys:List V} (hg:g∈bad):bh a bad (upd H g (.lst ys)) be ln wd L h:=by
 have ng:=B.QE hg
 obtain ⟨xs,hx⟩:=B.zC g hg
 obtain ⟨dx,h1⟩:=B.ins
 refine ⟨⟨dx,by rw [ak (λz=>ng (.inl z.symm))];exact h1⟩,B.line.N5 λb o e c=>?_,λA e=>B.SE e λb o q _ _ _ m=>?_,B.Qs,B.J6,λx hx'=>?_⟩
 ·rw [ak]
  ·exact e
  ·rintro rfl
   rcases c with rfl | rfl | ⟨ys,rfl⟩ | ⟨C,d,v,rest,rfl⟩
   ·exact ng (.inr (.inl rfl))
   ·exact ng (.inr (.inr (.inl rfl)))
   ·rw [e] at hx;cases hx
   ·rw [e] at hx;cases hx
 ·rw [ak (λz=>m (by rw [z];exact hg))]
  exact q
 ·by_cases c:x=g
  ·subst c;exact ⟨ys,ae⟩
  ·rw [ak c];exact B.zC x hx'
end
def uM (x:VG):List Int:=x.value::(x.more++x.rows.flatMap λr=>(r.length:Int)::r)
structure Done (a:bF) (bad:List Addr) (H:Hp) (be ln wd:Addr) (L:Lay) (h:UZ) (H':Hp) (ln' wd':Addr) (L':Lay) (r:UZ × VG) (c:Addr):Prop where
 at_:bh a bad H' be ln' wd' L' r.1
 keep:∀ b o,H b=some o->¬ Own L be ln wd h b->H' b=some o
 new:¬ c∈bad
 told:H' c=some (.lst ((uM r.2).map V.int))
structure Given (a:bF) (bad:List Addr) (H:Hp) (be nm rw:Addr) (ln wd:Addr) (L:Lay) (h:UZ) (N:Nat) (xs:List Int) (ps:List Addr) (rs:List (List Int)):Prop where
 at_:bh a bad H be ln wd L h
 ok:o5 h N
 n:N<=400
 nums:H nm=some (.lst (xs.map V.int))
 rows:H rw=some (.lst (ps.map V.ref))
 row:Paired (λp (r:List Int)=>H p=some (.lst (r.map V.int))) ps rs
 Po:∀ r∈rs,r.length<=100
def d8 (K:UR) (a:bF) (C:List Int->List (List Int)->VC->Prop) (W:UZ->Prop):Sp:=λvs H Q _=>∃ (bad:List Addr) (be nm rw ln wd:Addr) (L:Lay) (h:UZ) (N:Nat) (xs:List Int) (ps:List Addr) (rs:List (List Int)) (c:VC),
 vs=[.ref be,.ref nm,.ref rw]/\Given a bad H be nm rw ln wd L h N xs ps rs/\C xs rs c/\W h /\
 ∀ (H':Hp) (ln' wd':Addr) (L':Lay) (cc:Addr),Done a bad H be ln wd L h H' ln' wd' L' (U0 h c) cc->Q (.ref cc) H'
abbrev Any (_:UZ):Prop:=True
abbrev vj (h:UZ):Prop:=∃ A,h.affair=some A
theorem ki {K:UR} {a:bF} {C:List Int->List (List Int)->VC->Prop} {W:UZ->Prop} (vs:List V) (H:Hp) (Q:VK) (E:XK) (h:d8 K a C W vs H Q E):vs.length=3:=by
 obtain ⟨_,_,_,_,_,_,_,_,_,_,_,_,_,rfl,_⟩:=h
 rfl
theorem r9 {K:UR} {a:bF} {C:List Int->List (List Int)->VC->Prop} {W:UZ->Prop} {vs:List V} {H:Hp} {Q:VK} {E:XK} {M:Prop} (s:d8 K a C W vs H Q E)
  (g:∀ (bad:List Addr) (be nm rw ln wd:Addr) (L:Lay) (h:UZ) (N:Nat) (xs:List Int) (ps:List Addr) (rs:List (List Int)) (c:VC),vs=[.ref be,.ref nm,.ref rw]->Given a bad H be nm rw ln wd L h N xs ps rs->C xs rs c->W h ->
   (∀ (H':Hp) (ln' wd':Addr) (L':Lay) (cc:Addr),Done a bad H be ln wd L h H' ln' wd' L' (U0 h c) cc->Q (.ref cc) H')->M):M:=by
 obtain ⟨bad,be,nm,rw,ln,wd,L,h,N,xs,ps,rs,c,e,G,hc,hw,k⟩:=s
 exact g bad be nm rw ln wd L h N xs ps rs c e G hc hw k
section
variable {P:Program} {w:World} {K:UR} {mg:Str->Option Value} {base:Heap} {a:bF}
def Tv (K:UR) (H:Hp) (p:Addr) (xs:List V):Prop:=bc K H p xs∨gg K H p xs
theorem Tv.same {K:UR} {H H':Hp} {p:Addr} {xs:List V} (h:Tv K H p xs) (s:ax H H'):Tv K H' p xs:=h.elim (λh=>.inl (s.seq h)) λh=>.inr (gg.same s h)
def DG (K:UR) (a:bF):Sp:=λvs H Q _=>∃ (p:Addr) (ns:List Int),vs=[.ref p]/\Tv K H p (ns.map V.int)/\ns.length<=10000 /\
 ∀ (H':Hp) (c:Addr),ax H H'->H c=none->H' c=some (.lst (((ns.length:Int)::ns).map V.int))->Q (.ref c) H'
theorem eO (T:Txt K mg a):a7 P w K mg base eQ 1 a.kx a.kE ["row"] (DG K a):=by
 refine T.cu.ok DF ?_ ?_
 ·rintro _ _ _ _ ⟨_,_,rfl,_⟩
  rfl
 ·rintro cdv A outer s H _ Q E hr ⟨p,ns,rfl,hS,hl,k⟩
  refine ⟨_,(ao (aB (b5 lZ (aS (aa (aT (a6 (K:=K)) (by rfl) T.dM Vd (aa (pv 0) aj)) aj)) (gb (CI (K:=K)) (by rfl) T.Il rK (aa (pv 0) aj))))),?_⟩
  have hz:=sizeLine_eq
  refine xE rfl ⟨p,xE rfl ⟨hS,nG,λc hc=>?_⟩⟩
  have s1:=ax.laid (o:=.lst [.int ((ns.map V.int).length:Int)]) hc
  refine xE rfl ⟨p,xE rfl ⟨hS.same s1,λe he=>?_⟩⟩
  have s2:=s1.trans (ax.laid (o:=.lst (ns.map V.int)) he)
  refine ⟨c,e,_,xE rfl ⟨rfl,by rw [ak (aC ae he)];exact ae,ae,?_,λf hf=>?_⟩⟩
  ·show 1+(ns.map V.int).length<=sizeLine
   rw [UT];lia
  ·refine k _ f (s2.trans (ax.laid hf)) (s2.free hf) ?_
   rw [ae,UT]
   rfl
def IA (K:UR) (a:bF):Sp:=λvs H Q _=>∃ (b:Bool),vs=[.bl b]/\Q (.int ((Vbapaj.natOf b:Nat):Int)) H
theorem BL (T:Txt K mg a):a7 P w K mg base eQ 1 a.ql a.qE ["holds"] (IA K a):=by
 refine T.qj.ok Hg ?_ ?_
 ·rintro _ _ _ _ ⟨_,rfl,_⟩
  rfl
 ·rintro cdv A outer s H _ Q E hr ⟨b,rfl,k⟩
  refine ⟨_,(ao (aB (ow (bG (pv 0)) aw aw))),?_⟩
  refine xE rfl (xE rfl ?_)
  cases b with
  | true=>exact bf k
  | false=>exact bp k
def FO (K:UR) (a:bF):Sp:=λvs H Q _=>∃ (be dx:Addr),vs=[.ref be]/\H be=some (.ins a.iz dx []) /\
 ∀ (H':Hp) (ln wd:Addr) (L:Lay),Keeps [be] H H'->(∀ bad,(∀ x∈bad,∃ xs,H x=some (.lst xs))->bh a bad H' be ln wd L Vbapaj.empty)->Q .dF H'
theorem GB {bad:List Addr} {H:Hp} {be ln wd dx:Addr} {L:Lay} {h:UZ} (hn:h.affair=none) (h1:H be=some (.ins a.iz dx (AM ln .dF))) (Ln:mW a H ln wd h.line h.next h.came h.gone) (hb:∀ x∈bad,∃ xs,H x=some (.lst xs)):bh a bad H be ln wd L h:=by
 refine ⟨⟨dx,?_⟩,Ln,λA e=>?_,λA r e=>?_,λA r e=>?_,hb⟩
 ·unfold BI;rw [hn];exact h1
 all_goals (rw [hn] at e;cases e)
def lay0 (p:Addr):Lay:=⟨λ_=>p,p,p,p,p,[],[],λ_=>p,λ_=>p,λ_=>p,λ_=>[]⟩
theorem FY (T:Txt K mg a):a7 P w K mg base eQ 3 a.nN a.oN ["self"] (FO K a):=by
 refine T.wQ.ok FZ ?_ ?_
 ·rintro _ _ _ _ ⟨_,_,rfl,_⟩
  rfl
 ·rintro cdv A outer s H _ Q E hr ⟨be,dx,rfl,hbe,k⟩
  refine ⟨_,(ah (aQ (K:=K) (pv 0) (Fo T.Ip (AR (K:=K) T) hr.lo rfl T.oU T.ux .nil aE) rfl)
   (ao (aQ (K:=K) (pv 0) ib rfl))),?_⟩
  refine λx d nx nd ne=>⟨x,d,rfl,ae,λH1 wd kp hwd Ln=>⟨rfl,?_⟩⟩
  have s1:ax H H1:=ax.made nx nd λb o e n=>kp b o e λm=>n (UX.mp m)
  have xb:x≠be:=(aC hbe nx).symm
  refine vS rfl (s1 _ _ hbe) T.aP T.aW (by show 0 < 1000;decide) ?_
  refine vS rfl ae T.aP T.aF (by show 1 < 1000;decide) ?_
  rw [b6]
  have kk:∀ b o,H1 b=some o->b≠be->upd H1 be (.ins a.iz dx (aZ (Str.ofString "affair") .dF (aZ (Str.ofString "line") (.ref x) []))) b=some o:=λb o e n=>by rw [ak n];exact e
  have hb1:=s1 _ _ hbe
  refine k _ x wd (lay0 be) (λb o e n=>kk _ _ (s1 _ _ e) λz=>n (by rw [z];exact UX.mpr rfl)) λbad hb=>GB rfl ae (Ln.N5 λb o e c=>kk _ _ e ?_) λy hy=>?_
  ·rintro rfl
   rw [hb1] at e
   cases e
   rcases c with rfl | rfl | ⟨ys,z⟩ | ⟨C,d,v,rest,z⟩
   ·exact xb rfl
   ·obtain ⟨_,kvs,q,_⟩:=Ln
    rw [hb1] at q;cases q
   ·cases z
   ·cases z
  ·obtain ⟨ys,q⟩:=hb y hy
   exact ⟨ys,kk _ _ (s1 _ _ q) (aV q hbe (by intro z;cases z))⟩
theorem Given.fresh {bad:List Addr} {H:Hp} {be nm rw ln wd:Addr} {L:Lay} {h:UZ} {N:Nat} {xs:List Int} {ps:List Addr} {rs:List (List Int)} {c:Addr} (G:Given a bad H be nm rw ln wd L h N xs ps rs) (hc:H c=none):¬ c∈bad:=λm=>by
 obtain ⟨ys,e⟩:=G.at_.zC c m
 rw [hc] at e
 cases e
abbrev zK (K:UR) (a:bF):Sp:=d8 K a (λxs rs c=>c=.clear) Any
theorem Gg (T:Txt K mg a):a7 P w K mg base eQ 3 a.jd a.lK ["bench","numbers","rows"] (zK K a):=by
 refine T.rC.ok FP ki λcdv A outer s H vs Q E hr h0=>r9 h0 λbad be nm rw ln wd L h N xs ps rs c e G hc hW k=>?_
 ·subst e
  obtain rfl:=hc
  refine ⟨_,(ah (aQ (K:=K) (pv 0) (Fo T.Ip (AR (K:=K) T) hr.lo rfl T.oU T.ux .nil aE) rfl)
   (ah (aQ (K:=K) (pv 0) ib rfl)
   (ao (aB (aS (aa aw aj)))))),?_⟩
  obtain ⟨dx,hbe⟩:=G.at_.ins
  refine λx d nx nd ne=>⟨x,d,rfl,ae,λH1 wd1 kp hwd Ln=>⟨rfl,?_⟩⟩
  have s1:ax H H1:=ax.made nx nd λb o e n=>kp b o e λm=>n (UX.mp m)
  have xb:x≠be:=(aC hbe nx).symm
  refine vS rfl (s1 _ _ hbe) T.aP T.aW (by show 2 < 1000;decide) ?_
  refine vS rfl ae T.aP T.aF (by show 2 < 1000;decide) ?_
  rw [b6]
  refine ⟨nG,λc hc=>?_⟩
  have hb1:=s1 _ _ hbe
  have cb:c≠be:=λz=>by rw [z,ae] at hc;cases hc
  have hc1:H1 c=none:=by rw [ak cb] at hc;exact hc
  have kk:∀ o1 o2 b o,H1 b=some o->b≠be->upd (upd H1 be o1) c o2 b=some o:=λo1 o2 b o e n=>by rw [ak (aC e hc1),ak n];exact e
  refine k _ x wd1 L c ⟨GB rfl (dx:=dx) (by rw [ak cb.symm,ae];rfl) (Ln.N5 λb o e q=>kk _ _ _ _ e ?_) λy hy=>?_,λb o e n=>kk _ _ _ _ (s1 _ _ e) λz=>n (.inl z),G.fresh (s1.free hc1),ae⟩
  ·rintro rfl
   rw [hb1] at e
   cases e
   rcases q with rfl | rfl | ⟨ys,z⟩ | ⟨C,d,v,rest,z⟩
   ·exact xb rfl
   ·obtain ⟨_,kvs,q,_⟩:=Ln
    rw [hb1] at q;cases q
   ·cases z
   ·cases z
  ·obtain ⟨ys,q⟩:=G.at_.zC y hy
   exact ⟨ys,kk _ _ _ _ (s1 _ _ q) (aV q hbe (by intro z;cases z))⟩
theorem vG (v:Int) (r:List Int):uM { value:=v,rows:=[r] }=v::((r.length:Int)::r):=by
 unfold uM
 simp
theorem Given.only {bad:List Addr} {H H':Hp} {be nm rw ln wd:Addr} {L:Lay} {h:UZ} {N:Nat} {xs:List Int} {ps:List Addr} {rs:List (List Int)} {r:UZ × VG} {c:Addr} (G:Given a bad H be nm rw ln wd L h N xs ps rs) (hr:r.1=h) (s:ax H H') (hc:H c=none) {ns:List Int} (hn:ns=uM r.2) (ht:H' c=some (.lst (ns.map V.int))):Done a bad H be ln wd L h H' ln wd L r c :=
 ⟨by rw [hr];exact G.at_.same s,λb o e _=>s _ _ e,G.fresh hc,by rw [<- hn];exact ht⟩
abbrev yZ (K:UR) (a:bF):Sp:=d8 K a (λxs rs c=>c=.counts) Any
theorem Fe (T:Txt K mg a):a7 P w K mg base eQ 1 a.hZ a.jP ["bench","numbers","rows"] (yZ K a):=by
 refine T.p6.ok zj ki λcdv A outer s H vs Q E hr h0=>r9 h0 λbad be nm rw ln wd L h N xs ps rs c e G hc hW k=>?_
 ·subst e
  obtain rfl:=hc
  refine ⟨_,(ah (aN (i:=3) zj.nd rfl (Or.inl rfl) (ai (K:=K) (pv 0) rfl))
   (ao (aB (aS (aa (ai (K:=K) (pv 3) rfl) (aa (aT vY (by rfl) T.dM Vd (aa (ai (K:=K) (pv 3) rfl) aj)) (aa (ai (K:=K) (pv 3) rfl) (aa (ai (K:=K) (pv 3) rfl) aj)))))))),?_⟩
  obtain ⟨dx,hbe⟩:=G.at_.ins
  obtain ⟨⟨dl,hln⟩,kvs,hwd,hD⟩:=G.at_.line
  refine vF rfl hbe T.aP T.aW rfl ?_
  refine vF rfl hln T.bJ T.uj rfl (vF rfl hln T.bJ T.bj rfl ⟨wd,kvs,rfl,hwd,vF rfl hln T.bJ T.yS rfl (vF rfl hln T.bJ T.xG rfl ⟨T7,λc hc=>?_⟩)⟩)
  have e:kvs.length=h.line.length:=by rw [hD.len];exact UT ..
  exact k _ _ _ _ c (G.only rfl (ax.laid hc) hc (ns:=[(h.next:Int),(h.line.length:Int),(h.came:Int),(h.gone:Int)]) rfl (by rw [ae,<- e];rfl))
abbrev BG (K:UR) (a:bF):Sp:=d8 K a (λxs rs c=>c=.line) Any
theorem Ju {H:Hp}:∀ {kvs:List (Key × V)} {l:List Vm},DR (WS a H) kvs (E9 l)->kvs.map (λkv=>kV kv.1)=(Vbapaj.ints (l.map λw=>w.id)).map V.int
 | [],[],_=>rfl
 | kv::kvs,x::l,.cons r h=>by
  rw [Vc,r.1,Ju h]
  rfl
theorem Hj (T:Txt K mg a):a7 P w K mg base eQ 2 a.lj a.ni ["bench","numbers","rows"] (BG K a):=by
 refine T.tU.ok BF ki λcdv A outer s H vs Q E hr h0=>r9 h0 λbad be nm rw ln wd L h N xs ps rs c e G hc hW k=>?_
 ·subst e
  obtain rfl:=hc
  refine ⟨_,(ah (aN (i:=3) BF.nd rfl (Or.inl rfl) (gb (NH rfl) (by rfl) T.Il rK (aa (ai (K:=K) (ai (K:=K) (pv 0) rfl) rfl) aj)))
   (ao (aB (b5 lZ (aS (aa (aT (a6 (K:=K)) (by rfl) T.dM Vd (aa (pv 3) aj)) aj)) (bC (eO (K:=K) T) hr.lo rfl T.dm T.cu.kp T.df .nil aE (aa (pv 3) aj)))))),?_⟩
  have hz:=sizeLine_eq
  obtain ⟨dx,hbe⟩:=G.at_.ins
  obtain ⟨⟨dl,hln⟩,kvs,hwd,hD⟩:=G.at_.line
  have e:kvs.length=h.line.length:=by rw [hD.len];exact UT ..
  have hl:=G.ok.ln
  have hN:=G.n
  refine vF rfl hbe T.aP T.aW rfl (fE hln T.bJ T.bj rfl ⟨wd,kvs,rfl,hwd,λp hp=>?_⟩)
  have s1:=ax.laid (o:=.lst (kvs.map λkv=>kV kv.1)) hp
  refine xE rfl ⟨p,xE rfl ⟨.inl (bc.of ae),nG,λc hc=>?_⟩⟩
  have s2:=s1.trans (ax.laid (o:=.lst [.int ((kvs.map λkv=>kV kv.1).length:Int)]) hc)
  refine xE rfl ⟨p,Vbapaj.ints (h.line.map λw=>w.id),rfl,.inl (bc.of (by rw [ak (aC ae hc),ae,Ju hD])),by unfold Vbapaj.ints;rw [UT,UT];lia,λH3 f s3 hf h3=>?_⟩
  refine ⟨c,f,_,xE rfl ⟨rfl,s3 _ _ ae,h3,?_,λg hg=>?_⟩⟩
  ·show 1+(VM V.int _).length<=sizeLine
   unfold Vbapaj.ints
   rw [UT,Vj,UT,UT];lia
  ·refine k _ _ _ _ g (G.only rfl ((s2.trans s3).trans (ax.laid hg)) ((s2.trans s3).free hg) (ns:=(h.line.length:Int)::(((Vbapaj.ints (h.line.map λw=>w.id)).length:Int)::Vbapaj.ints (h.line.map λw=>w.id))) ?_ ?_)
   ·exact (vG _ _).symm
   ·rw [ae,UT,e]
    rfl
end
section
variable {a:bF} {bad:List Addr} {H H':Hp} {be nm rw ln wd cc:Addr} {L L':Lay} {h:UZ} {N:Nat} {xs:List Int} {ps:List Addr} {rs:List (List Int)} {r:UZ × VG}
theorem Given.refuse (G:Given a bad H be nm rw ln wd L h N xs ps rs) (s:ax H H') (hc:H' cc=none) {n:Int} (hr:r=U7 h n):Done a bad H be ln wd L h (upd H' cc (.lst [.int n])) ln wd L r cc :=
 G.only (by rw [hr];rfl) (s.trans (ax.laid hc)) (s.free hc) (ns:=[n]) (by rw [hr];rfl) ae
theorem Given.ka (G:Given a bad H be nm rw ln wd L h N xs ps rs) {A A':UQ} (eA:h.affair=some A) (S:Step H L A H' L' A') (F:aH a bad H' L' A') (hr:r.1={ h with affair:=some A' }) (hc:¬ cc∈bad) {ns:List Int} (hn:ns=uM r.2) (ht:H' cc=some (.lst (ns.map V.int))):Done a bad H be ln wd L h H' ln wd L' r cc :=
 ⟨by rw [hr];exact G.at_.xO eA S F,λb o e n=>S.keep b o e λr hr z=>n (.inr (.inr (.inr ⟨A,r,eA,hr,z⟩))),hc,by rw [<- hn];exact ht⟩
theorem bh.fresh (B:bh a bad H be ln wd L h) (hc:H cc=none):¬ cc∈bad:=λm=>by
 obtain ⟨ys,e⟩:=B.zC cc m
 rw [hc] at e
 cases e
theorem Ab {A:UQ} (eA:h.affair=some A):({ h with affair:=some A }:UZ)=h:=by
 cases h
 simp at eA
 rw [eA]
theorem Given.JA (G:Given a bad H be nm rw ln wd L h N xs ps rs) {A:UQ} (eA:h.affair=some A):∃ dx,H be=some (.ins a.iz dx (AM ln (.ref (L.ad .af)))):=by
 obtain ⟨dx,e⟩:=G.at_.ins
 unfold BI at e
 rw [eA] at e
 exact ⟨dx,e⟩
theorem Bs {kvs:List (Key × V)} (hD:DR (WS a H) kvs (E9 h.line)) (z:Int):(WD h z=none/\k7 kvs (Sum.inl z)=none)∨∃ x q,WD h z=some x/\k7 kvs (Sum.inl z)=some (.ref q)/\wu a H q x/\z=(x.id:Int)/\(h.line.find? λy=>y.id == x.id)=some x/\x∈h.line:=by
 by_cases hz:z < 0
 ·refine .inl ⟨by unfold WD;rw [if_pos hz],?_⟩
  cases e:k7 kvs (Sum.inl z) with
  | none=>rfl
  | some v =>
   obtain ⟨kv,hk,ek⟩:=Vb.mp (LQ e)
   obtain ⟨i,hi,ei⟩:=List.getElem_of_mem hk
   obtain ⟨p,_,q,_⟩:=hD.at (i:=i) (kv:=kv) (by rw [VI hi,ei])
   rw [ek] at q
   injection q with q
   lia
 ·obtain ⟨n,rfl⟩:∃ n:Nat,z=(n:Int):=⟨z.toNat,by lia⟩
  have ew:WD h (n:Int)=h.line.find? λx=>x.id == n:=by unfold WD;rw [if_neg hz];rfl
  rcases hD.get n with ⟨q1,q2⟩ | ⟨x,v,q1,q2,q,rfl,hq⟩
  ·rw [wa] at q1
   exact .inl ⟨by rw [ew];exact q1,q2⟩
  ·rw [wa] at q1
   have en:x.id=n:=by simpa using List.find?_some q1
   exact .inr ⟨x,q,by rw [ew];exact q1,q2,hq,by rw [en],by rw [en];exact q1,Xl q1⟩
theorem mJ (s:UU):(stI s).length=s.nums.length+1:=by unfold stI;rw [Vj,UT]
theorem Mp {x:Vm} {s:UU} (o:o5 h N) (hx:x∈h.line) (e:x.answer=some s):s.nums.length<=6:=by
 cases eA:h.affair with
 | none=>rw [o.no eA] at hx;cases hx
 | some A =>
  have h1:=((o.wd A eA x hx).2.2.2 s e).len
  have h2:=(o.ka A eA).good.base.n6
  lia
end
section
variable {P:Program} {w:World} {K:UR} {mg:Str->Option Value} {base:Heap} {a:bF}
abbrev Bb (K:UR) (a:bF):Sp:=d8 K a (λxs rs c=>∃ z,xs=[z]/\c=.word z) Any
theorem HZ (T:Txt K mg a):a7 P w K mg base eQ 2 a.kb a.nk ["bench","numbers","rows"] (Bb K a):=by
 refine T.ud.ok wO ki λcdv A outer s H vs Q E hr h0=>r9 h0 λbad be nm rw ln wd L h N xs ps rs c e G hc hW k=>?_
 ·subst e
  obtain ⟨z,rfl,rfl⟩:=hc
  refine ⟨_,(ah (bg (Fv (zq (mF hr) (aJ (az (K:=K)) (pv 1) aw (λ_ _=>rfl)) (ai (K:=K) (ai (K:=K) (pv 0) rfl) rfl))) (ao (aB (aS (aa (aM (by rfl) T.lG) aj)))) aO)
   (ah (aN (i:=3) wO.nd rfl (Or.inl rfl) (ug (mF hr) (ai (K:=K) (ai (K:=K) (pv 0) rfl) rfl) (aJ (az (K:=K)) (pv 1) aw (λ_ _=>rfl)) (λ_ _=>rfl)))
   (ah (aN (i:=4) wO.nd rfl (Or.inl rfl) (aS (aa (ai (K:=K) (pv 3) rfl) (aa (ai (K:=K) (pv 3) rfl) (aa (ai (K:=K) (pv 3) rfl) aj)))))
   (ah (bg (a8 vi (ai (K:=K) (pv 3) rfl) ib (bo _)) (ao (aB (b5 lZ (pv 4) (aS (aa aw aj))))) aO)
   (ao (aB (b5 lZ (b5 lZ (pv 4) (aS (aa aw aj))) (bC (eO (K:=K) T) hr.lo rfl T.dm T.cu.kp T.df .nil aE (aa (ai (K:=K) (pv 3) rfl) aj))))))))),?_⟩
  have hz:=sizeLine_eq
  obtain ⟨dx,hbe⟩:=G.at_.ins
  obtain ⟨⟨dl,hln⟩,kvs,hwd,hD⟩:=G.at_.line
  refine ⟨_,rfl,iE (bc.of G.nums) (at_of (j:=0) rfl rfl) ⟨_,rfl,fE hbe T.aP T.aW rfl (fE hln T.bJ T.bj rfl ⟨wd,_,rfl,lH.k (k:=Sum.inl z) hwd,_,rfl,?_⟩)⟩⟩
  rcases Bs hD z with ⟨e1,e2⟩ | ⟨x,q,e1,e2,hq,ez,_,hx⟩
  ·rw [e2]
   exact bf ⟨nG,λc hc=>k _ _ _ _ c (G.refuse (ax.refl H) hc (by unfold U0;simp only [e1]))⟩
  ·rw [e2]
   refine bp ?_
   obtain ⟨dq,sv,hq1,hq2⟩:=hq
   refine vF rfl hbe T.aP T.aW rfl (fE hln T.bJ T.bj rfl (vI rfl (bc.of G.nums) (at_of (j:=0) rfl rfl) (dE (by have:=lH.k (k:=Sum.inl z) hwd;rw [e2] at this;exact this) ?_)))
   refine vF rfl hq1 T.dA T.iM rfl (vF rfl hq1 T.dA T.k8 rfl (vF rfl hq1 T.dA T.kf rfl ⟨Sb,λt ht=>?_⟩))
   have s1:=ax.laid (o:=.lst [.int (x.dispute:Int),.int (x.host:Int),.int (x.turn:Int)]) ht
   refine vF rfl (s1 _ _ hq1) T.dA T.lQ rfl ⟨rfl,xE rfl ?_⟩
   cases ex:x.answer with
   | none =>
    rw [ex] at hq2
    obtain rfl:sv=.dF:=hq2
    have es:U0 h (.word z)=(h,{ value:=(x.dispute:Int),more:=[(x.host:Int),(x.turn:Int),0],rows:=[] }):=by
     unfold U0
     simp only [e1,ex]
     rfl
    refine bf (xE rfl ⟨nG,λc hc=>⟨t,c,_,xE rfl ⟨rfl,by rw [ak (aC ae hc)];exact ae,ae,by show 3+1<=sizeLine;decide,λf hf=>?_⟩⟩⟩)
    have s2:=s1.trans (ax.laid (o:=.lst [.int 0]) hc)
    exact k _ _ _ _ f (G.only (by rw [es]) (s2.trans (ax.laid hf)) (s2.free hf) (ns:=[(x.dispute:Int),(x.host:Int),(x.turn:Int),0]) (by rw [es];rfl) ae)
   | some s0 =>
    rw [ex] at hq2
    obtain ⟨u,rfl,hu⟩:=hq2
    have es:U0 h (.word z)=(h,{ value:=(x.dispute:Int),more:=[(x.host:Int),(x.turn:Int),1],rows:=[stI s0] }):=by
     unfold U0
     simp only [e1,ex]
     rfl
    refine bp (xE rfl ⟨nG,λc hc=>⟨t,c,_,xE rfl ⟨rfl,by rw [ak (aC ae hc)];exact ae,ae,by show 3+1<=sizeLine;decide,λf hf=>?_⟩⟩⟩)
    have s2:=s1.trans (ax.laid (o:=.lst [.int 1]) hc)
    have s3:=s2.trans (ax.laid (o:=.lst ([.int (x.dispute:Int),.int (x.host:Int),.int (x.turn:Int)]++[.int 1])) hf)
    have sm:=Mp G.ok hx ex
    refine vF rfl (s3 _ _ hq1) T.dA T.lQ rfl ⟨u,stI s0,rfl,.inr (gg.of (by rw [<- fN];exact s3 _ _ hu)),by rw [mJ];lia,λH4 g s4 hg h4=>?_⟩
    refine ⟨f,g,_,xE rfl ⟨rfl,s4 _ _ ae,h4,by show 4+(VM V.int _).length<=sizeLine;rw [UT,Vj,mJ];lia,λe he=>?_⟩⟩
    refine k _ _ _ _ e (G.only (by rw [es]) ((s3.trans s4).trans (ax.laid he)) ((s3.trans s4).free he) (ns:=[(x.dispute:Int),(x.host:Int),(x.turn:Int),1]++(((stI s0).length:Int)::stI s0)) (by rw [es];unfold uM;simp) (by rw [ae,Vk];rfl))
end
def CY (A:UQ) (z:Int):Option UW:=if z < 0 then none else Wk A z.toNat
theorem Ky {A:UQ} (hn:Num A):CY A 0=none:=by
 unfold CY
 rw [if_neg (by decide)]
 show A.disputes.find? (λd=>d.no == 0)=none
 rw [WW]
 intro d hd
 obtain ⟨i,hi,ei⟩:=List.getElem_of_mem hd
 have:=hn i d (by rw [VI hi,ei])
 simp [this]
theorem AN {A:UQ} {z:Int} (hn:Num A) (h:(!decide (z=0)&&l3 A z)=false):CY A z=none:=by
 by_cases z0:z=0
 ·rw [z0];exact Ky hn
 ·unfold CY
  by_cases zn:z < 0
  ·rw [if_pos zn]
  ·rw [if_neg zn]
   obtain ⟨j,rfl⟩:∃ j:Nat,z=((j+1:Nat):Int):=⟨z.toNat - 1,by lia⟩
   show Wk A (j+1)=none
   rw [lE hn]
   have h2:l3 A ((j+1:Nat):Int)=false:=by rw [decide_eq_false z0] at h;exact h
   unfold l3 at h2
   rw [decide_eq_true (show (0:Int)<=((j+1:Nat):Int) by exact V7 _),Wg] at h2
   have:=of_decide_eq_false h2
   exact Wf (by lia)
theorem z7 {A:UQ} {z:Int} (hn:Num A) (h:(!decide (z=0)&&l3 A z)=true):∃ j,j < A.disputes.length/\z=((j+1:Nat):Int)/\CY A z=some (aL A j):=by
 rw [U6] at h
 obtain ⟨h1,h2⟩:=h
 have z0:¬ z=0:=by simpa using h1
 unfold l3 at h2
 rw [U6,decide_eq_true_eq,decide_eq_true_eq] at h2
 have hj:z.toNat - 1 < A.disputes.length:=by lia
 refine ⟨z.toNat - 1,hj,by lia,?_⟩
 unfold CY
 rw [if_neg (by lia),show z.toNat=(z.toNat - 1)+1 by lia,lE hn]
 exact ba hj
theorem LL (x y m n:Nat):k7 (xc x y m n) (Sum.inl (x:Int))=some (.int (m:Int)):=by
 unfold k7 xc
 rw [Vy]
 simp
theorem K9 {x y:Nat} (h:x≠y) (m n:Nat):k7 (xc x y m n) (Sum.inl (y:Int))=some (.int (n:Int)):=by
 unfold k7 xc
 rw [Vy,Cv,decide_eq_false h,Vy]
 simp
theorem J3 {kvs:List (Key × V)} {cn:List Nat} {i:Nat} (hD:DR (λv (m:Nat)=>v=.int (m:Int)) kvs (xn cn)) (hi:i < cn.length):k7 kvs (Sum.inl (i:Int))=some (.int ((cn.getD i 0:Nat):Int)):=by
 have e:zc (xn cn) i=some (cn.getD i 0):=by
  unfold zc xn
  rw [List.find?_map]
  have:(List.range cn.length).find? ((λp:Nat × Nat=>decide (p.1=i)) ∘ λi=>(i,cn.getD i 0))=some i:=by
   rw [List.find?_eq_some_iff_append]
   refine ⟨by simp,List.range i,(WA (i+1) (cn.length - i - 1)),?_,?_⟩
   ·rw [Xm,Xm,show i::WA (i+1) (cn.length - i - 1)=WA i (cn.length - i - 1+1) from (List.range'_succ ..).symm]
    rw [show cn.length=i+(cn.length - i - 1+1) by lia]
    have:=(List.range'_append (s:=0) (m:=i) (n:=cn.length - i - 1+1) (step:=1)).symm
    simp only [Nat.one_mul,WO] at this
    rw [this]
    congr 2
    lia
   ·intro b hb
    have:=Vq.mp hb
    simp
    exact Vh ‹_›
  rw [this]
  rfl
 rcases hD.get i with ⟨q1,_⟩ | ⟨b,v,q1,q2,q3⟩
 ·rw [e] at q1;cases q1
 ·rw [e] at q1
  cases q1
  rw [q2,q3]
section
variable {P:Program} {w:World} {K:UR} {mg:Str->Option Value} {base:Heap} {a:bF}
abbrev xp (K:UR) (a:bF):Sp:=d8 K a (λxs rs c=>∃ z,xs=[z]/\c=.dispute z) vj
theorem DS (T:Txt K mg a):a7 P w K mg base eQ 3 a.fD a.iN ["bench","numbers","rows"] (xp K a):=by
 refine T.nJ.ok jD ki λcdv A outer s H vs Q E hr h0=>r9 h0 λbad be nm rw ln wd L h N xs ps rs c e G hc hW k=>?_
 ·subst e
  obtain ⟨z,rfl,rfl⟩:=hc
  obtain ⟨A,eA⟩:=hW
  refine ⟨_,(ah (bg (ia (bG (aI (ai (K:=K) (pv 0) rfl) T.au T.jX (rX (K:=K) T) hr.lo T.j9 .nil aE (aa (aJ (az (K:=K)) (pv 1) aw (λ_ _=>rfl)) aj)))) (ao (aB (aS (aa (aM (by rfl) T.lG) aj)))) aO)
   (ah (aN (i:=3) jD.nd rfl (Or.inl rfl) (aI (ai (K:=K) (pv 0) rfl) T.au T.bB (bR (K:=K) T) hr.lo T.bD .nil aE (aa (aJ (az (K:=K)) (pv 1) aw (λ_ _=>rfl)) aj)))
   (ah (aN (i:=4) jD.nd rfl (Or.inl rfl) (aJ (bN (K:=K)) (ai (K:=K) (pv 3) rfl) aw (λ_ _=>rfl)))
   (ah (aN (i:=5) jD.nd rfl (Or.inl rfl) (aJ (bN (K:=K)) (ai (K:=K) (pv 3) rfl) aw (λ_ _=>rfl)))
   (ah (aN (i:=6) jD.nd rfl (Or.inl rfl) (aS (aa (ai (K:=K) (pv 3) rfl) (aa (pv 4) (aa (pv 5) (aa (ai (K:=K) (pv 3) rfl) (aa (ai (K:=K) (pv 3) rfl) aj)))))))
   (ah (bQ (zR (K:=K) WT PySem.F.slot_list_extend PySem.F.type_list_extend CB (pv 6) (aa (aS (aa (ug (mF hr) (ai (K:=K) (pv 3) rfl) (pv 4) (λ_ _=>rfl)) (aa (ug (mF hr) (ai (K:=K) (pv 3) rfl) (pv 5) (λ_ _=>rfl)) (aa (ai (K:=K) (pv 3) rfl) (aa (ai (K:=K) (pv 3) rfl) aj))))) aj)))
   (ao (aB (b5 lZ (pv 6) (gb (CI (K:=K)) (by rfl) T.Il rK (aa (ai (K:=K) (pv 3) rfl) aj))))))))))),?_⟩
  have hz:=sizeLine_eq
  obtain ⟨dx,hbe⟩:=G.JA eA
  have F:=G.at_.ka A eA
  have oA:=G.ok.ka A eA
  obtain ⟨da,g1⟩:=F.af
  have es:U0 h (.dispute z)=match CY A z with
    | none=>U7 h (-6)
    | some e=>(h,{ value:=(e.asked:Int),more:=Vbapaj.ints ([e.x,e.y,e.lo,e.hi,e.saidX,e.saidY,e.questions,e.lost]++Wq e.verdict) }):=by
   unfold U0 Wh
   rw [eA]
   rfl
  refine DZ rfl hbe T.aP T.aF rfl g1 rfl (vI rfl (bc.of G.nums) (at_of (j:=0) rfl rfl) ⟨bad,L,A,z,rfl,F,xE rfl ?_⟩)
  cases c1:(!decide (z=0)&&l3 A z) with
  | false =>
   rw [AN oA.num c1] at es
   exact bf ⟨nG,λc hc=>k _ _ _ _ c (G.refuse (ax.refl H) hc es)⟩
  | true =>
   refine bp ?_
   obtain ⟨j,hj,rfl,e2⟩:=z7 oA.num c1
   rw [e2] at es
   have D:=F.aK j _ (ba hj)
   obtain ⟨xl,yl,xy⟩:=oA.good.xy _ (Vx (ba hj))
   obtain ⟨dd,gd⟩:=D.ins
   refine DZ rfl hbe T.aP T.aF rfl g1 rfl (vI rfl (bc.of G.nums) (at_of (j:=0) rfl rfl) ⟨bad,L,A,j+1,rfl,F,hj,?_⟩)
   rw [if_neg (by exact WX _)]
   refine vF rfl gd T.ay T.aX rfl (iG D.hosts.sq (at_of (j:=0) rfl rfl) ?_)
   refine vF rfl gd T.ay T.aX rfl (iG D.hosts.sq (at_of (j:=1) rfl rfl) ?_)
   refine vF rfl gd T.ay T.bz rfl (x2 rfl rfl (vF rfl gd T.ay T.dJ rfl (vF rfl gd T.ay T.du rfl ⟨UM,λt ht=>?_⟩)))
   have s1:=ax.laid (o:=.lst [.int ((aL A j).asked:Int),.int ((aL A j).x:Int),.int ((aL A j).y:Int),.int ((aL A j).lo:Int),.int ((aL A j).hi:Int)]) ht
   refine xE rfl ⟨.inl ⟨rfl,_,bc.of ae⟩,?_⟩
   refine vF rfl (s1 _ _ gd) T.ay T.jx rfl (xE rfl (dE (by have:=lH.k (k:=Sum.inl ((aL A j).x:Int)) (s1 _ _ D.ask);rw [LL] at this;exact this) ?_))
   refine vF rfl (s1 _ _ gd) T.ay T.jx rfl (xE rfl (dE (by have:=lH.k (k:=Sum.inl ((aL A j).y:Int)) (s1 _ _ D.ask);rw [K9 xy] at this;exact this) ?_))
   refine vF rfl (s1 _ _ gd) T.ay T.l4 rfl (vF rfl (s1 _ _ gd) T.ay T.tG rfl ⟨T7,λf hf=>?_⟩)
   refine ⟨t,f,_,xE rfl ⟨rfl,by rw [ak (aC ae hf)];exact ae,ae,by show 5+4<=sizeLine;decide,?_⟩⟩
   have hf0:H f=none:=s1.free hf
   have s2:∀ o1 o2,ax H (upd (upd (upd H t (.lst [.int ((aL A j).asked:Int),.int ((aL A j).x:Int),.int ((aL A j).y:Int),.int ((aL A j).lo:Int),.int ((aL A j).hi:Int)])) f o1) t o2):=λo1 o2=>cO (s1.trans (ax.laid hf)) ht
   refine xE rfl (vF rfl (s2 _ _ _ _ gd) T.ay T.dy rfl ⟨L.de j,xE rfl ⟨.inr (gg.of (s2 _ _ _ _ D.fin)),λg hg=>?_⟩⟩)
   obtain ⟨v1,v2,ev⟩:=Q4 (aL A j).verdict
   refine ⟨t,g,_,xE rfl ⟨rfl,by rw [ak (aC ae hg)];exact ae,ae,by rw [ev];show 9+2<=sizeLine;decide,λe he=>?_⟩⟩
   refine k _ _ _ _ e (G.only (by rw [es]) (((s2 _ _).trans (ax.laid hg)).trans (ax.laid he)) (((s2 _ _).trans (ax.laid hg)).free he) (ns:=((aL A j).asked:Int)::Vbapaj.ints ([(aL A j).x,(aL A j).y,(aL A j).lo,(aL A j).hi,(aL A j).saidX,(aL A j).saidY,(aL A j).questions,(aL A j).lost]++Wq (aL A j).verdict)) (by rw [es];unfold uM;simp) ?_)
   rw [ae,ev]
   rfl
abbrev xI (K:UR) (a:bF):Sp:=d8 K a (λxs rs c=>∃ z,xs=[z]/\c=.agreed z) vj
theorem FE (T:Txt K mg a):a7 P w K mg base eQ 3 a.gV a.jK ["bench","numbers","rows"] (xI K a):=by
 refine T.pY.ok yK ki λcdv A outer s H vs Q E hr h0=>r9 h0 λbad be nm rw ln wd L h N xs ps rs c e G hc hW k=>?_
 ·subst e
  obtain ⟨z,rfl,rfl⟩:=hc
  obtain ⟨A,eA⟩:=hW
  refine ⟨_,(ah (bg (ia (bG (aI (ai (K:=K) (pv 0) rfl) T.au T.jX (rX (K:=K) T) hr.lo T.j9 .nil aE (aa (aJ (az (K:=K)) (pv 1) aw (λ_ _=>rfl)) aj)))) (ao (aB (aS (aa (aM (by rfl) T.lG) aj)))) aO)
   (ah (aN (i:=3) yK.nd rfl (Or.inl rfl) (aI (ai (K:=K) (pv 0) rfl) T.au T.bB (bR (K:=K) T) hr.lo T.bD .nil aE (aa (aJ (az (K:=K)) (pv 1) aw (λ_ _=>rfl)) aj)))
   (ao (aB (b5 lZ (aS (aa (ai (K:=K) (pv 3) rfl) aj)) (bC (eO (K:=K) T) hr.lo rfl T.dm T.cu.kp T.df .nil aE (aa (ai (K:=K) (pv 3) rfl) aj))))))),?_⟩
  have hz:=sizeLine_eq
  obtain ⟨dx,hbe⟩:=G.JA eA
  have F:=G.at_.ka A eA
  have oA:=G.ok.ka A eA
  obtain ⟨da,g1⟩:=F.af
  have es:U0 h (.agreed z)=match CY A z with
    | none=>U7 h (-6)
    | some e=>(h,{ value:=(e.lo:Int),rows:=[WY e.agreed] }):=by
   unfold U0 Wh
   rw [eA]
   rfl
  refine DZ rfl hbe T.aP T.aF rfl g1 rfl (vI rfl (bc.of G.nums) (at_of (j:=0) rfl rfl) ⟨bad,L,A,z,rfl,F,xE rfl ?_⟩)
  cases c1:(!decide (z=0)&&l3 A z) with
  | false =>
   rw [AN oA.num c1] at es
   exact bf ⟨nG,λc hc=>k _ _ _ _ c (G.refuse (ax.refl H) hc es)⟩
  | true =>
   refine bp ?_
   obtain ⟨j,hj,rfl,e2⟩:=z7 oA.num c1
   rw [e2] at es
   have D:=F.aK j _ (ba hj)
   obtain ⟨dd,gd⟩:=D.ins
   refine DZ rfl hbe T.aP T.aF rfl g1 rfl (vI rfl (bc.of G.nums) (at_of (j:=0) rfl rfl) ⟨bad,L,A,j+1,rfl,F,hj,?_⟩)
   rw [if_neg (by exact WX _)]
   refine vF rfl gd T.ay T.dJ rfl ⟨nG,λt ht=>?_⟩
   have s1:=ax.laid (o:=.lst [.int ((aL A j).lo:Int)]) ht
   have sm:(aL A j).agreed.nums.length<=6:=by
    rw [(oA.F8 _ (Vx (ba hj))).len];exact oA.good.base.n6
   refine vF rfl (s1 _ _ gd) T.ay T.lL rfl ⟨L.da j,stI (aL A j).agreed,rfl,.inr (gg.of (by rw [<- fN];exact s1 _ _ D.F8)),by rw [mJ];lia,λH4 g s4 hg h4=>?_⟩
   refine ⟨t,g,_,xE rfl ⟨rfl,s4 _ _ ae,h4,by show 1+(VM V.int _).length<=sizeLine;rw [UT,Vj,mJ];lia,λe he=>?_⟩⟩
   exact k _ _ _ _ e (G.only (by rw [es]) ((s1.trans s4).trans (ax.laid he)) ((s1.trans s4).free he) (ns:=((aL A j).lo:Int)::(((stI (aL A j).agreed).length:Int)::stI (aL A j).agreed)) (by rw [es];exact (vG _ _).symm) (by rw [ae];rfl))
end
theorem yD (A:UQ) (t:Int):VB t 0 A.turns=l5 A t:=rfl
theorem px {A:UQ} {t:Int} (h:l5 A t=true):∃ m:Nat,t=(m:Int)/\m<=A.turns:=by
 unfold l5 at h
 rw [U6,decide_eq_true_eq,decide_eq_true_eq] at h
 exact ⟨t.toNat,by lia,by lia⟩
theorem cC {A:UQ} {t:Int} (h:bW A t=true):∃ m:Nat,t=(m:Int)/\m < A.hosts.length:=by
 unfold bW at h
 rw [U6,decide_eq_true_eq,decide_eq_true_eq] at h
 exact ⟨t.toNat,by lia,by lia⟩
theorem pR {h:UZ} {A:UQ} {i:Int} {f:UQ->Nat->UZ × VG} (eA:h.affair=some A) (hi:bW A i=false):V3 h i f=U7 h (-1):=by
 unfold V3 Wh
 rw [eA]
 show (if _ then _ else _)=_
 rw [if_neg]
 intro c
 rw [U6,decide_eq_true_eq,decide_eq_true_eq] at c
 unfold bW at hi
 rw [decide_eq_true c.1,decide_eq_true (show i < (A.hosts.length:Int) by lia)] at hi
 cases hi
theorem gZ {h:UZ} {A:UQ} {i:Nat} {f:UQ->Nat->UZ × VG} (eA:h.affair=some A) (hi:i < A.hosts.length):V3 h (i:Int) f=f A i:=by
 unfold V3 Wh
 rw [eA]
 show (if _ then _ else _)=_
 rw [if_pos]
 ·rfl
 ·rw [U6,decide_eq_true_eq,decide_eq_true_eq]
  exact ⟨by exact V7 _,by show ((i:Int)).toNat < _;assumption⟩
theorem yG {A:UQ} {N:Nat} {s:UU} (o:we A N) (hs:ir A.program A.begin_.nums.length s):s.nums.length<=6:=by
 rw [hs.len];exact o.good.base.n6
section
variable {P:Program} {w:World} {K:UR} {mg:Str->Option Value} {base:Heap} {a:bF}
abbrev zO (K:UR) (a:bF):Sp:=d8 K a (λxs rs c=>∃ z,xs=[z]/\c=.truth z) vj
theorem Ga (T:Txt K mg a):a7 P w K mg base eQ 5 a.ji a.lF ["bench","numbers","rows"] (zO K a):=by
 refine T.rF.ok zJ ki λcdv A outer s H vs Q E hr h0=>r9 h0 λbad be nm rw ln wd L h N xs ps rs c e G hc hW k=>?_
 ·subst e
  obtain ⟨z,rfl,rfl⟩:=hc
  obtain ⟨A,eA⟩:=hW
  refine ⟨_,(ah (aN (i:=3) zJ.nd rfl (Or.inl rfl) (ai (K:=K) (pv 0) rfl))
   (ah (bg (ia (bG (aI (pv 3) T.au T.j0 (sN (K:=K) T) hr.lo T.j1 .nil aE (aa (aJ (az (K:=K)) (pv 1) aw (λ_ _=>rfl)) aj)))) (ao (aB (aS (aa (aM (by rfl) T.bV) aj)))) aO)
   (ao (aB (b5 lZ (aS (aa (aJ (az (K:=K)) (pv 1) aw (λ_ _=>rfl)) aj)) (bC (eO (K:=K) T) hr.lo rfl T.dm T.cu.kp T.df .nil aE (aa (aI (ai (K:=K) (pv 3) rfl) T.m7 T.lh (qM (K:=K) T) hr.lo T.lz .nil aE (aa (aJ (az (K:=K)) (pv 1) aw (λ_ _=>rfl)) aj)) aj))))))),?_⟩
  have hz:=sizeLine_eq
  obtain ⟨dx,hbe⟩:=G.JA eA
  have F:=G.at_.ka A eA
  have oA:=G.ok.ka A eA
  obtain ⟨da,g1⟩:=F.af
  have es:U0 h (.truth z)=if l5 A z=false then U7 h (-1) else (h,{ value:=z,rows:=[WY (V1 A.program z.toNat A.begin_)] }):=by
   unfold U0 Wh
   rw [eA]
   rfl
  refine vF rfl hbe T.aP T.aF rfl ?_
  refine vM rfl g1 rfl (vI rfl (bc.of G.nums) (at_of (j:=0) rfl rfl) ⟨bad,L,A,z,rfl,F,xE rfl ?_⟩)
  show if (!l5 A z)=true then _ else _
  cases c1:l5 A z with
  | false =>
   rw [if_pos c1] at es
   exact bf ⟨nG,λc hc=>k _ _ _ _ c (G.refuse (ax.refl H) hc es)⟩
  | true =>
   rw [if_neg (by rw [c1];decide)] at es
   obtain ⟨m,rfl,hm⟩:=px c1
   refine bp (vI rfl (bc.of G.nums) (at_of (j:=0) rfl rfl) ⟨nG,λt ht=>?_⟩)
   have s1:=ax.laid (o:=.lst [.int (m:Int)]) ht
   have F1:=F.same s1
   obtain ⟨dr,g2⟩:=F1.run.run
   have nt:∀ r,Lv A r->t≠L.ad r:=λr hr z=>by obtain ⟨o,ho⟩:=F.there hr;rw [<- z,ht] at ho;cases ho
   refine DZ rfl (s1 _ _ g1) T.au T.gm rfl g2 rfl (vI rfl (bc.of (s1 _ _ G.nums)) (at_of (j:=0) rfl rfl) ?_)
   refine ⟨L.r,L.lo,L.ad .ls,L.os,L.ts,A.program,A.begin_,A.begin_.nums.length,m,rfl,F1.run,oA.good.base.prog,oA.good.base.n6,oA.good.base.vQ,U8 hm oA.t2,F.Nn,λH2 u ts' bt R2 hl2 hu=>?_⟩
   have F2:=F1.wD bt R2 hl2
   have S2:=(Step.same (L:=L) (A:=A) s1).trans (Step.wD (L:=L) (A:=A) (ts:=ts') bt)
   have ht2:H2 t=some (.lst [.int (m:Int)]):=bt _ _ ae (nt .ls trivial)
   have sm:=yG oA (A6 oA.good.base.vQ oA.good.base.prog.BR m)
   refine ⟨u,stI (V1 A.program m A.begin_),rfl,.inr (gg.of (by rw [<- fN];exact hu)),by rw [mJ];lia,λH4 g s4 hg h4=>?_⟩
   refine ⟨t,g,_,xE rfl ⟨rfl,s4 _ _ ht2,h4,by show 1+(VM V.int _).length<=sizeLine;rw [UT,Vj,mJ];lia,λe he=>?_⟩⟩
   have s5:=s4.trans (ax.laid (o:=.lst ([.int (m:Int)]++VM V.int (((stI (V1 A.program m A.begin_)).length:Int)::stI (V1 A.program m A.begin_)))) he)
   have he0:H e=none:=by
    cases q:H e with
    | none=>rfl
    | some o =>
     by_cases c:e=L.ad .ls
     ·have:=F2.run.ES
      rw [<- show L.ad .ls=({ L with ts:=ts' }:Lay).ad .ls from rfl,<- c] at this
      rw [s4 _ _ this] at he;cases he
     ·rw [s4 _ _ (bt _ _ (s1 _ _ q) c)] at he;cases he
   exact k _ _ _ _ e (G.ka eA (S2.trans (Step.same s5)) (F2.same s5) (by rw [es,Ab eA]) (G.fresh he0) (ns:=(m:Int)::(((stI (V1 A.program m A.begin_)).length:Int)::stI (V1 A.program m A.begin_))) (by rw [es];exact (vG _ _).symm) (by rw [ae];rfl))
def SK (t:Int):Option UU->List Int
 | none=>[-6]
 | some r=>t::(((stI r).length:Int)::stI r)
def zy (K:UR) (a:bF):Sp:=λvs H Q _=>∃ (t:Int) (v:V) (s:Option UU),vs=[.int t,v]/\kj H v s/\(∀ r,s=some r->r.nums.length<=6) /\
 ∀ (H':Hp) (c:Addr),ax H H'->H c=none->H' c=some (.lst ((SK t s).map V.int))->Q (.ref c) H'
theorem rn (T:Txt K mg a):a7 P w K mg base eQ 2 a.fI a.fP ["turn","state"] (zy K a):=by
 refine T.fR.ok zD ?_ ?_
 ·rintro _ _ _ _ ⟨_,_,_,rfl,_⟩
  rfl
 ·rintro cdv A outer s H _ Q E hr ⟨t,v,so,rfl,hv,hs,k⟩
  refine ⟨_,(ao (aB (ow (a8 vi (pv 1) ib (bo _)) (aS (aa (aM (by rfl) T.lG) aj)) (b5 lZ (aS (aa (pv 0) aj)) (bC (eO (K:=K) T) hr.lo rfl T.dm T.cu.kp T.df .nil aE (aa (pv 1) aj)))))),?_⟩
  have hz:=sizeLine_eq
  refine xE rfl ⟨rfl,xE rfl ?_⟩
  cases so with
  | none =>
   obtain rfl:v=.dF:=hv
   exact bf ⟨nG,λc hc=>k _ c (ax.laid hc) hc ae⟩
  | some r =>
   obtain ⟨u,rfl,hu⟩:=hv
   have sm:=hs r rfl
   refine bp (xE rfl ⟨nG,λc hc=>?_⟩)
   have s1:=ax.laid (o:=.lst [.int t]) hc
   refine xE rfl ⟨u,stI r,rfl,.inr (gg.of (by rw [<- fN];exact s1 _ _ hu)),by rw [mJ];lia,λH4 g s4 hg h4=>?_⟩
   refine ⟨c,g,_,xE rfl ⟨rfl,s4 _ _ ae,h4,by show 1+(VM V.int _).length<=sizeLine;rw [UT,Vj,mJ];lia,λe he=>?_⟩⟩
   exact k _ e ((s1.trans s4).trans (ax.laid he)) ((s1.trans s4).free he) (by rw [ae];rfl)
abbrev zN (K:UR) (a:bF):Sp:=d8 K a (λxs rs c=>∃ i z,xs=[i,z]/\c=.heard i z) vj
theorem K7 (h:UZ) (t:Int) (s:Option UU) {r:UZ × VG} (e:r=match s with | none=>U7 h (-6) | some s=>(h,{ value:=t,rows:=[WY s] })):r.1=h/\SK t s=uM r.2:=by
 rw [e]
 cases s with
 | none=>exact ⟨rfl,rfl⟩
 | some s=>exact ⟨rfl,(vG _ _).symm⟩
theorem Gh (T:Txt K mg a):a7 P w K mg base eQ 3 a.jh a.lU ["bench","numbers","rows"] (zN K a):=by
 refine T.rN.ok zH ki λcdv A outer s H vs Q E hr h0=>r9 h0 λbad be nm rw ln wd L h N xs ps rs c e G hc hW k=>?_
 ·subst e
  obtain ⟨i,z,rfl,rfl⟩:=hc
  obtain ⟨A,eA⟩:=hW
  refine ⟨_,(ah (aN (i:=3) zH.nd rfl (Or.inl rfl) (ai (K:=K) (pv 0) rfl))
   (ah (bg (ia (bG (aI (pv 3) T.au T.bq (bP (K:=K) T) hr.lo T.bx .nil aE (aa (aJ (az (K:=K)) (pv 1) aw (λ_ _=>rfl)) (aa (aJ (az (K:=K)) (pv 1) aw (λ_ _=>rfl)) aj))))) (ao (aB (aS (aa (aM (by rfl) T.bV) aj)))) aO)
   (ao (aB (bC (rn (K:=K) T) hr.lo rfl T.i9 T.fR.kp T.jw .nil aE (aa (aJ (az (K:=K)) (pv 1) aw (λ_ _=>rfl)) (aa (aI (pv 3) T.au T.dS (fQ (K:=K) T) hr.lo T.dP .nil aE (aa (aJ (az (K:=K)) (pv 1) aw (λ_ _=>rfl)) (aa (aJ (az (K:=K)) (pv 1) aw (λ_ _=>rfl)) aj))) aj))))))),?_⟩
  have hz:=sizeLine_eq
  obtain ⟨dx,hbe⟩:=G.JA eA
  have F:=G.at_.ka A eA
  have oA:=G.ok.ka A eA
  obtain ⟨da,g1⟩:=F.af
  refine vF rfl hbe T.aP T.aF rfl ?_
  refine vM rfl g1 rfl (vI rfl (bc.of G.nums) (at_of (j:=0) rfl rfl) (vI rfl (bc.of G.nums) (at_of (j:=1) rfl rfl) ⟨bad,L,A,i,z,rfl,F,xE rfl ?_⟩))
  have ref:(bW A i&&l5 A z)=false->U0 h (.heard i z)=U7 h (-1):=λc=>by
   rw [JZ]
   cases c1:bW A i with
   | false=>exact pR eA c1
   | true =>
    rw [c1,Wg] at c
    obtain ⟨j,rfl,hj⟩:=cC c1
    exact (gZ eA hj).trans (if_pos (show VB z 0 A.turns=false from c))
  cases c:(bW A i&&l5 A z) with
  | false=>exact bf ⟨nG,λc' hc=>k _ _ _ _ c' (G.refuse (ax.refl H) hc (ref c))⟩
  | true =>
   rw [U6] at c
   obtain ⟨j,rfl,hj⟩:=cC c.1
   obtain ⟨m,rfl,hm⟩:=px c.2
   have es:U0 h (.heard (j:Int) (m:Int))=match UY A j m with | none=>U7 h (-6) | some s=>(h,{ value:=(m:Int),rows:=[WY s] }):=by
    exact (JZ ..).trans <| (gZ eA hj).trans (if_neg (show ¬ VB (m:Int) 0 A.turns=false by rw [yD,c.2];decide))
   obtain ⟨e1,e2⟩:=K7 h _ _ es
   refine bp (vI rfl (bc.of G.nums) (at_of (j:=1) rfl rfl) (vM rfl g1 rfl (vI rfl (bc.of G.nums) (at_of (j:=0) rfl rfl) (vI rfl (bc.of G.nums) (at_of (j:=1) rfl rfl) ⟨bad,L,A,j,m,rfl,F,hj,oA.good.base.once,λv hv=>?_⟩))))
   refine ⟨(m:Int),v,UY A j m,rfl,hv,λr hr=>?_,λH' c' s' hc' ht=>k _ _ _ _ c' (G.only e1 s' hc' e2 ht)⟩
   obtain ⟨x,hx,rfl⟩:=qk hr
   exact yG oA (oA.good.cn x hx)
end
theorem Oe {H H1:Hp} {l e:Addr} {o:HO} (bt:R9 l H H1) (hl:H1 l=some o) (h:H1 e=none):H e=none:=by
 cases q:H e with
 | none=>rfl
 | some u =>
  by_cases c:e=l
  ·rw [c,hl] at h;cases h
  ·rw [bt _ _ q c] at h;cases h
theorem IM {A:UQ} {g:Tl} {i t:Nat} (h:TB g (US A i).bent):IQ g A.program A.begin_ t=V4 A i t:=by
 have e:=h.says t
 unfold IQ V4
 cases q:dw g t with
 | none =>
  rw [q] at e
  have:(US A i).bent.find? (λb=>b.turn == t)=none:=by simpa using e
  rw [this]
 | some l =>
  rw [q] at e
  have hl:=(h.is t l q).1
  cases q2:l.getLast? with
  | none=>exact absurd (List.getLast?_eq_none_iff.mp q2) hl
  | some x =>
   have e:((US A i).bent.find? (λb=>b.turn == t)).map (·.says)=some x:=by rw [e];exact q2
   cases q3:(US A i).bent.find? (λb=>b.turn == t) with
   | none=>rw [q3] at e;cases e
   | some b =>
    rw [q3] at e
    cases e
    show (l.getLast?).getD none=b.says
    rw [q2]
    rfl
theorem Ox:∀ {g:Tl},(g.map (·.1)).Nodup->∀ p∈g,dw g p.1=some p.2
 | p::r,h,q,hq=>by
  obtain ⟨h1,h2⟩:=V9.mp h
  unfold dw
  rw [Vy]
  rcases U4.mp hq with rfl | hq
  ·simp
  ·have:¬ p.1=q.1:=λz=>h1 (Vb.mpr ⟨q,hq,z.symm⟩)
   simp only [this,decide_false]
   exact Ox h2 q hq
theorem Eo:∀ {g:Tl},(∀ p∈g,p.2≠[])->g.length<=rA g
 | [],_=>Vt _
 | p::r,h=>by
  have ih:=Eo (g:=r) λq hq=>h q (Vl _ hq)
  have h1:0 < p.2.length:=List.length_pos_iff.mpr (h p (Vi ..))
  unfold rA at ih ⊢
  rw [Vc,Wo,Vj]
  lia
theorem TB.Pt {g:Tl} {b:List VF} (h:TB g b):g.length<=b.length:=by
 rw [<- h.sum]
 exact Eo λp hp=>(h.is p.1 p.2 (Ox h.nd p hp)).1
theorem JW (A:UQ):A.disputes=(List.range A.disputes.length).map (aL A):=by
 refine List.ext_getElem? λi=>?_
 rw [Vw]
 by_cases hi:i < A.disputes.length
 ·rw [WR hi,ba hi];rfl
 ·rw [Wf (by exact We.mp ‹_›),Wf (by rw [VA];exact We.mp ‹_›)];rfl
theorem Mm (A:UQ) (n:Nat):Vbapaj.openOf A n=(j7 A n).length:=by
 unfold Vbapaj.openOf j7
 conv=>lhs;rw [JW A]
 rw [List.filter_map,UT]
 rfl
theorem Pd (A:UQ):(A.disputes.filter U2).length=(oy A).length:=by
 unfold oy
 conv=>lhs;rw [JW A]
 rw [List.filter_map,UT]
 rfl
theorem Ls (A:UQ):Vbapaj.ends A=(Iv A).map λi=>(i,UY A i A.turns):=by
 unfold Vbapaj.ends Iv
 congr 1
 refine List.filter_congr λi hi=>?_
 unfold Vbapaj.isIn
 rw [decide_eq_true (Vq.mp hi),Wg]
section
variable {P:Program} {w:World} {K:UR} {mg:Str->Option Value} {base:Heap} {a:bF}
abbrev Bc (K:UR) (a:bF):Sp:=d8 K a (λxs rs c=>∃ i z,xs=[i,z]/\c=.says i z) vj
theorem Iu (T:Txt K mg a):a7 P w K mg base eQ 6 a.kP a.nq ["bench","numbers","rows"] (Bc K a):=by
 refine T.uB.ok wy ki λcdv A outer s H vs Q E hr h0=>r9 h0 λbad be nm rw ln wd L h N xs ps rs c e G hc hW k=>?_
 ·subst e
  obtain ⟨i,z,rfl,rfl⟩:=hc
  obtain ⟨A,eA⟩:=hW
  refine ⟨_,(ah (aN (i:=3) wy.nd rfl (Or.inl rfl) (ai (K:=K) (pv 0) rfl))
   (ah (bg (ia (bG (aI (pv 3) T.au T.bq (bP (K:=K) T) hr.lo T.bx .nil aE (aa (aJ (az (K:=K)) (pv 1) aw (λ_ _=>rfl)) (aa (aJ (az (K:=K)) (pv 1) aw (λ_ _=>rfl)) aj))))) (ao (aB (aS (aa (aM (by rfl) T.bV) aj)))) aO)
   (ah (aN (i:=4) wy.nd rfl (Or.inl rfl) (aJ (az (K:=K)) (ai (K:=K) (pv 3) rfl) (aJ (az (K:=K)) (pv 1) aw (λ_ _=>rfl)) (λ_ _=>rfl)))
   (ao (aB (bC (rn (K:=K) T) hr.lo rfl T.i9 T.fR.kp T.jw .nil aE (aa (aJ (az (K:=K)) (pv 1) aw (λ_ _=>rfl)) (aa (aI (pv 4) T.bK T.uD (Bu (K:=K) T) hr.lo T.uo .nil aE (aa (aJ (az (K:=K)) (pv 1) aw (λ_ _=>rfl)) (aa (ai (K:=K) (pv 3) rfl) aj))) aj)))))))),?_⟩
  have hz:=sizeLine_eq
  obtain ⟨dx,hbe⟩:=G.JA eA
  have F:=G.at_.ka A eA
  have oA:=G.ok.ka A eA
  obtain ⟨da,g1⟩:=F.af
  refine vF rfl hbe T.aP T.aF rfl ?_
  refine vM rfl g1 rfl (vI rfl (bc.of G.nums) (at_of (j:=0) rfl rfl) (vI rfl (bc.of G.nums) (at_of (j:=1) rfl rfl) ⟨bad,L,A,i,z,rfl,F,xE rfl ?_⟩))
  have ref:(bW A i&&l5 A z)=false->U0 h (.says i z)=U7 h (-1):=λc=>by
   rw [Ld]
   cases c1:bW A i with
   | false=>exact pR eA c1
   | true =>
    rw [c1,Wg] at c
    obtain ⟨j,rfl,hj⟩:=cC c1
    exact (gZ eA hj).trans (if_pos (show VB z 0 A.turns=false from c))
  cases c:(bW A i&&l5 A z) with
  | false=>exact bf ⟨nG,λc' hc=>k _ _ _ _ c' (G.refuse (ax.refl H) hc (ref c))⟩
  | true =>
   rw [U6] at c
   obtain ⟨j,rfl,hj⟩:=cC c.1
   obtain ⟨m,rfl,hm⟩:=px c.2
   have es:U0 h (.says (j:Int) (m:Int))=match V4 A j m with | none=>U7 h (-6) | some s=>(h,{ value:=(m:Int),rows:=[WY s] }):=by
    exact (Ld ..).trans <| (gZ eA hj).trans (if_neg (show ¬ VB (m:Int) 0 A.turns=false by rw [yD,c.2];decide))
   obtain ⟨e1,e2⟩:=K7 h _ _ es
   obtain ⟨dh,g2⟩:=F.host j hj
   obtain ⟨ft,tb⟩:=F.tell j hj
   refine bp (vF rfl g1 T.au T.bw rfl (vI rfl (bc.of G.nums) (at_of (j:=0) rfl rfl) (iE (bc.of F.hl) (at_of (j:=j) rfl (lx hj)) ?_)))
   refine vI rfl (bc.of G.nums) (at_of (j:=1) rfl rfl) (vM rfl g2 rfl (vI rfl (bc.of G.nums) (at_of (j:=1) rfl rfl) (vF rfl g1 T.au T.gm rfl ?_)))
   refine ⟨L.ad (.host j),L.ad (.tell j),L.ad (.qa j),L.r,L.lo,L.ad .ls,L.os,L.ts,_,_,m,A.begin_.nums.length,_,L.tl j,A.program,A.begin_,rfl,⟨dh,g2⟩,ft,λl hl=>(tb.is m l hl).1,F.run,oA.good.base.prog,oA.good.base.n6,oA.good.base.vQ,U8 hm oA.t2,F.Nn,λH2 v ts' bt R2 hl2 hv=>?_⟩
   rw [IM tb] at hv
   have F2:=F.wD bt R2 hl2
   refine ⟨(m:Int),v,V4 A j m,rfl,hv,λr hr=>yG oA (Gw oA hj hr),λH' c' s' hc' ht=>k _ _ _ _ c' (G.ka eA ((Step.wD (L:=L) (A:=A) (ts:=ts') bt).trans (Step.same s')) (F2.same s') (by rw [e1,Ab eA]) (G.fresh (Oe bt F2.run.ES hc')) e2 ht)⟩
abbrev A4 (K:UR) (a:bF):Sp:=d8 K a (λxs rs c=>∃ i,xs=[i]/\c=.host i) vj
theorem Ia (T:Txt K mg a):a7 P w K mg base eQ 4 a.kL a.m9 ["bench","numbers","rows"] (A4 K a):=by
 refine T.uu.ok oX ki λcdv A outer s H vs Q E hr h0=>r9 h0 λbad be nm rw ln wd L h N xs ps rs c e G hc hW k=>?_
 ·subst e
  obtain ⟨i,rfl,rfl⟩:=hc
  obtain ⟨A,eA⟩:=hW
  refine ⟨_,(ah (aN (i:=3) oX.nd rfl (Or.inl rfl) (ai (K:=K) (pv 0) rfl))
   (ah (aN (i:=4) oX.nd rfl (Or.inl rfl) (aJ (az (K:=K)) (pv 1) aw (λ_ _=>rfl)))
   (ah (bg (ia (bG (aI (pv 3) T.au T.di (fU (K:=K) T) hr.lo T.cV .nil aE (aa (pv 4) aj)))) (ao (aB (aS (aa (aM (by rfl) T.bV) aj)))) aO)
   (ah (aN (i:=5) oX.nd rfl (Or.inl rfl) (aJ (az (K:=K)) (ai (K:=K) (pv 3) rfl) (pv 4) (λ_ _=>rfl)))
   (ah (aN (i:=6) oX.nd rfl (Or.inl rfl) (aS (aa (ai (K:=K) (pv 5) rfl) (aa (bC (BL (K:=K) T) hr.lo rfl T.tS T.qj.kp T.tT .nil aE (aa (ai (K:=K) (pv 5) rfl) aj)) (aa (b0 (pv 5) T.bK T.dY (jW (K:=K) T) hr.lo T.d9 .nil aE) aj)))))
   (ao (aB (b5 lZ (pv 6) (aS (aa (ug (mF hr) (ai (K:=K) (ai (K:=K) (pv 3) rfl) rfl) (pv 4) (λ_ _=>rfl)) (aa (aT (a6 (K:=K)) (by rfl) T.dM Vd (aa (aI (pv 3) T.au T.b3 (fF (K:=K) T) hr.lo T.bZ .nil aE (aa (pv 4) aj)) aj)) aj))))))))))),?_⟩
  have hz:=sizeLine_eq
  obtain ⟨dx,hbe⟩:=G.JA eA
  have F:=G.at_.ka A eA
  have oA:=G.ok.ka A eA
  have hN:=G.n
  obtain ⟨da,g1⟩:=F.af
  refine vF rfl hbe T.aP T.aF rfl ?_
  refine vI rfl (bc.of G.nums) (at_of (j:=0) rfl rfl) ?_
  refine vM rfl g1 rfl (xE rfl ⟨bad,L,A,i,rfl,F,xE rfl ?_⟩)
  show if (!bW A i)=true then _ else _
  cases c:bW A i with
  | false=>exact bf ⟨nG,λc' hc=>k _ _ _ _ c' (G.refuse (ax.refl H) hc ((LX ..).trans (pR eA c)))⟩
  | true =>
   obtain ⟨j,rfl,hj⟩:=cC c
   have es:=(LX h (j:Int)).trans (gZ eA hj)
   obtain ⟨dh,g2⟩:=F.host j hj
   obtain ⟨ft,tb⟩:=F.tell j hj
   have bl:=(oA.bent j hj).1
   refine bp (vF rfl g1 T.au T.bw rfl (xE rfl (iE (bc.of F.hl) (at_of (j:=j) rfl (lx hj)) ?_)))
   refine vF rfl g2 T.bK T.dQ rfl (vF rfl g2 T.bK T.mY rfl (xE rfl (vM rfl g2 rfl ⟨L.ad (.host j),L.ad (.tell j),L.ad (.qa j),_,_,_,L.tl j,rfl,⟨dh,g2⟩,ft,by have:=tb.Pt;lia,λH1 s1=>⟨Sb,λt ht=>?_⟩⟩)))
   have s2:=s1.trans (ax.laid (o:=.lst [.int ((US A j).stake:Int),.int ((Vbapaj.natOf (US A j).out:Nat):Int),.int ((rA (L.tl j):Nat):Int)]) ht)
   have F2:=F.same s2
   obtain ⟨⟨dop,g3⟩,_,kvs,g4,hD⟩:=F2.op
   have hjs:j < A.saidTo.length:=by rw [oA.Ge];exact hj
   refine xE rfl (vF rfl (s2 _ _ g1) T.au T.lD rfl (fE g3 T.eG T.qO rfl (xE rfl (dE (by have:=lH.k (k:=Sum.inl (j:Int)) g4;rw [J3 hD hjs] at this;exact this) ?_))))
   refine vM rfl (s2 _ _ g1) rfl (xE rfl ⟨bad,L,A,j,rfl,F2,by have:=oA.dl;lia,λH3 c s3 hc h3=>⟨c,xE rfl ⟨.inl (bc.of h3),O8,λf hf=>?_⟩⟩⟩)
   have s4:=(s2.trans s3)
   refine ⟨t,f,_,xE rfl ⟨rfl,by rw [ak (aC (s3 _ _ ae) hf)];exact s3 _ _ ae,ae,by show 3+2<=sizeLine;decide,λe he=>?_⟩⟩
   have s5:=s4.trans (ax.laid (o:=.lst [.int ((A.saidTo.getD j 0:Nat):Int),.int ((rq L (j7 A j)).length:Int)]) hf)
   refine k _ _ _ _ e (G.only (by rw [es]) (s5.trans (ax.laid he)) (s5.free he) (ns:=((US A j).stake:Int)::Vbapaj.ints [Vbapaj.natOf (US A j).out,(US A j).bent.length,A.saidTo.getD j 0,Vbapaj.openOf A j]) (by rw [es];unfold uM;simp) ?_)
   rw [ae,Mm,tb.sum]
   unfold rq
   rw [UT]
   rfl
abbrev yP (K:UR) (a:bF):Sp:=d8 K a (λxs rs c=>c=.affair) vj
theorem EO (T:Txt K mg a):a7 P w K mg base eQ 3 a.gW a.jN ["bench","numbers","rows"] (yP K a):=by
 refine T.p8.ok tM ki λcdv A outer s H vs Q E hr h0=>r9 h0 λbad be nm rw ln wd L h N xs ps rs c e G hc hW k=>?_
 ·subst e
  obtain rfl:=hc
  obtain ⟨A,eA⟩:=hW
  refine ⟨_,(ah (aN (i:=3) tM.nd rfl (Or.inl rfl) (ai (K:=K) (pv 0) rfl))
   (ah (aN (i:=4) tM.nd rfl (Or.inl rfl) (aS (aa (ai (K:=K) (pv 3) rfl) (aa (ai (K:=K) (pv 3) rfl) (aa (aT (a6 (K:=K)) (by rfl) T.dM Vd (aa (ai (K:=K) (pv 3) rfl) aj)) (aa (aT (a6 (K:=K)) (by rfl) T.dM Vd (aa (b0 (pv 3) T.au T.jY (sF (K:=K) T) hr.lo T.j4 .nil aE) aj)) aj))))))
   (ah (bQ (zR (K:=K) WT PySem.F.slot_list_extend PySem.F.type_list_extend CB (pv 4) (aa (aS (aa (aT (a6 (K:=K)) (by rfl) T.dM Vd (aa (ai (K:=K) (pv 3) rfl) aj)) (aa (aT (a6 (K:=K)) (by rfl) T.dM Vd (aa (b0 (pv 3) T.au T.fg (nj (K:=K) T) hr.lo T.fc .nil aE) aj)) (aa (ai (K:=K) (ai (K:=K) (pv 3) rfl) rfl) aj)))) aj)))
   (ao (aB (b5 lZ (pv 4) (aS (aa (ai (K:=K) (pv 3) rfl) (aa (bC (BL (K:=K) T) hr.lo rfl T.tS T.qj.kp T.tT .nil aE (aa (ai (K:=K) (pv 3) rfl) aj)) (aa (b0 (pv 3) T.au T.iD (vB (K:=K) T) hr.lo T.iJ .nil aE) aj)))))))))),?_⟩
  have hz:=sizeLine_eq
  obtain ⟨dx,hbe⟩:=G.JA eA
  have F:=G.at_.ka A eA
  have oA:=G.ok.ka A eA
  have hN:=G.n
  have h6:=oA.h2
  have hdl:=oA.dl
  obtain ⟨da,g1⟩:=F.af
  have es:=(Mt h).trans (ik eA)
  refine vF rfl hbe T.aP T.aF rfl ?_
  refine vF rfl g1 T.au T.fC rfl (vF rfl g1 T.au T.et rfl (vF rfl g1 T.au T.bw rfl ⟨L.hl,xE rfl ⟨.inl (bc.of F.hl),?_⟩⟩))
  refine vM rfl g1 rfl ⟨bad,L,A,rfl,F,by lia,λH1 c1 s1 hc1 h1=>⟨c1,xE rfl ⟨.inl (bc.of h1),T7,λt ht=>?_⟩⟩⟩
  have F1:=F.same s1
  generalize hT:(HO.lst [V.int (A.turns:Int),V.int (A.mayLose:Int),V.int ((VM (λi=>V.ref (L.ad (.host i))) (List.range A.hosts.length)).length:Int),V.int ((VM (λi=>V.ref (L.ad (.host i))) (Iv A)).length:Int)])=oT
  have s2:=s1.trans (ax.laid (o:=oT) ht)
  have F2:=F.same s2
  refine xE rfl ⟨.inl ⟨rfl,_,bc.of (by rw [ae,<- hT])⟩,?_⟩
  refine vF rfl (s2 _ _ g1) T.au T.bO rfl ⟨L.ad .dl,xE rfl ⟨.inl (bc.of F2.dl),?_⟩⟩
  refine vM rfl (s2 _ _ g1) rfl ⟨bad,L,A,rfl,F2,by lia,λH3 c3 s3 hc3 h3=>⟨c3,xE rfl ⟨.inl (bc.of h3),?_⟩⟩⟩
  have s4:=s2.trans s3
  have F3:=F.same s4
  obtain ⟨⟨dop,g3⟩,_⟩:=F3.op
  refine vF rfl (s4 _ _ g1) T.au T.lD rfl (fE g3 T.eG T.tL rfl ⟨Sb,λf hf=>?_⟩)
  have ht3:H3 t=some oT:=s3 _ _ ae
  refine ⟨t,f,_,xE rfl ⟨rfl,by rw [ak (aC ht3 hf),ht3,<- hT],ae,by show 4+3<=sizeLine;decide,?_⟩⟩
  have ht0:H t=none:=s1.free ht
  have s5:∀ o1 o2,ax H (upd (upd H3 f o1) t o2):=λo1 o2=>cO (s4.trans (ax.laid hf)) ht0
  generalize hE:upd (upd H3 f _) t _=H5
  have s6:ax H H5:=by rw [<- hE];exact s5 _ _
  have ht5:=congrFun hE t
  rw [ae] at ht5
  have F5:=F.same s6
  refine xE rfl (vF rfl (s6 _ _ g1) T.au T.nS rfl (vF rfl (s6 _ _ g1) T.au T.cz rfl (xE rfl (vM rfl (s6 _ _ g1) rfl ⟨bad,L,A,rfl,F5,by lia,λH6 s7=>⟨Sb,λg hg=>?_⟩⟩))))
  refine ⟨t,g,_,xE rfl ⟨rfl,by rw [ak (aC (s7 _ _ ht5.symm) hg)];exact s7 _ _ ht5.symm,ae,by show 7+3<=sizeLine;decide,λe he=>?_⟩⟩
  have s8:=(s6.trans s7).trans (ax.laid (o:=.lst [V.int (A.purse:Int),V.int ((Vbapaj.natOf A.found.isSome:Nat):Int),V.int (BW A A.hosts.length).sum]) hg)
  refine k _ _ _ _ e (G.only (by rw [es]) (s8.trans (ax.laid he)) (s8.free he) (ns:=(A.turns:Int)::Vbapaj.ints [A.mayLose,A.hosts.length,(Vbapaj.ends A).length,A.disputes.length,(A.disputes.filter U2).length,A.lost,A.purse,Vbapaj.natOf A.found.isSome,A.heard.length]) (by rw [es];unfold uM;simp) ?_)
  rw [ae,Mo A _ oA.hb,Pd,Ls]
  unfold rq
  simp only [UT,VA]
  rfl
abbrev A0 (K:UR) (a:bF):Sp:=d8 K a (λxs rs c=>∃ l,rs=[l]/\c=.work l) vj
theorem HE (T:Txt K mg a):a7 P w K mg base eQ 4 a.kO a.nA ["bench","numbers","rows"] (A0 K a):=by
 refine T.ur.ok Bj ki λcdv A outer s H vs Q E hr h0=>r9 h0 λbad be nm rw ln wd L h N xs ps rs c e G hc hW k=>?_
 ·subst e
  obtain ⟨l,rfl,rfl⟩:=hc
  obtain ⟨A,eA⟩:=hW
  refine ⟨_,(ah (aN (i:=3) Bj.nd rfl (Or.inl rfl) (ai (K:=K) (ai (K:=K) (pv 0) rfl) rfl))
   (ah (bg (ia (bG (aI (pv 3) T.m7 T.oj (xi (K:=K) T) hr.lo T.oE .nil aE (aa (aJ (az (K:=K)) (pv 2) aw (λ_ _=>rfl)) aj)))) (ao (aB (aS (aa (aM (by rfl) T.bV) aj)))) aO)
   (ao (aB (b5 lZ (aS (aa aw aj)) (bC (eO (K:=K) T) hr.lo rfl T.dm T.cu.kp T.df .nil aE (aa (aI (pv 3) T.m7 T.fu (l7 (K:=K) T) hr.lo T.fW .nil aE (aa (gb (vD (K:=K)) (by rfl) T.zo jR (aa (aJ (az (K:=K)) (pv 2) aw (λ_ _=>rfl)) aj)) aj)) aj))))))),?_⟩
  have hz:=sizeLine_eq
  obtain ⟨dx,hbe⟩:=G.JA eA
  have F:=G.at_.ka A eA
  have oA:=G.ok.ka A eA
  obtain ⟨da,g1⟩:=F.af
  obtain ⟨dr,g2⟩:=F.run.run
  have hrow:=G.row
  have hrows:=G.rows
  have hl:=G.Po l (UX.mpr rfl)
  cases hrow with
  | cons hp0 hnil =>
   rename_i p0 pr
   cases hnil
   obtain ⟨r1,r2⟩:=Es (A:=A) (ns:=l) oA.good.base.prog.pos oA.good.base.vQ.pos
   have es:=(Qb h l).trans (ik eA)
   refine vF rfl hbe T.aP T.aF rfl (fE g1 T.au T.gm rfl ?_)
   refine vM rfl g2 rfl (vI rfl (bc.of hrows) (at_of (j:=0) rfl rfl) ⟨L.r,L.lo,L.ad .ls,p0,L.os,L.ts,A.program,A.begin_,l,rfl,F.run,bc.of hp0,hl,λH1 s1=>xE rfl ?_⟩)
   cases c:F9 A.program.length A.begin_.nums.length l with
   | false =>
    rw [r2 c] at es
    exact bf ⟨nG,λc' hc=>k _ _ _ _ c' (G.refuse s1 hc es)⟩
   | true =>
    obtain ⟨s0,e1,e2,e3⟩:=r1 c
    rw [e1] at es
    refine bp ⟨nG,λt ht=>?_⟩
    have s2:=s1.trans (ax.laid (o:=.lst [.int 0]) ht)
    refine vM rfl (s2 _ _ g2) rfl (vI rfl (bc.of (s2 _ _ hrows)) (at_of (j:=0) rfl rfl) ⟨p0,xE rfl (.inl ⟨bc.of (s2 _ _ hp0),λu hu=>?_⟩)⟩)
    have s3:=s2.trans (ax.laid (o:=.tup (l.map V.int)) hu)
    refine ⟨L.r,L.lo,L.ad .ls,u,L.os,L.ts,A.program,A.begin_,s0,A.begin_.nums.length,rfl,(F.same s3).run,oA.good.base.prog,oA.good.base.n6,e2,gg.of (by rw [ae,e3]),λH4 v s4 hv0 hv=>?_⟩
    have sm:=yG oA (Lp e2 oA.good.base.prog.BR)
    have ht4:H4 t=some (.lst [.int 0]):=s4 _ _ (by rw [ak (aC ae hu)];exact ae)
    refine ⟨v,stI (Wb A.program s0),rfl,.inr (gg.of (by rw [<- fN];exact hv)),by rw [mJ];lia,λH5 g s5 hg h5=>?_⟩
    refine ⟨t,g,_,xE rfl ⟨rfl,s5 _ _ ht4,h5,by show 1+(VM V.int _).length<=sizeLine;rw [UT,Vj,mJ];lia,λe he=>?_⟩⟩
    have s6:=(s3.trans s4).trans s5
    exact k _ _ _ _ e (G.only (by rw [es]) (s6.trans (ax.laid he)) (s6.free he) (ns:=(0:Int)::(((stI (Wb A.program s0)).length:Int)::stI (Wb A.program s0))) (by rw [es];exact (vG _ _).symm) (by rw [ae];rfl))
end
def A5 (A:UQ) (i:Nat) (l:List VF):UQ:=VJ A i { US A i with bent:=l }
theorem Cb (A:UQ) (i:Nat) (l:List VF):(A5 A i l).hosts.length=A.hosts.length:=Vs ..
def Lay.PV (L:Lay) (i:Nat) (g:Tl):Lay:={ L with tl:=λx=>if x=i then g else L.tl x }
section
variable {a:bF} {bad:List Addr} {H H':Hp} {L:Lay} {A:UQ}
theorem aH.BH {i:Nat} {g:Tl} {l:List VF} (F:aH a bad H L A) (hi:i < A.hosts.length) (k:Keeps [L.ad (.tell i)] H H') (ht:uP (L.ad .ls::L.ad .dl::bad) H' (L.ad (.tell i)) g) (tb:TB g l):aH a bad H' (L.PV i g) (A5 A i l):=by
 have hrs:∀ x∈[Role.tell i],Lv A x:=λx hx=>by rw [UX.mp hx];exact hi
 have k':Keeps ([Role.tell i].map L.ad) H H':=k
 have hl:=Cb A i l
 have hh:∀ j,US (A5 A i l) j=if j=i then { US A i with bent:=l } else US A j:=λj=>kK hi
 refine ⟨λr r' hr hr' e=>F.inj r r' (by rw [hl] at hr;exact hr) (by rw [hl] at hr';exact hr') e,F.RE hrs k' (by simp),F.runK hrs k' (by simp),F.Nn,by rw [hl];exact F.Qp hrs k',λj hj=>?_,λj hj=>?_,λj hj=>?_,F.RZ hrs k' (by simp) (by simp),F.Rn hrs k' (by simp),λj d hj=>F.Di hrs k' hj (by simp) (by simp),F.N4,F.NA,by rw [hl];exact F.Ge⟩
 ·rw [hl] at hj
  have:=F.EY hrs k' hj (by simp)
  rw [hh]
  by_cases c:j=i
  ·rw [if_pos c];rw [c] at this ⊢;exact this
  ·rw [if_neg c];exact this
 ·rw [hl] at hj
  rw [hh]
  show uP (L.ad .ls::L.ad .dl::bad) H' (L.ad (.tell j)) (if j=i then g else L.tl j)/\TB (if j=i then g else L.tl j) _
  by_cases c:j=i
  ·rw [if_pos c,if_pos c,c];exact ⟨ht,tb⟩
  ·rw [if_neg c,if_neg c];exact ⟨F.De hrs k' hj (by simp [c]),(F.tell j hj).2⟩
 ·rw [hl] at hj
  exact F.Jb hrs k' hj (by simp)
theorem Step.BH {i:Nat} {g:Tl} {l:List VF} (hi:i < A.hosts.length) (k:Keeps [L.ad (.tell i)] H H'):Step H L A H' (L.PV i g) (A5 A i l) :=
 { Step.refl H L A with keep:=λb o e n=>k b o e λm=>n (.tell i) hi (UX.mp m),old:=λr hr=>.inl ⟨r,by have hr:FV (A5 A i l).hosts.length A.disputes.length r:=hr;rw [Cb] at hr;exact hr,rfl⟩,hl:=Cb A i l }
end
section
variable {P:Program} {w:World} {K:UR} {mg:Str->Option Value} {base:Heap} {a:bF}
def PK (K:UR) (a:bF):Sp:=λvs H Q _=>∃ (bad:List Addr) (L:Lay) (A:UQ) (nm:Addr) (j m:Nat) (v:V) (s:Option UU),vs=[.ref (L.ad .af),.ref nm,v]/\aH a bad H L A/\H nm=some (.lst [.int (j:Int),.int (m:Int)])/\j < A.hosts.length/\(US A j).bent.length<=400/\kj H v s/\(∀ x∈bad,H x≠none) /\
 ∀ (H':Hp) (L':Lay) (c:Addr),Step H L A H' L' (A5 A j ({ turn:=m,says:=s }::(US A j).bent))->aH a bad H' L' (A5 A j ({ turn:=m,says:=s }::(US A j).bent))->H c=none->H' c=some (.lst [.int ((({ turn:=m,says:=s }:VF)::(US A j).bent).length:Int)])->Q (.ref c) H'
theorem EC {H H1:Hp} {l e:Addr} {o:HO} (kp:Keeps [l] H H1) (hl:H1 l=some o) (h:H1 e=none):H e=none:=kp.free h λm=>by rw [UX.mp m,hl] at h;cases h
theorem Lr (T:Txt K mg a):a7 P w K mg base eQ 2 a.Et a.Fs ["affair","numbers","state"] (PK K a):=by
 refine T.Ei.ok Lw ?_ ?_
 ·rintro _ _ _ _ ⟨_,_,_,_,_,_,_,_,rfl,_⟩
  rfl
 ·rintro cdv A outer s H _ Q E hr ⟨bad,L,A,nm,j,m,v,so,rfl,F,hnm,hj,hb,hv,hbad,k⟩
  refine ⟨_,(ah (aN (i:=3) Lw.nd rfl (Or.inl rfl) (aJ (az (K:=K)) (ai (K:=K) (pv 0) rfl) (aJ (az (K:=K)) (pv 1) aw (λ_ _=>rfl)) (λ_ _=>rfl)))
   (ah (bQ (aI (pv 3) T.bK T.xT (Hw (K:=K) T) hr.lo T.yT .nil aE (aa (aJ (az (K:=K)) (pv 1) aw (λ_ _=>rfl)) (aa (pv 2) aj))))
   (ao (aB (aS (aa (b0 (pv 3) T.bK T.dY (jW (K:=K) T) hr.lo T.d9 .nil aE) aj)))))),?_⟩
  obtain ⟨da,g1⟩:=F.af
  obtain ⟨dh,g2⟩:=F.host j hj
  obtain ⟨ft,tb⟩:=F.tell j hj
  refine vF rfl g1 T.au T.bw rfl (vI rfl (bc.of hnm) (at_of (j:=0) rfl rfl) (iE (bc.of F.hl) (at_of (j:=j) rfl (lx hj)) ?_))
  have gl:=tb.Pt
  refine vM rfl g2 rfl (vI rfl (bc.of hnm) (at_of (j:=1) rfl rfl) (xE rfl ⟨L.ad (.host j),L.ad (.tell j),L.ad (.qa j),_,_,m,v,so,L.ad .ls::L.ad .dl::bad,L.tl j,rfl,⟨dh,g2⟩,ft,hv,by lia,λl hl=>?_,λx hx=>?_,λH1 kp ht=>?_⟩))
  ·have:=tb.len m
   rw [hl] at this
   have h2:(kY (US A j).bent m).length<=(US A j).bent.length:=VU ..
   have this:l.length=_:=this
   lia
  ·rcases U4.mp hx with rfl | hx
   ·rw [F.run.ES];intro z;cases z
   ·rcases U4.mp hx with rfl | hx
    ·rw [F.dl];intro z;cases z
    ·exact hbad x hx
  ·have tb':=tb.tell m so
   have F1:=F.BH hj kp ht tb'
   have S1:Step H L A H1 (L.PV j _) (A5 A j ({ turn:=m,says:=so }::(US A j).bent)):=Step.BH (g:=zG (L.tl j) m ((dw (L.tl j) m).getD []++[so])) (l:={ turn:=m,says:=so }::(US A j).bent) hj kp
   have nh:¬ L.ad (.host j)∈[L.ad (.tell j)]:=λz=>by have:=F.inj (.host j) (.tell j) hj hj (UX.mp z);cases this
   have g3:=kp _ _ g2 nh
   have gl':=tb'.Pt
   refine vM rfl g3 rfl ⟨L.ad (.host j),L.ad (.tell j),L.ad (.qa j),_,_,_,xE rfl ⟨⟨dh,g3⟩,ht,?_,λH2 s2=>⟨nG,λc hc=>?_⟩⟩⟩
   ·rw [Vj] at gl'
    exact U8 gl' (by lia)
   ·have s3:=s2.trans (ax.laid (o:=.lst [.int ((rA (zG (L.tl j) m ((dw (L.tl j) m).getD []++[so])):Nat):Int)]) hc)
    obtain ⟨kv1,hk1,_⟩:=ht
    exact k _ _ c (S1.trans (Step.same s3)) (F1.same s3) (EC kp hk1 (s2.free hc)) (by rw [ae,tb'.sum])
theorem y9 {h:UZ} {A:UQ} {i z:Int} {f:UQ->Nat->UZ × VG} (eA:h.affair=some A) (c:(bW A i&&l5 A z)=false):(V3 h i λa i=>if VB z 0 a.turns=false then U7 h (-1) else f a i)=U7 h (-1):=by
 cases c1:bW A i with
 | false=>exact pR eA c1
 | true =>
  rw [c1,Wg] at c
  obtain ⟨j,rfl,hj⟩:=cC c1
  exact (gZ eA hj).trans (if_pos (show VB z 0 A.turns=false from c))
theorem BX {h:UZ} {A:UQ} {j m:Nat} {f:UQ->Nat->UZ × VG} (eA:h.affair=some A) (hj:j < A.hosts.length) (c:l5 A (m:Int)=true):(V3 h (j:Int) λa i=>if VB (m:Int) 0 a.turns=false then U7 h (-1) else f a i)=f A j :=
 (gZ eA hj).trans (if_neg (show ¬ VB (m:Int) 0 A.turns=false by rw [yD,c];decide))
abbrev A7 (K:UR) (a:bF):Sp:=d8 K a (λxs rs c=>∃ i z,xs=[i,z]/\c=.mute i z) vj
theorem G5 (T:Txt K mg a):a7 P w K mg base eQ 3 a.kX a.m4 ["bench","numbers","rows"] (A7 K a):=by
 refine T.ui.ok IC ki λcdv A outer s H vs Q E hr h0=>r9 h0 λbad be nm rw ln wd L h N xs ps rs c e G hc hW k=>?_
 ·subst e
  obtain ⟨i,z,rfl,rfl⟩:=hc
  obtain ⟨A,eA⟩:=hW
  refine ⟨_,(ah (bg (ia (bG (aI (ai (K:=K) (pv 0) rfl) T.au T.bq (bP (K:=K) T) hr.lo T.bx .nil aE (aa (aJ (az (K:=K)) (pv 1) aw (λ_ _=>rfl)) (aa (aJ (az (K:=K)) (pv 1) aw (λ_ _=>rfl)) aj))))) (ao (aB (aS (aa (aM (by rfl) T.bV) aj)))) aO)
   (ao (aB (bC (Lr (K:=K) T) hr.lo rfl T.Hs T.Ei.kp T.HV .nil aE (aa (ai (K:=K) (pv 0) rfl) (aa (pv 1) (aa ib aj))))))),?_⟩
  have hN:=G.n
  obtain ⟨dx,hbe⟩:=G.JA eA
  have F:=G.at_.ka A eA
  have oA:=G.ok.ka A eA
  obtain ⟨da,g1⟩:=F.af
  refine DZ rfl hbe T.aP T.aF rfl g1 rfl (vI rfl (bc.of G.nums) (at_of (j:=0) rfl rfl) (vI rfl (bc.of G.nums) (at_of (j:=1) rfl rfl) ⟨bad,L,A,i,z,rfl,F,xE rfl ?_⟩))
  cases c:(bW A i&&l5 A z) with
  | false=>exact bf ⟨nG,λc' hc=>k _ _ _ _ c' (G.refuse (ax.refl H) hc ((La ..).trans (y9 eA c)))⟩
  | true =>
   rw [U6] at c
   obtain ⟨j,rfl,hj⟩:=cC c.1
   obtain ⟨m,rfl,hm⟩:=px c.2
   have es:=(La h (j:Int) (m:Int)).trans (BX eA hj c.2)
   have bl:=(oA.bent j hj).1
   refine bp (vF rfl hbe T.aP T.aF rfl (xE rfl ⟨bad,L,A,nm,j,m,.dF,none,rfl,F,G.nums,hj,by exact U8 ‹_› ‹_›,rfl,λx hx=>?_,λH' L' c' S' F' hc' ht'=>k _ _ _ _ c' (G.ka eA S' F' (by rw [es];rfl) (G.fresh hc') (ns:=[((({ turn:=m,says:=none }:VF)::(US A j).bent).length:Int)]) (by rw [es];rfl) ht')⟩))
   obtain ⟨ys,e⟩:=G.at_.zC x hx
   rw [e];intro z;cases z
abbrev CN (K:UR) (a:bF):Sp:=d8 K a (λxs rs c=>∃ i z l,xs=[i,z]/\rs=[l]/\c=.lie i z l) vj
theorem II (T:Txt K mg a):a7 P w K mg base eQ 3 a.mP a.pI ["bench","numbers","rows"] (CN K a):=by
 refine T.wq.ok C4 ki λcdv A outer s H vs Q E hr h0=>r9 h0 λbad be nm rw ln wd L h N xs ps rs c e G hc hW k=>?_
 ·subst e
  obtain ⟨i,z,l,rfl,rfl,rfl⟩:=hc
  obtain ⟨A,eA⟩:=hW
  refine ⟨_,(ah (aN (i:=3) C4.nd rfl (Or.inl rfl) (ai (K:=K) (pv 0) rfl))
   (ah (bg (ia (PW.pt (yi (bG (aI (pv 3) T.au T.bq (bP (K:=K) T) hr.lo T.bx .nil aE (aa (aJ (az (K:=K)) (pv 1) aw (λ_ _=>rfl)) (aa (aJ (az (K:=K)) (pv 1) aw (λ_ _=>rfl)) aj)))) (zp (bG (aI (ai (K:=K) (pv 3) rfl) T.m7 T.oj (xi (K:=K) T) hr.lo T.oE .nil aE (aa (aJ (az (K:=K)) (pv 2) aw (λ_ _=>rfl)) aj))))))) (ao (aB (aS (aa (aM (by rfl) T.bV) aj)))) aO)
   (ao (aB (bC (Lr (K:=K) T) hr.lo rfl T.Hs T.Ei.kp T.HV .nil aE (aa (pv 3) (aa (pv 1) (aa (gb (vD (K:=K)) (by rfl) T.zo jR (aa (aJ (az (K:=K)) (pv 2) aw (λ_ _=>rfl)) aj)) aj)))))))),?_⟩
  have hN:=G.n
  obtain ⟨dx,hbe⟩:=G.JA eA
  have F:=G.at_.ka A eA
  have oA:=G.ok.ka A eA
  obtain ⟨da,g1⟩:=F.af
  obtain ⟨dr,g2⟩:=F.run.run
  have hrow:=G.row
  have hrows:=G.rows
  have hl:=G.Po l (UX.mpr rfl)
  cases hrow with
  | cons hp0 hnil =>
   rename_i p0 pr
   cases hnil
   obtain ⟨r1,r2⟩:=Es (A:=A) (ns:=l) oA.good.base.prog.pos oA.good.base.vQ.pos
   refine vF rfl hbe T.aP T.aF rfl ?_
   refine vM rfl g1 rfl (vI rfl (bc.of G.nums) (at_of (j:=0) rfl rfl) (vI rfl (bc.of G.nums) (at_of (j:=1) rfl rfl) ⟨bad,L,A,i,z,rfl,F,xE rfl ?_⟩))
   cases c:(bW A i&&l5 A z) with
   | false=>exact bp (bf ⟨nG,λc' hc=>k _ _ _ _ c' (G.refuse (ax.refl H) hc ((Oq ..).trans (y9 eA c)))⟩)
   | true =>
    rw [U6] at c
    obtain ⟨j,rfl,hj⟩:=cC c.1
    obtain ⟨m,rfl,hm⟩:=px c.2
    have es:=(Oq h (j:Int) (m:Int) l).trans (BX eA hj c.2)
    have bl:=(oA.bent j hj).1
    refine bf (DZ rfl g1 T.au T.gm rfl g2 rfl (vI rfl (bc.of hrows) (at_of (j:=0) rfl rfl) ⟨L.r,L.lo,L.ad .ls,p0,L.os,L.ts,A.program,A.begin_,l,rfl,F.run,bc.of hp0,hl,λH1 s1=>xE rfl ?_⟩))
    cases c3:F9 A.program.length A.begin_.nums.length l with
    | false =>
     rw [r2 c3] at es
     exact bf ⟨nG,λc' hc=>k _ _ _ _ c' (G.refuse s1 hc es)⟩
    | true =>
     obtain ⟨s0,e1,e2,e3⟩:=r1 c3
     rw [e1] at es
     refine bp (x2 rfl rfl (vI rfl (bc.of (s1 _ _ hrows)) (at_of (j:=0) rfl rfl) ⟨p0,xE rfl (.inl ⟨bc.of (s1 _ _ hp0),λu hu=>?_⟩)⟩))
     have s2:=s1.trans (ax.laid (o:=.tup (l.map V.int)) hu)
     refine ⟨bad,L,A,nm,j,m,.ref u,some s0,rfl,F.same s2,s2 _ _ G.nums,hj,by exact U8 ‹_› ‹_›,⟨u,rfl,by rw [ae,e3]⟩,λx hx=>?_,λH' L' c' S' F' hc' ht'=>k _ _ _ _ c' (G.ka eA ((Step.same s2).trans S') F' (by rw [es];rfl) (G.fresh (s2.free hc')) (ns:=[((({ turn:=m,says:=some s0 }:VF)::(US A j).bent).length:Int)]) (by rw [es];rfl) ht')⟩
     obtain ⟨ys,e⟩:=G.at_.zC x hx
     rw [s2 _ _ e];intro z;cases z
abbrev yJ (K:UR) (a:bF):Sp:=d8 K a (λxs rs c=>∃ i z,xs=[i,z]/\c=.honest i z) vj
theorem EX (T:Txt K mg a):a7 P w K mg base eQ 3 a.gY a.jQ ["bench","numbers","rows"] (yJ K a):=by
 refine T.qc.ok xV ki λcdv A outer s H vs Q E hr h0=>r9 h0 λbad be nm rw ln wd L h N xs ps rs c e G hc hW k=>?_
 ·subst e
  obtain ⟨i,z,rfl,rfl⟩:=hc
  obtain ⟨A,eA⟩:=hW
  refine ⟨_,(ah (bg (ia (bG (aI (ai (K:=K) (pv 0) rfl) T.au T.bq (bP (K:=K) T) hr.lo T.bx .nil aE (aa (aJ (az (K:=K)) (pv 1) aw (λ_ _=>rfl)) (aa (aJ (az (K:=K)) (pv 1) aw (λ_ _=>rfl)) aj))))) (ao (aB (aS (aa (aM (by rfl) T.bV) aj)))) aO)
   (ah (aN (i:=3) xV.nd rfl (Or.inl rfl) (aJ (az (K:=K)) (ai (K:=K) (ai (K:=K) (pv 0) rfl) rfl) (aJ (az (K:=K)) (pv 1) aw (λ_ _=>rfl)) (λ_ _=>rfl)))
   (ah (bQ (aI (pv 3) T.bK T.pj (BC (K:=K) T) hr.lo T.pH .nil aE (aa (aJ (az (K:=K)) (pv 1) aw (λ_ _=>rfl)) aj)))
   (ao (aB (aS (aa (b0 (pv 3) T.bK T.dY (jW (K:=K) T) hr.lo T.d9 .nil aE) aj))))))),?_⟩
  have hN:=G.n
  obtain ⟨dx,hbe⟩:=G.JA eA
  have F:=G.at_.ka A eA
  have oA:=G.ok.ka A eA
  obtain ⟨da,g1⟩:=F.af
  refine DZ rfl hbe T.aP T.aF rfl g1 rfl (vI rfl (bc.of G.nums) (at_of (j:=0) rfl rfl) (vI rfl (bc.of G.nums) (at_of (j:=1) rfl rfl) ⟨bad,L,A,i,z,rfl,F,xE rfl ?_⟩))
  cases c:(bW A i&&l5 A z) with
  | false=>exact bf ⟨nG,λc' hc=>k _ _ _ _ c' (G.refuse (ax.refl H) hc ((GQ ..).trans (y9 eA c)))⟩
  | true =>
   rw [U6] at c
   obtain ⟨j,rfl,hj⟩:=cC c.1
   obtain ⟨m,rfl,hm⟩:=px c.2
   have es:=(GQ h (j:Int) (m:Int)).trans (BX eA hj c.2)
   have bl:=(oA.bent j hj).1
   obtain ⟨dh,g2⟩:=F.host j hj
   obtain ⟨ft,tb⟩:=F.tell j hj
   refine bp (vF rfl hbe T.aP T.aF rfl (fE g1 T.au T.bw rfl (vI rfl (bc.of G.nums) (at_of (j:=0) rfl rfl) (iE (bc.of F.hl) (at_of (j:=j) rfl (lx hj)) ?_))))
   refine vM rfl g2 rfl (vI rfl (bc.of G.nums) (at_of (j:=1) rfl rfl) ⟨L.ad (.host j),L.ad (.tell j),L.ad (.qa j),_,_,m,_,L.tl j,rfl,⟨dh,g2⟩,ft,λH1 kp ht=>?_⟩)
   have tb':=tb.back m
   have F1:=F.BH hj kp ht tb'
   have S1:Step H L A H1 (L.PV j (wg (L.tl j) m)) (A5 A j ((US A j).bent.filter λx=>x.turn != m)):=Step.BH hj kp
   have nh:¬ L.ad (.host j)∈[L.ad (.tell j)]:=λz=>by have:=F.inj (.host j) (.tell j) hj hj (UX.mp z);cases this
   have g3:=kp _ _ g2 nh
   have gl':=tb'.Pt
   have gl2:=VU (λx:VF=>x.turn != m) (US A j).bent
   refine vM rfl g3 rfl ⟨L.ad (.host j),L.ad (.tell j),L.ad (.qa j),_,_,_,xE rfl ⟨⟨dh,g3⟩,ht,by lia,λH2 s2=>⟨nG,λc hc=>?_⟩⟩⟩
   have s3:=s2.trans (ax.laid (o:=.lst [.int ((rA (wg (L.tl j) m):Nat):Int)]) hc)
   obtain ⟨kv1,hk1,_⟩:=ht
   exact k _ _ _ _ c (G.ka eA (S1.trans (Step.same s3)) (F1.same s3) (by rw [es];rfl) (G.fresh (EC kp hk1 (s2.free hc))) (ns:=[(((US A j).bent.filter λx=>x.turn != m).length:Int)]) (by rw [es];rfl) (by rw [ae,tb'.sum];rfl))
end
noncomputable def zu (A:UQ) (x y:Int):Int :=
 if (bW A x&&bW A y)=false then -1
 else if A.found.isSome=true then -3
 else if ((US A x.toNat).out || (US A y.toNat).out)=true then -10
 else if x=y∨WC A x.toNat y.toNat=true then -11
 else match UY A x.toNat A.turns,UY A y.toNat A.turns with
 | some r,some s=>if r=s then -12 else 0
 | _,_=>-4
theorem Hf {A:UQ} {i:Nat} (hi:i < A.hosts.length):Vbapaj.isIn A i=!(US A i).out:=by
 unfold Vbapaj.isIn
 rw [decide_eq_true hi,Wg]
theorem N1 {h:UZ} {A:UQ} {x y:Int} (eA:h.affair=some A):(zu A x y≠0->U0 h (.pair x y)=U7 h (zu A x y)) /\
  (zu A x y=0->∃ (i j:Nat) (r s:UU),x=(i:Int)/\y=(j:Int)/\i < A.hosts.length/\j < A.hosts.length/\i≠j/\(US A i).out=false/\(US A j).out=false/\UY A i A.turns=some r/\UY A j A.turns=some s/\r≠s /\
   U0 h (.pair x y)=(Ws h (Vbapaj.allWeighed (iq A i j)),{ value:=((A.disputes.length+1:Nat):Int) })):=by
 rw [P7]
 unfold zu
 cases c1:bW A x with
 | false =>
  rw [Wu,if_pos rfl]
  exact ⟨λ_=>pR eA c1,λz=>absurd z (by decide)⟩
 | true =>
  obtain ⟨i,rfl,hi⟩:=cC c1
  rw [gZ eA hi]
  cases c2:bW A y with
  | false =>
   rw [Bool.and_false,if_pos rfl]
   exact ⟨λ_=>pR eA c2,λz=>absurd z (by decide)⟩
  | true =>
   obtain ⟨j,rfl,hj⟩:=cC c2
   rw [gZ eA hj,Bool.and_self,if_neg (by decide)]
   simp only [WM]
   by_cases c3:A.found.isSome=true
   ·rw [if_pos c3,if_pos c3]
    exact ⟨λ_=>rfl,λz=>absurd z (by decide)⟩
   ·rw [if_neg c3,if_neg c3,Hf hi,Hf hj]
    by_cases c4:((US A i).out || (US A j).out)=true
    ·rw [if_pos c4,if_pos (by rw [Wz] at c4;rcases c4 with e | e<;>simp [e])]
     exact ⟨λ_=>rfl,λz=>absurd z (by decide)⟩
    ·have o1:(US A i).out=false:=by revert c4;cases (US A i).out<;>simp
     have o2:(US A j).out=false:=by revert c4;cases (US A j).out<;>simp
     rw [if_neg c4,o1,o2,if_neg (show ¬ (!false&&!false)=false by decide)]
     have ep:((i:Int)=(j:Int)∨WC A i j=true) ↔ (i=j∨WC A i j=true):=by
      constructor
      ·rintro (e | e)
       ·exact .inl (by lia)
       ·exact .inr e
      ·rintro (e | e)
       ·exact .inl (by lia)
       ·exact .inr e
     by_cases c5:i=j∨WC A i j=true
     ·rw [if_pos c5,if_pos (ep.mpr c5)]
      exact ⟨λ_=>rfl,λz=>absurd z (by decide)⟩
     ·rw [if_neg c5,if_neg (λz=>c5 (ep.mp z))]
      cases e1:UY A i A.turns with
      | none=>exact ⟨λ_=>rfl,λz=>absurd (show (-4:Int)=0 from z) (by decide)⟩
      | some r =>
       cases e2:UY A j A.turns with
       | none=>exact ⟨λ_=>rfl,λz=>absurd (show (-4:Int)=0 from z) (by decide)⟩
       | some s =>
        simp only []
        by_cases c6:r=s
        ·rw [if_pos c6,if_pos c6]
         exact ⟨λ_=>rfl,λz=>absurd z (by decide)⟩
        ·rw [if_neg c6,if_neg c6]
         exact ⟨λz=>absurd rfl z,λ_=>⟨i,j,r,s,rfl,rfl,hi,hj,λe=>c5 (.inl e),o1,o2,e1,e2,c6,rfl⟩⟩
section
variable {P:Program} {w:World} {K:UR} {mg:Str->Option Value} {base:Heap} {a:bF}
def Dr (K:UR) (a:bF):Sp:=λvs H Q _=>∃ (bad:List Addr) (L:Lay) (A:UQ) (x y:Int),vs=[.ref (L.ad .af),.int x,.int y]/\aH a bad H L A/\Once A.heard/\A.disputes.length<=1000/\∀ H',ax H H'->Q (.int (zu A x y)) H'
theorem DQ (T:Txt K mg a):a7 P w K mg base eQ 5 a.km a.kH ["affair","x","y"] (Dr K a):=by
 refine T.nE.ok qY ?_ ?_
 ·rintro _ _ _ _ ⟨_,_,_,_,_,rfl,_⟩
  rfl
 ·rintro cdv A outer s H _ Q E hr ⟨bad,L,A,x,y,rfl,F,ho,hd,k⟩
  refine ⟨_,(ah (bg (ia (PW.pt (yi (bG (aI (pv 0) T.au T.di (fU (K:=K) T) hr.lo T.cV .nil aE (aa (pv 1) aj))) (zp (bG (aI (pv 0) T.au T.di (fU (K:=K) T) hr.lo T.cV .nil aE (aa (pv 2) aj))))))) (ao (aB (aM (by rfl) T.bV))) aO)
   (ah (bg (bG (ai (K:=K) (pv 0) rfl)) (ao (aB (aM (by rfl) T.vE))) aO)
   (ah (bg (PW.pt (GG (bG (aI (pv 0) T.au T.gc (lI (K:=K) T) hr.lo T.gf .nil aE (aa (pv 1) aj))) (Cy (bG (aI (pv 0) T.au T.gc (lI (K:=K) T) hr.lo T.gf .nil aE (aa (pv 2) aj)))))) (ao (aB (aM (by rfl) T.vc))) aO)
   (ah (bg (PW.pt (GG (a8 ua (pv 1) (pv 2) (bo _)) (Cy (bG (aI (pv 0) T.au T.iF (uK (K:=K) T) hr.lo T.i3 .nil aE (aa (pv 1) (aa (pv 2) aj))))))) (ao (aB (aM (by rfl) T.Mj))) aO)
   (ah (aN (i:=3) qY.nd rfl (Or.inl rfl) (aI (pv 0) T.au T.dS (fQ (K:=K) T) hr.lo T.dP .nil aE (aa (pv 1) (aa (ai (K:=K) (pv 0) rfl) aj))))
   (ah (aN (i:=4) qY.nd rfl (Or.inl rfl) (aI (pv 0) T.au T.dS (fQ (K:=K) T) hr.lo T.dP .nil aE (aa (pv 2) (aa (ai (K:=K) (pv 0) rfl) aj))))
   (ah (bg (PW.pt (GG (a8 vi (pv 3) ib (bo _)) (Cy (a8 vi (pv 4) ib (bo _))))) (ao (aB (aM (by rfl) T.sT))) aO)
   (ao (aB (ow (a8 (D5 (K:=K) hr.units) (pv 3) (pv 4) (bo _)) (aM (by rfl) T.vL) aw)))))))))),?_⟩
  obtain ⟨da,g1⟩:=F.af
  unfold zu at k
  have e1:(bW A x&&bW A y)=false->Q (.int (-1)) H:=λc=>by have:=k H (ax.refl H);rw [if_pos c] at this;exact this
  refine vM rfl g1 rfl (xE rfl ⟨bad,L,A,x,rfl,F,xE rfl ?_⟩)
  show if bW A x=true then _ else _
  cases c1:bW A x with
  | false=>exact bp (bf (e1 (by rw [c1];rfl)))
  | true =>
   refine bf (vM rfl g1 rfl (xE rfl ⟨bad,L,A,y,rfl,F,xE rfl ?_⟩))
   show if (!bW A y)=true then _ else _
   cases c2:bW A y with
   | false=>exact bf (e1 (by rw [c1,c2];rfl))
   | true =>
    rw [c1,c2] at k
    obtain ⟨i,rfl,hi⟩:=cC c1
    obtain ⟨j,rfl,hj⟩:=cC c2
    simp only [WM] at k
    refine bp (vF rfl g1 T.au T.cz rfl (xE rfl ?_))
    cases c3:A.found.isSome with
    | true =>
     have:=k H (ax.refl H)
     rw [if_neg (by decide),if_pos c3] at this
     exact bf this
    | false =>
     refine bp (vM rfl g1 rfl (xE rfl ⟨bad,L,A,i,rfl,F,hi,xE rfl ?_⟩))
     have k2:∀ H',ax H H'->Q (.int (if ((US A i).out || (US A j).out)=true then -10 else if (i:Int)=(j:Int)∨WC A i j=true then -11 else match UY A i A.turns,UY A j A.turns with | some r,some s=>if r=s then -12 else 0 | _,_=>-4)) H':=λH' s'=>by
      have:=k H' s'
      rw [if_neg (by decide),if_neg (by rw [c3];decide)] at this
      exact this
     clear k
     cases c4:(US A i).out with
     | true =>
      have:=k2 H (ax.refl H)
      rw [if_pos (by rw [c4];rfl)] at this
      exact bf (bf this)
     | false =>
      refine bp (vM rfl g1 rfl (xE rfl ⟨bad,L,A,j,rfl,F,hj,xE rfl ?_⟩))
      cases c5:(US A j).out with
      | true =>
       have:=k2 H (ax.refl H)
       rw [if_pos (by rw [c5,Bool.or_true])] at this
       exact bf this
      | false =>
       rw [c4,c5] at k2
       refine bp (x2 rfl rfl ⟨rfl,xE rfl ?_⟩)
       refine BP (λe=>?_) λe=>?_
       ·have:=k2 H (ax.refl H)
        rw [if_neg (by decide),if_pos (.inl e)] at this
        exact bf this
       ·refine vM rfl g1 rfl (x2 rfl rfl ⟨bad,L,A,i,j,rfl,F,hd,λH1 s1=>xE rfl ?_⟩)
        rw [Jn]
        cases c6:WC A i j with
        | true =>
         have:=k2 H1 s1
         rw [if_neg (by decide),if_pos (.inr c6)] at this
         exact bf this
        | false =>
         have k3:∀ H',ax H H'->Q (.int (match UY A i A.turns,UY A j A.turns with | some r,some s=>if r=s then -12 else 0 | _,_=>-4)) H':=λH' s'=>by
          have:=k2 H' s'
          rw [if_neg (by decide),if_neg (by rintro (z | z);exact e z;rw [c6] at z;cases z)] at this
          exact this
         clear k2
         have F1:=F.same s1
         have g2:=s1 _ _ g1
         refine bp (vM rfl g2 rfl (xE rfl (vF rfl g2 T.au T.fC rfl ⟨bad,L,A,i,A.turns,rfl,F1,hi,ho,λv hv=>?_⟩)))
         refine vM rfl g2 rfl (xE rfl (vF rfl g2 T.au T.fC rfl ⟨bad,L,A,j,A.turns,rfl,F1,hj,ho,λu hu=>?_⟩))
         refine xE rfl ⟨rfl,xE rfl ?_⟩
         have k4:=k3 H1 s1
         cases q1:UY A i A.turns with
         | none =>
          rw [q1] at hv k4
          obtain rfl:v=.dF:=hv
          exact bf (bf k4)
         | some r =>
          rw [q1] at hv k4
          obtain ⟨p,rfl,hp⟩:=hv
          refine bp (xE rfl ⟨rfl,xE rfl ?_⟩)
          cases q2:UY A j A.turns with
          | none =>
           rw [q2] at hu k4
           obtain rfl:u=.dF:=hu
           exact bf k4
          | some s0 =>
           rw [q2] at hu k4
           obtain ⟨p2,rfl,hp2⟩:=hu
           refine bp (x2 rfl rfl ⟨jy (stI r),jy (stI s0),pQ (gg.of (by rw [hp,fN])),pQ (gg.of (by rw [hp2,fN])),shaped_ints _,shaped_ints _,xE rfl ?_⟩)
           rw [sf,BE]
           by_cases c7:r=s0
           ·rw [decide_eq_true c7]
            have k4:Q (.int (if r=s0 then -12 else 0)) H1:=k4
            rw [if_pos c7] at k4
            exact bf k4
           ·rw [decide_eq_false c7]
            have k4:Q (.int (if r=s0 then -12 else 0)) H1:=k4
            rw [if_neg c7] at k4
            exact bp k4
abbrev Bo (K:UR) (a:bF):Sp:=d8 K a (λxs rs c=>∃ x y,xs=[x,y]/\c=.pair x y) vj
theorem Ig (T:Txt K mg a):a7 P w K mg base eQ 7 a.kn a.mZ ["bench","numbers","rows"] (Bo K a):=by
 refine T.uz.ok A3 ki λcdv A outer s H vs Q E hr h0=>r9 h0 λbad be nm rw ln wd L h N xs ps rs c e G hc hW k=>?_
 ·subst e
  obtain ⟨x,y,rfl,rfl⟩:=hc
  obtain ⟨A,eA⟩:=hW
  refine ⟨_,(ah (aN (i:=3) A3.nd rfl (Or.inl rfl) (bC (DQ (K:=K) T) hr.lo rfl T.si T.nE.kp T.tm .nil aE (aa (ai (K:=K) (pv 0) rfl) (aa (aJ (az (K:=K)) (pv 1) aw (λ_ _=>rfl)) (aa (aJ (az (K:=K)) (pv 1) aw (λ_ _=>rfl)) aj)))))
   (ah (bg (a8 Fy (pv 3) aw (bo _)) (ao (aB (aS (aa (pv 3) aj)))) aO)
   (ao (aB (aS (aa (aI (ai (K:=K) (pv 0) rfl) T.au T.jr (vT (K:=K) T) hr.lo T.ja .nil aE (aa (aJ (az (K:=K)) (pv 1) aw (λ_ _=>rfl)) (aa (aJ (az (K:=K)) (pv 1) aw (λ_ _=>rfl)) aj))) aj)))))),?_⟩
  have hN:=G.n
  obtain ⟨dx,hbe⟩:=G.JA eA
  have F:=G.at_.ka A eA
  have oA:=G.ok.ka A eA
  have hdl:=oA.dl
  obtain ⟨da,g1⟩:=F.af
  obtain ⟨r1,r2⟩:=N1 (x:=x) (y:=y) eA
  refine vF rfl hbe T.aP T.aF rfl (vI rfl (bc.of G.nums) (at_of (j:=0) rfl rfl) (vI rfl (bc.of G.nums) (at_of (j:=1) rfl rfl) ⟨bad,L,A,x,y,rfl,F,oA.good.base.once,by lia,λH1 s1=>?_⟩))
  refine xE rfl ⟨rfl,xE rfl ?_⟩
  refine Eh (λe=>?_) λe=>?_
  ·exact xE rfl ⟨nG,λc' hc=>k _ _ _ _ c' (G.refuse s1 hc (r1 e))⟩
  ·obtain ⟨i,j,r,s0,rfl,rfl,hi,hj,ij,o1,o2,q1,q2,q3,es⟩:=r2 e
   rw [Iw oA.num oA.quiet.quiet i j] at es
   refine DZ rfl (s1 _ _ hbe) T.aP T.aF rfl (s1 _ _ g1) rfl (vI rfl (bc.of (s1 _ _ G.nums)) (at_of (j:=0) rfl rfl) (vI rfl (bc.of (s1 _ _ G.nums)) (at_of (j:=1) rfl rfl) ⟨bad,L,A,i,j,A.begin_.nums.length,rfl,F.same s1,oA.good.base,ij,oA.t1,by lia,oA.good.pair hi hj ij o1 o2 q1 q2 q3 oA.t1 oA.t2,λH' L' S' F'=>⟨nG,λc' hc=>?_⟩⟩))
   have S2:=(Step.same (L:=L) (A:=A) s1).trans S'
   exact k _ _ _ _ c' (G.ka eA (S2.trans (Step.same (ax.laid hc))) (F'.same (ax.laid hc)) (by rw [es];rfl) ((G.at_.xO eA S2 F').fresh hc) (ns:=[((A.disputes.length+1:Nat):Int)]) (by rw [es];rfl) ae)
end
noncomputable def DO (A:UQ) (z i:Int):Int :=
 if bW A i=false then -1
 else if A.found.isSome=true then -3
 else if (US A i.toNat).out=true then -10
 else if l3 A z=false then -6
 else if z=0 then (if (UY A i.toNat A.turns).isSome=true then -4 else 0)
 else if U2 (aL A (z.toNat - 1))=false then -3
 else if Vv (aL A (z.toNat - 1)) i.toNat=false then -6
 else if (UY A i.toNat (aL A (z.toNat - 1)).asked).isSome=true then -4 else 0
noncomputable def Lh (h:UZ) (z i:Int) (X:UQ->Nat->UZ × VG) (Y:UQ->Nat->UW->UZ × VG):UZ × VG:=V3 h i λa i =>
 if a.found.isSome=true then U7 h (-3)
 else if Vbapaj.isIn a i=false then U7 h (-10)
 else if z=0 then (if (UY a i a.turns).isSome=true then U7 h (-4) else X a i)
 else match (if z < 0 then none else Wk a z.toNat) with
 | none=>U7 h (-6)
 | some e =>
  if U2 e=false then U7 h (-3)
  else if Vv e i=false then U7 h (-6)
  else if (UY a i e.asked).isSome=true then U7 h (-4)
  else Y a i e
theorem Qn {h:UZ} {A:UQ} {z i:Int} {X:UQ->Nat->UZ × VG} {Y:UQ->Nat->UW->UZ × VG} (eA:h.affair=some A) (hn:Num A):(DO A z i≠0->Lh h z i X Y=U7 h (DO A z i)) /\
  (DO A z i=0->∃ j:Nat,i=(j:Int)/\j < A.hosts.length/\(US A j).out=false/\A.found=none/\((z=0/\UY A j A.turns=none/\Lh h z i X Y=X A j) ∨
   ∃ m:Nat,z=((m+1:Nat):Int)/\m < A.disputes.length/\U2 (aL A m)=true/\Vv (aL A m) j=true/\UY A j (aL A m).asked=none/\Lh h z i X Y=Y A j (aL A m))):=by
 unfold DO Lh
 cases c1:bW A i with
 | false =>
  rw [if_pos rfl]
  exact ⟨λ_=>pR eA c1,λz=>absurd z (by decide)⟩
 | true =>
  obtain ⟨j,rfl,hj⟩:=cC c1
  rw [gZ eA hj,if_neg (by decide)]
  simp only [WM]
  by_cases c3:A.found.isSome=true
  ·rw [if_pos c3,if_pos c3]
   exact ⟨λ_=>rfl,λz=>absurd z (by decide)⟩
  ·have fn:A.found=none:=by simpa using c3
   rw [if_neg c3,if_neg c3,Hf hj]
   cases c4:(US A j).out with
   | true =>
    rw [if_pos rfl,if_pos (show (!true)=false from rfl)]
    exact ⟨λ_=>rfl,λz=>absurd z (by decide)⟩
   | false =>
    rw [if_neg (show ¬ (false=true) by decide),if_neg (show ¬ (!false)=false by decide)]
    by_cases z0:z=0
    ·subst z0
     have d0:l3 A 0=true:=by unfold l3;rw [decide_eq_true (show (0:Int)<=0 by decide),decide_eq_true (show (0:Int)<=(A.disputes.length:Int) by exact V7 _)];rfl
     rw [d0,if_neg (show ¬ (true=false) by decide),if_pos rfl,if_pos rfl]
     by_cases c5:(UY A j A.turns).isSome=true
     ·rw [if_pos c5,if_pos c5]
      exact ⟨λ_=>rfl,λz=>absurd z (by decide)⟩
     ·rw [if_neg c5,if_neg c5]
      exact ⟨λz=>absurd rfl z,λ_=>⟨j,rfl,hj,c4,fn,.inl ⟨rfl,by simpa using c5,rfl⟩⟩⟩
    ·rw [if_neg z0,if_neg z0]
     cases c6:l3 A z with
     | false =>
      have:(if z < 0 then none else Wk A z.toNat)=none:=AN hn (by rw [c6,Bool.and_false])
      rw [if_pos rfl,this]
      exact ⟨λ_=>rfl,λz=>absurd z (by decide)⟩
     | true =>
      obtain ⟨m,hm,rfl,e⟩:=z7 hn (show (!decide (z=0)&&l3 A z)=true by rw [c6,decide_eq_false z0];rfl)
      have e:(if ((m+1:Nat):Int) < 0 then none else Wk A ((m+1:Nat):Int).toNat)=some (aL A m):=e
      rw [if_neg (show ¬ (true=false) by decide),e]
      have em:((m+1:Nat):Int).toNat - 1=m:=by lia
      rw [em]
      simp only []
      by_cases c7:U2 (aL A m)=false
      ·rw [if_pos c7,if_pos c7]
       exact ⟨λ_=>rfl,λz=>absurd z (by decide)⟩
      ·rw [if_neg c7,if_neg c7]
       by_cases c8:Vv (aL A m) j=false
       ·rw [if_pos c8,if_pos c8]
        exact ⟨λ_=>rfl,λz=>absurd z (by decide)⟩
       ·rw [if_neg c8,if_neg c8]
        by_cases c9:(UY A j (aL A m).asked).isSome=true
        ·rw [if_pos c9,if_pos c9]
         exact ⟨λ_=>rfl,λz=>absurd z (by decide)⟩
        ·rw [if_neg c9,if_neg c9]
         exact ⟨λz=>absurd rfl z,λ_=>⟨j,rfl,hj,c4,fn,.inr ⟨m,rfl,hm,by simpa using c7,by simpa using c8,by simpa using c9,rfl⟩⟩⟩
theorem Jx (l:List Nat):(l9 l).all BD=true:=by
 unfold l9
 rw [List.all_map,W6]
 exact λ_ _=>rfl
theorem Nr {n j:Nat} (h:j < n):Lm (.int (j:Int)) (l9 (List.range n))=true:=by
 unfold Lm l9
 rw [Wn,WQ]
 refine ⟨j,Vq.mpr h,?_⟩
 simp [N8]
section
variable {P:Program} {w:World} {K:UR} {mg:Str->Option Value} {base:Heap} {a:bF}
def zB (K:UR) (a:bF):Sp:=λvs H Q _=>∃ (bad:List Addr) (L:Lay) (A:UQ) (z i:Int),vs=[.ref (L.ad .af),.int z,.int i]/\aH a bad H L A/\Once A.heard/\∀ H',ax H H'->Q (.int (DO A z i)) H'
theorem rm (T:Txt K mg a):a7 P w K mg base eQ 2 a.fS a.fV ["affair","number","host"] (zB K a):=by
 refine T.fG.ok rp ?_ ?_
 ·rintro _ _ _ _ ⟨_,_,_,_,_,rfl,_⟩
  rfl
 ·rintro cdv A outer s H _ Q E hr ⟨bad,L,A,z,i,rfl,F,ho,k⟩
  refine ⟨_,(ah (bg (ia (bG (aI (pv 0) T.au T.di (fU (K:=K) T) hr.lo T.cV .nil aE (aa (pv 2) aj)))) (ao (aB (aM (by rfl) T.bV))) aO)
   (ah (bg (bG (ai (K:=K) (pv 0) rfl)) (ao (aB (aM (by rfl) T.vE))) aO)
   (ah (bg (bG (aI (pv 0) T.au T.gc (lI (K:=K) T) hr.lo T.gf .nil aE (aa (pv 2) aj))) (ao (aB (aM (by rfl) T.vc))) aO)
   (ah (bg (ia (bG (aI (pv 0) T.au T.gx (o8 (K:=K) T) hr.lo T.gQ .nil aE (aa (pv 1) aj)))) (ao (aB (aM (by rfl) T.lG))) aO)
   (ah (aN (i:=3) rp.nd rfl (Or.inl rfl) (aI (pv 0) T.au T.bB (bR (K:=K) T) hr.lo T.bD .nil aE (aa (pv 1) aj)))
   (ah (bg (ia (bG (Q8 (b0 (pv 3) T.eG T.oY (Ai (K:=K) T) hr.lo T.ou .nil aE) (b0 (pv 3) T.ay T.eL (ju (K:=K) T) hr.lo T.ej .nil aE)))) (ao (aB (aM (by rfl) T.vE))) aO)
   (ah (bg (a8 (Gy (K:=K)) (pv 2) (ai (K:=K) (pv 3) rfl) rfl) (ao (aB (aM (by rfl) T.lG))) aO)
   (ao (aB (ow (a8 vi (aI (pv 0) T.au T.dS (fQ (K:=K) T) hr.lo T.dP .nil aE (aa (pv 2) (aa (ai (K:=K) (pv 3) rfl) aj))) ib (bo _)) aw (aM (by rfl) T.sT))))))))))),?_⟩
  obtain ⟨da,g1⟩:=F.af
  unfold DO at k
  refine vM rfl g1 rfl (xE rfl ⟨bad,L,A,i,rfl,F,xE rfl ?_⟩)
  show if (!bW A i)=true then _ else _
  cases c1:bW A i with
  | false =>
   have:=k H (ax.refl H)
   rw [if_pos c1] at this
   exact bf this
  | true =>
   obtain ⟨j,rfl,hj⟩:=cC c1
   simp only [WM] at k
   refine bp (vF rfl g1 T.au T.cz rfl (xE rfl ?_))
   cases c3:A.found.isSome with
   | true =>
    have:=k H (ax.refl H)
    rw [if_neg (by rw [c1];decide),if_pos c3] at this
    exact bf this
   | false =>
    refine bp (vM rfl g1 rfl (xE rfl ⟨bad,L,A,j,rfl,F,hj,xE rfl ?_⟩))
    cases c4:(US A j).out with
    | true =>
     have:=k H (ax.refl H)
     rw [if_neg (by rw [c1];decide),if_neg (by rw [c3];decide),if_pos c4] at this
     exact bf this
    | false =>
     refine bp (vM rfl g1 rfl (xE rfl ⟨bad,L,A,z,rfl,F,xE rfl ?_⟩))
     show if (!l3 A z)=true then _ else _
     cases c5:l3 A z with
     | false =>
      have:=k H (ax.refl H)
      rw [if_neg (by rw [c1];decide),if_neg (by rw [c3];decide),if_neg (by rw [c4];decide),if_pos c5] at this
      exact bf this
     | true =>
      obtain ⟨n,rfl,hn⟩:∃ n:Nat,z=(n:Int)/\n<=A.disputes.length:=by
       unfold l3 at c5
       rw [U6,decide_eq_true_eq,decide_eq_true_eq] at c5
       exact ⟨z.toNat,by lia,by lia⟩
      have k2:∀ H',ax H H'->Q (.int (if (n:Int)=0 then (if (UY A j A.turns).isSome=true then -4 else 0)
        else if U2 (aL A (n - 1))=false then -3
        else if Vv (aL A (n - 1)) j=false then -6
        else if (UY A j (aL A (n - 1)).asked).isSome=true then -4 else 0)) H':=λH' s'=>by
       have:=k H' s'
       rw [if_neg (by rw [c1];decide),if_neg (by rw [c3];decide),if_neg (by rw [c4];decide),if_neg (by rw [c5];decide)] at this
       exact this
      clear k
      refine bp (vM rfl g1 rfl (xE rfl ⟨bad,L,A,n,rfl,F,hn,?_⟩))
      by_cases n0:n=0
      ·subst n0
       rw [if_pos rfl]
       obtain ⟨⟨dop,gop⟩,hot,_⟩:=F.op
       have k3:Q (.int (if (UY A j A.turns).isSome=true then -4 else 0)) H:=k2 H (ax.refl H)
       refine .inl (vM rfl gop rfl ⟨L.ad .op,rfl,xE rfl (bp ?_)⟩)
       refine xE rfl (vF rfl gop T.eG T.qS rfl ⟨_,xE rfl ⟨.inr (gg.of hot),rfl,Jx _,xE rfl ?_⟩⟩)
       have hin:Lm (.int (j:Int)) (l9 (List.range A.saidTo.length))=true:=Nr (by rw [F.Ge];exact hj)
       show if (!Lm (.int (j:Int)) (l9 (List.range A.saidTo.length)))=true then _ else _
       rw [hin]
       refine bp ?_
       refine vM rfl g1 rfl (xE rfl (vF rfl gop T.eG T.kZ rfl ⟨bad,L,A,j,A.turns,rfl,F,hj,ho,λv hv=>⟨rfl,xE rfl ?_⟩⟩))
       cases q:UY A j A.turns with
       | none =>
        rw [q] at hv k3
        obtain rfl:v=.dF:=hv
        exact bf k3
       | some r =>
        rw [q] at hv k3
        obtain ⟨p,rfl,hp⟩:=hv
        exact bp k3
      ·rw [if_neg n0]
       have hm:n - 1 < A.disputes.length:=by lia
       have D:=F.aK (n - 1) _ (ba hm)
       obtain ⟨dd,gd⟩:=D.ins
       refine .inr (vM rfl gd rfl ⟨L.ad (.aK (n - 1)),_,_,_,_,aL A (n - 1),rfl,D,λH1 s1=>xE rfl ?_⟩)
       have k3:=k2 H1 s1
       rw [if_neg (by lia)] at k3
       clear k2
       have gd1:=s1 _ _ gd
       cases c7:U2 (aL A (n - 1)) with
       | false =>
        rw [if_pos c7] at k3
        exact bf k3
       | true =>
        rw [if_neg (by rw [c7];decide)] at k3
        refine bp (xE rfl (vF rfl gd1 T.ay T.aX rfl ⟨_,xE rfl ⟨.inr (D.hosts.imp (s1 _)).sq,rfl,rfl,xE rfl ?_⟩⟩))
        show if (!Lm (.int (j:Int)) [.int ((aL A (n - 1)).x:Int),.int ((aL A (n - 1)).y:Int)])=true then _ else _
        rw [HS]
        cases c8:Vv (aL A (n - 1)) j with
        | false =>
         have c8':((aL A (n - 1)).x == j || (aL A (n - 1)).y == j)=false:=c8
         rw [c8']
         rw [if_pos c8] at k3
         exact bf k3
        | true =>
         have c8':((aL A (n - 1)).x == j || (aL A (n - 1)).y == j)=true:=c8
         rw [c8']
         rw [if_neg (by rw [c8];decide)] at k3
         refine bp (vM rfl (s1 _ _ g1) rfl (xE rfl (vF rfl gd1 T.ay T.bz rfl ⟨bad,L,A,j,(aL A (n - 1)).asked,rfl,F.same s1,hj,ho,λv hv=>⟨rfl,xE rfl ?_⟩⟩)))
         cases q:UY A j (aL A (n - 1)).asked with
         | none =>
          rw [q] at hv k3
          obtain rfl:v=.dF:=hv
          exact bf k3
         | some r =>
          rw [q] at hv k3
          obtain ⟨p,rfl,hp⟩:=hv
          exact bp k3
end
section
variable {a:bF} {bad:List Addr} {H H':Hp} {L:Lay} {A:UQ}
def TM (A:UQ) (cn:List Nat) (lost:Nat):UQ:={ A with saidTo:=cn,lost:=lost }
theorem aH.setOp {cn:List Nat} {lost:Nat} (F:aH a bad H L A) (k:Keeps [L.ad .op,L.ad .oa] H H') (hl:cn.length=A.saidTo.length) (O:HN a H' (L.ad .op) (L.ad .oa) L.ot A.turns cn lost):aH a bad H' L (TM A cn lost):=by
 have hrs:∀ x∈[Role.op,Role.oa],Lv A x:=λx hx=>by
  rcases U4.mp hx with rfl | hx
  ·trivial
  ·rw [UX.mp hx];trivial
 have k':Keeps ([Role.op,Role.oa].map L.ad) H H':=k
 exact ⟨F.inj,F.RE hrs k' (by simp),F.runK hrs k' (by simp),F.Nn,F.Qp hrs k',λi hi=>F.EY hrs k' hi (by simp),λi hi=>⟨F.De hrs k' hi (by simp),(F.tell i hi).2⟩,λj hj=>F.Jb hrs k' hj (by simp),O,F.Rn hrs k' (by simp),
  λj d hj=>F.Di hrs k' hj (by simp) (by simp),F.N4,F.NA,hl.trans F.Ge⟩
theorem Step.setOp {cn:List Nat} {lost:Nat} (k:Keeps [L.ad .op,L.ad .oa] H H'):Step H L A H' L (TM A cn lost) :=
 { Step.refl H L A with keep:=λb o e n=>k b o e λm=>(U4.mp m).elim (λz=>n .op trivial z) λz=>n .oa trivial (UX.mp z) }
end
theorem NQ {kvs:List (Key × V)} {cn:List Nat} {j:Nat} (hD:DR (λv (m:Nat)=>v=.int (m:Int)) kvs (xn cn)) (hj:j < cn.length):DR (λv (m:Nat)=>v=.int (m:Int)) (putK kvs (Sum.inl (j:Int)) (.int (((cn.getD j 0:Nat):Int)+1))) (xn (cn.modify j λn=>n+1)):=by
 have h:=hD.put (t:=j) (v:=.int (((cn.getD j 0:Nat):Int)+1)) (b:=cn.getD j 0+1) (by push_cast;rfl)
 have e:C0 (xn cn) j (cn.getD j 0+1)=xn (cn.modify j λn=>n+1):=by
  unfold C0 xn
  rw [if_pos (by rw [Wn,WQ];exact ⟨j,Vq.mpr hj,by simp⟩),V0,List.length_modify]
  refine Wc λi hi=>?_
  have hi:=Vq.mp hi
  show (if i=j then (i,cn.getD j 0+1) else (i,cn.getD i 0))=(i,(cn.modify j λn=>n+1).getD i 0)
  rw [VY,VY,VY,List.getElem?_modify]
  by_cases c:i=j
  ·subst c
   rw [if_pos rfl,VI hi]
   simp
  ·rw [if_neg c]
   have:¬ j=i:=λz=>c z.symm
   simp [this]
 rw [e] at h
 exact h
theorem Jh (x y m n:Nat) (h:x≠y):putK (xc x y m n) (Sum.inl (x:Int)) (.int ((m:Int)+1))=xc x y (m+1) n:=by
 unfold putK xc
 have e:¬ ((y:Int)=(x:Int)):=by lia
 simp [e]
theorem J2 (x y m n:Nat) (h:x≠y):putK (xc x y m n) (Sum.inl (y:Int)) (.int ((n:Int)+1))=xc x y m (n+1):=by
 unfold putK xc
 have e:¬ ((x:Int)=(y:Int)):=by lia
 simp [e]
noncomputable def pN (A:UQ) (n j:Nat):Nat:=if n=0 then A.saidTo.getD j 0 else if (aL A (n - 1)).x=j then (aL A (n - 1)).saidX else (aL A (n - 1)).saidY
noncomputable def sG (A:UQ) (n:Nat):Nat:=if n=0 then A.turns else (aL A (n - 1)).asked
noncomputable def Ni (A:UQ) (n j:Nat):UQ:=if n=0 then TM A (A.saidTo.modify j λn=>n+1) A.lost else bA A (n - 1) (if (aL A (n - 1)).x=j then { aL A (n - 1) with saidX:=(aL A (n - 1)).saidX+1 } else { aL A (n - 1) with saidY:=(aL A (n - 1)).saidY+1 })
section
variable {P:Program} {w:World} {K:UR} {mg:Str->Option Value} {base:Heap} {a:bF} {bad:List Addr} {H H':Hp} {L:Lay} {A:UQ}
theorem Ot (T:Txt K mg a) (F:aH a bad H L A) (hxy:XY A) {n j:Nat} (hh:A.hosts.length<=6) (hj:j < A.hosts.length) (hn:n<=A.disputes.length) (hp:n≠0->Vv (aL A (n - 1)) j=true) :
  ∃ (p C dd ask:Addr) (fs:List (Str × V)) (kvs:List (Key × V)) (r:Role),(if n=0 then L.ad .op else L.ad (.aK (n - 1)))=p/\Lv A r/\p=L.ad r/\H p=some (.ins C dd fs)/\zr K C/\aU K C "asked"/\aU K C "turn_asked"/\fs.lookup (Str.ofString "asked")=some (.ref ask)/\fs.lookup (Str.ofString "turn_asked")=some (.int ((sG A n:Nat):Int)) /\
   H ask=some (.dK kvs)/\kvs.length<=1000/\k7 kvs (Sum.inl (j:Int))=some (.int ((pN A n j:Nat):Int))/\p≠ask /\
   ∃ L1,Step H L A (upd H ask (.dK (putK kvs (Sum.inl (j:Int)) (.int (((pN A n j:Nat):Int)+1))))) L1 (Ni A n j)/\aH a bad (upd H ask (.dK (putK kvs (Sum.inl (j:Int)) (.int (((pN A n j:Nat):Int)+1))))) L1 (Ni A n j):=by
 by_cases n0:n=0
 ·subst n0
  obtain ⟨⟨dop,gop⟩,hot,kvs,hoa,hD⟩:=F.op
  have hjs:j < A.saidTo.length:=by rw [F.Ge];exact hj
  have ne:L.ad .op≠L.ad .oa:=aV gop hoa (by intro z;cases z)
  have hl:kvs.length=A.saidTo.length:=by rw [hD.len];unfold xn;rw [UT,VA]
  have hsto:=F.Ge
  have kp:∀ o,Keeps [L.ad .op,L.ad .oa] H (upd H (L.ad .oa) o):=λo=>Keeps.upd (by simp)
  refine ⟨L.ad .op,a.eK,dop,L.ad .oa,_,kvs,.op,rfl,trivial,rfl,gop,T.eG,T.qO,T.kZ,rfl,rfl,hoa,by lia,J3 hD hjs,ne,L,Step.setOp (kp _),F.setOp (kp _) (List.length_modify ..) ⟨⟨dop,by rw [ak ne];exact gop⟩,?_,_,ae,NQ hD hjs⟩⟩
  rw [ak (aV hot hoa (by intro z;cases z)),List.length_modify]
  exact hot
 ·have hm:n - 1 < A.disputes.length:=by lia
  have D:=F.aK (n - 1) _ (ba hm)
  obtain ⟨dd,gd⟩:=D.ins
  obtain ⟨xl,yl,xy⟩:=hxy _ (Vx (ba hm))
  have ne:L.ad (.aK (n - 1))≠L.ad (.bM (n - 1)):=aV gd D.ask (by intro z;cases z)
  have kp:∀ o,Keeps [L.ad (.aK (n - 1)),L.ad (.bM (n - 1))] H (upd H (L.ad (.bM (n - 1))) o):=λo=>Keeps.upd (by simp)
  have ko:∀ o b u,H b=some u->(∀ kv,u≠.dK kv)->upd H (L.ad (.bM (n - 1))) o b=some u:=λo b u e q=>by
   rw [ak (aV e D.ask (λz=>q _ z))]
   exact e
  have fin:∀ (e:UW) (o:HO),e.x=(aL A (n - 1)).x->e.y=(aL A (n - 1)).y->e.lo=(aL A (n - 1)).lo->e.agreed=(aL A (n - 1)).agreed->e.hi=(aL A (n - 1)).hi->e.asked=(aL A (n - 1)).asked->e.questions=(aL A (n - 1)).questions->e.lost=(aL A (n - 1)).lost->e.verdict=(aL A (n - 1)).verdict->o=.dK (xc e.x e.y e.saidX e.saidY) ->
    ∃ L1,Step H L A (upd H (L.ad (.bM (n - 1))) o) L1 (bA A (n - 1) e)/\aH a bad (upd H (L.ad (.bM (n - 1))) o) L1 (bA A (n - 1) e):=λe o e1 e2 e3 e4 e5 e6 e7 e8 e9 eo=>by
   refine ⟨L.rQ (n - 1) (L.ad (.bM (n - 1))) (L.dt (n - 1)) (L.da (n - 1)) (L.de (n - 1)),Step.rQ (ba hm) (kp _) (.inl rfl),F.rQ (ba hm) (kp _) (.inl rfl) ⟨⟨dd,?_⟩,?_,?_,?_,?_⟩⟩
   ·rw [e3,e5,e6,e7,e8];exact ko _ _ _ gd (by intro kv z;cases z)
   ·rw [e1,e2]
    obtain ⟨ob,q1,q2⟩:=D.hosts
    exact ⟨ob,ko _ _ _ q1 (by intro kv z;cases z),q2⟩
   ·rw [e4];exact ko _ _ _ D.F8 (by intro kv z;cases z)
   ·rw [ae,eo]
   ·rw [e9];exact ko _ _ _ D.fin (by intro kv z;cases z)
  have hp:=hp n0
  refine ⟨L.ad (.aK (n - 1)),a.aR,dd,L.ad (.bM (n - 1)),_,_,.aK (n - 1),by rw [if_neg n0],hm,rfl,gd,T.ay,T.jx,T.bz,rfl,?_,D.ask,by show 2<=1000;decide,?_,ne,?_⟩
  ·unfold sG;rw [if_neg n0];rfl
  ·unfold pN
   rw [if_neg n0]
   by_cases c:(aL A (n - 1)).x=j
   ·rw [if_pos c,<- c];exact LL _ _ _ _
   ·have cy:(aL A (n - 1)).y=j:=by
     unfold Vv at hp
     rw [Wz,beq_iff_eq,beq_iff_eq] at hp
     rcases hp with q | q
     ·exact absurd q c
     ·exact q
    rw [if_neg c,<- cy];exact K9 xy _ _
  ·unfold Ni pN
   rw [if_neg n0,if_neg n0]
   by_cases c:(aL A (n - 1)).x=j
   ·rw [if_pos c,if_pos c]
    refine fin _ _ rfl rfl rfl rfl rfl rfl rfl rfl rfl ?_
    rw [<- c,Jh _ _ _ _ xy]
   ·have cy:(aL A (n - 1)).y=j:=by
     unfold Vv at hp
     rw [Wz,beq_iff_eq,beq_iff_eq] at hp
     rcases hp with q | q
     ·exact absurd q c
     ·exact q
    rw [if_neg c,if_neg c]
    refine fin _ _ rfl rfl rfl rfl rfl rfl rfl rfl rfl ?_
    rw [<- cy,J2 _ _ _ _ xy]
theorem JJ {h:UZ} {N:Nat} {z i:Int} (eA:h.affair=some A) (oA:we A N):(DO A z i≠0->U0 h (.say z i)=U7 h (DO A z i))/\(DO A z i=0->∃ n j:Nat,z=(n:Int)/\i=(j:Int)/\j < A.hosts.length/\n<=A.disputes.length/\(n≠0->Vv (aL A (n - 1)) j=true)/\U0 h (.say z i)=WE h (Ni A n j) n j (sG A n)):=by
 have e:=Rm h z i
 obtain ⟨r1,r2⟩:=Qn (h:=h) (A:=A) (z:=z) (i:=i) (X:=λa i=>WE h { a with saidTo:=a.saidTo.modify i λn=>n+1 } 0 i a.turns) (Y:=λa i e=>WE h (VQ a (if e.x=i then { e with saidX:=e.saidX+1 } else { e with saidY:=e.saidY+1 })) e.no i e.asked) eA oA.num
 refine ⟨λq=>e.trans (r1 q),λq=>?_⟩
 obtain ⟨j,rfl,hj,_,_,c⟩:=r2 q
 rcases c with ⟨rfl,_,es⟩ | ⟨m,rfl,hm,_,hp,_,es⟩
 ·exact ⟨0,j,rfl,rfl,hj,Vt _,λz=>absurd rfl z,e.trans es⟩
 ·refine ⟨m+1,j,rfl,rfl,hj,hm,λ_=>hp,(e.trans es).trans ?_⟩
  have en:=oA.num.at hm
  have eT:sG A (m+1)=(aL A m).asked:=by unfold sG;rw [if_neg (by exact WX _)];rfl
  have eB:Ni A (m+1) j=VQ A (if (aL A m).x=j then { aL A m with saidX:=(aL A m).saidX+1 } else { aL A m with saidY:=(aL A m).saidY+1 }):=by
   unfold Ni
   rw [if_neg (by exact WX _),Nat.add_sub_cancel]
   refine (fw oA.num (j:=m) ?_).symm
   by_cases c:(aL A m).x=j
   ·rw [if_pos c];exact en
   ·rw [if_neg c];exact en
  rw [eT,eB]
  exact congrArg (λq=>WE h (VQ A (if (aL A m).x=j then { aL A m with saidX:=(aL A m).saidX+1 } else { aL A m with saidY:=(aL A m).saidY+1 })) q j (aL A m).asked) en
abbrev Dk (K:UR) (a:bF):Sp:=d8 K a (λxs rs c=>∃ z i,xs=[z,i]/\c=.say z i) vj
theorem JT (T:Txt K mg a):a7 P w K mg base eQ 3 a.mN a.pO ["bench","numbers","rows"] (Dk K a):=by
 refine T.w8.ok nu ki λcdv A outer s H vs Q E hr h0=>r9 h0 λbad be nm rw ln wd L h N xs ps rs c e G hc hW k=>?_
 ·subst e
  obtain ⟨z,i,rfl,rfl⟩:=hc
  obtain ⟨A,eA⟩:=hW
  refine ⟨_,(ah (aN (i:=3) nu.nd rfl (Or.inl rfl) (aJ (az (K:=K)) (pv 1) aw (λ_ _=>rfl)))
   (ah (aN (i:=4) nu.nd rfl (Or.inl rfl) (aJ (az (K:=K)) (pv 1) aw (λ_ _=>rfl)))
   (ah (aN (i:=5) nu.nd rfl (Or.inl rfl) (bC (rm (K:=K) T) hr.lo rfl T.jf T.fG.kp T.jj .nil aE (aa (ai (K:=K) (pv 0) rfl) (aa (pv 3) (aa (pv 4) aj)))))
   (ah (bg (a8 Fy (pv 5) aw (bo _)) (ao (aB (aS (aa (pv 5) aj)))) aO)
   (ah (bg (bG (b0 (ai (K:=K) (pv 0) rfl) T.bJ T.og (xh (K:=K) T) hr.lo T.nD .nil aE)) (ao (aB (aS (aa (aM (by rfl) T.zb) aj)))) aO)
   (ah (aN (i:=6) nu.nd rfl (Or.inl rfl) (aI (ai (K:=K) (pv 0) rfl) T.au T.bB (bR (K:=K) T) hr.lo T.bD .nil aE (aa (pv 3) aj)))
   (ah (Pq (mF hr) (ai (K:=K) (pv 6) rfl) (pv 4) aw uN (λ_ _ _=>rfl))
   (ah (aN (i:=7) nu.nd rfl (Or.inl rfl) (aI (ai (K:=K) (pv 0) rfl) T.bJ T.sV (ya (K:=K) T) hr.lo T.rZ .nil aE (aa (rE T.EH (wm (K:=K) T) hr.lo rfl T.vz T.qd .nil aE (aa (pv 3) (aa (pv 4) (aa (ai (K:=K) (pv 6) rfl) (aa ib aj))))) aj)))
   (ao (aB (aS (aa (pv 7) (aa (ai (K:=K) (pv 6) rfl) aj))))))))))))),?_⟩
  have hz:=sizeLine_eq
  have hN:=G.n
  obtain ⟨dx,hbe⟩:=G.JA eA
  obtain ⟨⟨dl,hln⟩,_⟩:=id G.at_.line
  have F:=G.at_.ka A eA
  have oA:=G.ok.ka A eA
  obtain ⟨da,g1⟩:=F.af
  obtain ⟨r1,r2⟩:=JJ (z:=z) (i:=i) eA oA
  refine vI rfl (bc.of G.nums) (at_of (j:=0) rfl rfl) ?_
  refine vI rfl (bc.of G.nums) (at_of (j:=1) rfl rfl) ?_
  refine vF rfl hbe T.aP T.aF rfl (x2 rfl rfl ⟨bad,L,A,z,i,rfl,F,oA.good.base.once,λH0 s0=>?_⟩)
  refine xE rfl ⟨rfl,xE rfl ?_⟩
  refine Eh (λe=>?_) λe=>?_
  ·exact xE rfl ⟨nG,λc' hc=>k _ _ _ _ c' (G.refuse s0 hc (r1 e))⟩
  ·obtain ⟨n,j,rfl,rfl,hj,hn,hp,es⟩:=r2 e
   have B0:=G.at_.same s0
   refine DZ rfl (s0 _ _ hbe) T.aP T.aW rfl (s0 _ _ hln) rfl ⟨ln,wd,h.line,h.next,h.came,h.gone,rfl,B0.line,xE rfl ?_⟩
   unfold WE at es
   by_cases cf:60<=h.line.length
   ·rw [decide_eq_true cf]
    rw [if_pos (show Vbapaj.LINE<=h.line.length from cf)] at es
    exact bf ⟨nG,λc' hc=>k _ _ _ _ c' (G.refuse s0 hc es)⟩
   ·rw [decide_eq_false cf]
    rw [if_neg (show ¬ Vbapaj.LINE<=h.line.length from cf)] at es
    have F0:=F.same s0
    obtain ⟨p,C,dd,ask,fs,kvs,r,hpe,hr0,hpr,gp,tC,n1,n2,l1,l2,hask,hkl,hv,pne,L1,S1,F1⟩:=Ot (n:=n) (j:=j) T F0 oA.good.xy oA.h2 hj hn hp
    refine bp (DZ rfl (s0 _ _ hbe) T.aP T.aF rfl (s0 _ _ g1) rfl (xE rfl ⟨bad,L,A,n,rfl,F0,hn,?_⟩))
    rw [hpe]
    refine ⟨_,rfl,p,C,dd,_,_,rfl,gp,tC,n1,l1,_,rfl,ask,_,rfl,(by have:=lH.k (k:=Sum.inl (j:Int)) hask;rw [hv] at this;exact this),_,_,rfl,rfl,_,Ih.k (k:=Sum.inl (j:Int)) hask (by lia),?_⟩
    have B1:=B0.xO eA S1 F1
    have gp1:upd H0 ask (.dK (putK kvs (Sum.inl (j:Int)) (.int (((pN A n j:Nat):Int)+1)))) p=some (.ins C dd fs):=by rw [ak pne];exact gp
    generalize hH1:upd H0 ask (.dK (putK kvs (Sum.inl (j:Int)) (.int (((pN A n j:Nat):Int)+1))))=H1 at S1 F1 B1 gp1 ⊢
    obtain ⟨db1,hb1⟩:=B1.ins
    obtain ⟨⟨dl1,hln1⟩,_⟩:=id B1.line
    refine DZ rfl hb1 T.aP T.aW rfl hln1 rfl (x2 rfl rfl (xE rfl ⟨p,C,dd,_,xE rfl ⟨gp1,tC,n2,l2,λx xd nx nxd nex=>⟨x,xd,n,j,sG A n,.dF,rfl,ae,λH2 kp2 hx2=>⟨rfl,?_⟩⟩⟩⟩))
    have s2:ax H1 H2:=ax.made nx nxd λb o e q=>kp2 b o e λm=>q (UX.mp m)
    have B2:=B1.same s2
    have hll:=G.ok.ln
    refine ⟨ln,wd,x,h.line,h.next,h.came,h.gone,{ id:=h.next,dispute:=n,host:=j,turn:=sG A n,answer:=none },rfl,B2.line,⟨xd,.dF,hx2,rfl⟩,rfl,λy hy=>Vh (G.ok.ids y hy),by lia,λH3 kp3 Ln3=>?_⟩
    have B3:=B2.Ny kp3 Ln3
    have off:∀ b,b≠ln->b≠wd->¬ b∈[ln,wd]:=λb h1 h2 m=>by
     rcases U4.mp m with z | m
     ·exact h1 z
     ·exact h2 (UX.mp m)
    have gp3:H3 p=some (.ins C dd fs):=kp3 _ _ (s2 _ _ gp1) (off _ (by rw [hpr];exact (G.at_.Nv eA hr0).2.symm) (by rw [hpr];exact (G.at_.Qs A r eA hr0).symm))
    refine x2 rfl rfl ⟨p,C,dd,_,xE rfl ⟨gp3,tC,n2,l2,O8,λc' hc=>?_⟩⟩
    refine k _ ln wd L1 c' ⟨?_,λb o e nO=>?_,B3.fresh hc,?_⟩
    ·rw [es];exact B3.same (ax.laid hc)
    ·exact ax.laid hc _ _ (kp3 _ _ (s2 _ _ (S1.keep _ _ (s0 _ _ e) λr hr z=>nO (.inr (.inr (.inr ⟨A,r,eA,hr,z⟩))))) (off _ (λz=>nO (.inr (.inl z))) λz=>nO (.inr (.inr (.inl z)))))
    ·rw [es];exact ae
end
theorem D6 {ln wd b:Addr} (h1:b≠ln) (h2:b≠wd):¬ b∈[ln,wd]:=λm=>by
 rcases U4.mp m with z | m
 ·exact h1 z
 ·exact h2 (UX.mp m)
theorem aH.NU {a:bF} {bad:List Addr} {H:Hp} {L:Lay} {A:UQ} (F:aH a bad H L A) {p:Addr} {z:Int} {xs:List V} (h:H p=some (.lst (.int z::xs))) {r:Role} (hr:Lv A r):p≠L.ad r:=λe=>by
 rcases F.kind hr with ⟨_,_,g,_,_,h4,hg⟩ | ⟨_,h4⟩ | ⟨⟨ys,h4⟩,rfl | rfl⟩
 ·rw [e,h4] at h;cases h
 ·rw [e,h4] at h;cases h
 ·have q:=F.run.ES
  rw [<- e,h] at q
  cases t:L.ts with
  | nil=>rw [t] at q;cases q
  | cons u us=>rw [t] at q;cases q
 ·have q:=F.dl
  rw [<- e,h] at q
  cases t:List.range A.disputes.length with
  | nil=>rw [t] at q;cases q
  | cons u us=>rw [t] at q;cases q
section
variable {P:Program} {w:World} {K:UR} {mg:Str->Option Value} {base:Heap} {a:bF}
abbrev yu (K:UR) (a:bF):Sp:=d8 K a (λxs rs c=>∃ z,xs=[z]/\c=.double z) Any
theorem ET (T:Txt K mg a):a7 P w K mg base eQ 3 a.gT a.jO ["bench","numbers","rows"] (yu K a):=by
 refine T.p9.ok xJ ki λcdv A outer s H vs Q E hr h0=>r9 h0 λbad be nm rw ln wd L h N xs ps rs c e G hc hW k=>?_
 ·subst e
  obtain ⟨z,rfl,rfl⟩:=hc
  refine ⟨_,(ah (bg (Fv (zq (mF hr) (aJ (az (K:=K)) (pv 1) aw (λ_ _=>rfl)) (ai (K:=K) (ai (K:=K) (pv 0) rfl) rfl))) (ao (aB (aS (aa (aM (by rfl) T.lG) aj)))) aO)
   (ah (bg (bG (b0 (ai (K:=K) (pv 0) rfl) T.bJ T.og (xh (K:=K) T) hr.lo T.nD .nil aE)) (ao (aB (aS (aa (aM (by rfl) T.zb) aj)))) aO)
   (ah (aN (i:=3) xJ.nd rfl (Or.inl rfl) (ug (mF hr) (ai (K:=K) (ai (K:=K) (pv 0) rfl) rfl) (aJ (az (K:=K)) (pv 1) aw (λ_ _=>rfl)) (λ_ _=>rfl)))
   (ao (aB (aS (aa (aI (ai (K:=K) (pv 0) rfl) T.bJ T.sV (ya (K:=K) T) hr.lo T.rZ .nil aE (aa (rE T.EH (wm (K:=K) T) hr.lo rfl T.vz T.qd .nil aE (aa (ai (K:=K) (pv 3) rfl) (aa (ai (K:=K) (pv 3) rfl) (aa (ai (K:=K) (pv 3) rfl) (aa (ai (K:=K) (pv 3) rfl) aj))))) aj)) aj))))))),?_⟩
  have hN:=G.n
  obtain ⟨dx,hbe⟩:=G.at_.ins
  obtain ⟨⟨dl,hln⟩,kvs,hwd,hD⟩:=id G.at_.line
  refine ⟨_,rfl,iE (bc.of G.nums) (at_of (j:=0) rfl rfl) ⟨_,rfl,fE hbe T.aP T.aW rfl (fE hln T.bJ T.bj rfl ⟨wd,_,rfl,lH.k (k:=Sum.inl z) hwd,_,rfl,?_⟩)⟩⟩
  have es:=MY h z
  rcases Bs hD z with ⟨e1,e2⟩ | ⟨x,q,e1,e2,hq,ez,_,hx⟩
  ·rw [e1] at es
   rw [e2]
   exact bf ⟨nG,λc hc=>k _ _ _ _ c (G.refuse (ax.refl H) hc es)⟩
  ·rw [e1] at es
   have es:U0 h (.double z)=if Vbapaj.LINE<=h.line.length then U7 h (-5) else ({ h with line:=h.line++[{ x with id:=h.next }],next:=h.next+1 },{ value:=(h.next:Int) }):=es
   rw [e2]
   refine bp (DZ rfl hbe T.aP T.aW rfl hln rfl ⟨ln,wd,h.line,h.next,h.came,h.gone,rfl,G.at_.line,xE rfl ?_⟩)
   by_cases cf:60<=h.line.length
   ·rw [decide_eq_true cf]
    rw [if_pos (show Vbapaj.LINE<=h.line.length from cf)] at es
    exact bf ⟨nG,λc' hc=>k _ _ _ _ c' (G.refuse (ax.refl H) hc es)⟩
   ·rw [decide_eq_false cf]
    rw [if_neg (show ¬ Vbapaj.LINE<=h.line.length from cf)] at es
    obtain ⟨dq,sv,hq1,hq2⟩:=hq
    refine bp (vF rfl hbe T.aP T.aW rfl (fE hln T.bJ T.bj rfl (vI rfl (bc.of G.nums) (at_of (j:=0) rfl rfl) (dE (by have:=lH.k (k:=Sum.inl z) hwd;rw [e2] at this;exact this) ?_))))
    refine DZ rfl hbe T.aP T.aW rfl hln rfl (vF rfl hq1 T.dA T.iM rfl (vF rfl hq1 T.dA T.k8 rfl (vF rfl hq1 T.dA T.kf rfl (vF rfl hq1 T.dA T.lQ rfl (λy yd ny nyd nye=>⟨y,yd,x.dispute,x.host,x.turn,sv,rfl,ae,λH2 kp2 hy2=>⟨rfl,?_⟩⟩)))))
    have s2:ax H H2:=ax.made ny nyd λb o e q=>kp2 b o e λm=>q (UX.mp m)
    have B2:=G.at_.same s2
    have hll:=G.ok.ln
    refine ⟨ln,wd,y,h.line,h.next,h.came,h.gone,{ x with id:=h.next },rfl,B2.line,⟨yd,sv,hy2,hq2.qh λb xs e=>s2 _ _ e⟩,rfl,λy hy=>Vh (G.ok.ids y hy),by lia,λH3 kp3 Ln3=>⟨nG,λc' hc=>?_⟩⟩
    have B3:=B2.Ny kp3 Ln3
    refine k _ ln wd L c' ⟨?_,λb o e nO=>?_,B3.fresh hc,?_⟩
    ·rw [es];exact B3.same (ax.laid hc)
    ·exact ax.laid hc _ _ (kp3 _ _ (s2 _ _ e) (D6 (λz=>nO (.inr (.inl z))) λz=>nO (.inr (.inr (.inl z)))))
    ·rw [es];exact ae
noncomputable def MS (h:UZ) (A:UQ) (z i:Int):Int :=
 if DO A z i≠0 then DO A z i
 else if pN A z.toNat i.toNat<=A.mayLose then -8
 else if h.line.any (nT z.toNat i.toNat (sG A z.toNat))=true then -9 else 0
theorem M0 {h:UZ} {A:UQ} {N:Nat} {z i:Int} (eA:h.affair=some A) (oA:we A N):(MS h A z i≠0->U0 h (.hush z i)=U7 h (MS h A z i))/\(MS h A z i=0->∃ n j:Nat,z=(n:Int)/\i=(j:Int)/\j < A.hosts.length/\n<=A.disputes.length/\(US A j).out=false/\(n≠0->Vv (aL A (n - 1)) j=true)/\U0 h (.hush z i)=(Ws h (oI A n j),{ value:=(j:Int) })):=by
 have e:=P4 h z i
 obtain ⟨r1,r2⟩:=Qn (h:=h) (A:=A) (z:=z) (i:=i) (X:=λa i=>if a.saidTo.getD i 0<=a.mayLose then U7 h (-8) else if Vbapaj.underWay h 0 i a.turns=true then U7 h (-9) else (Ws h (Vp (Vu a i none)),{ value:=(i:Int) }))
  (Y:=λa i e=>if (if e.x=i then e.saidX else e.saidY)<=a.mayLose then U7 h (-8) else if Vbapaj.underWay h e.no i e.asked=true then U7 h (-9) else (Ws h (VL (VQ a { e with verdict:=some (.silent i) }) { e with verdict:=some (.silent i) }),{ value:=(i:Int) })) eA oA.num
 unfold MS
 by_cases q:DO A z i=0
 ·rw [if_neg (λw=>w q)]
  obtain ⟨j,rfl,hj,ho,_,c⟩:=r2 q
  rcases c with ⟨rfl,_,es⟩ | ⟨m,rfl,hm,_,hp,_,es⟩
  ·have es:=e.trans es
   show (_->_)/\_
   have a0:pN A (0:Int).toNat (j:Int).toNat=A.saidTo.getD j 0:=rfl
   have t0:sG A (0:Int).toNat=A.turns:=rfl
   rw [a0,t0]
   by_cases c1:A.saidTo.getD j 0<=A.mayLose
   ·rw [if_pos c1] at es ⊢
    exact ⟨λ_=>es,λz=>absurd z (by decide)⟩
   ·rw [if_neg c1] at es ⊢
    by_cases c2:Vbapaj.underWay h 0 j A.turns=true
    ·rw [if_pos c2] at es
     rw [if_pos (show h.line.any (nT (0:Int).toNat (j:Int).toNat A.turns)=true from c2)]
     exact ⟨λ_=>es,λz=>absurd z (by decide)⟩
    ·rw [if_neg c2] at es
     rw [if_neg (show ¬ h.line.any (nT (0:Int).toNat (j:Int).toNat A.turns)=true from c2)]
     exact ⟨λz=>absurd rfl z,λ_=>⟨0,j,rfl,rfl,hj,Vt _,ho,λz=>absurd rfl z,es⟩⟩
  ·have es:=e.trans es
   have en:=oA.num.at hm
   have a0:pN A ((m+1:Nat):Int).toNat (j:Int).toNat=if (aL A m).x=j then (aL A m).saidX else (aL A m).saidY:=by
    show pN A (m+1) j=_
    unfold pN
    rw [if_neg (by exact WX _),Nat.add_sub_cancel]
   have t0:sG A ((m+1:Nat):Int).toNat=(aL A m).asked:=by
    show sG A (m+1)=_
    unfold sG
    rw [if_neg (by exact WX _),Nat.add_sub_cancel]
   rw [a0,t0]
   by_cases c1:(if (aL A m).x=j then (aL A m).saidX else (aL A m).saidY)<=A.mayLose
   ·rw [if_pos c1] at es ⊢
    exact ⟨λ_=>es,λz=>absurd z (by decide)⟩
   ·rw [if_neg c1] at es ⊢
    by_cases c2:Vbapaj.underWay h (aL A m).no j (aL A m).asked=true
    ·rw [if_pos c2] at es
     rw [en] at c2
     rw [if_pos (show h.line.any (nT ((m+1:Nat):Int).toNat (j:Int).toNat (aL A m).asked)=true from c2)]
     exact ⟨λ_=>es,λz=>absurd z (by decide)⟩
    ·rw [if_neg c2] at es
     rw [en] at c2
     rw [if_neg (show ¬ h.line.any (nT ((m+1:Nat):Int).toNat (j:Int).toNat (aL A m).asked)=true from c2)]
     refine ⟨λz=>absurd rfl z,λ_=>⟨m+1,j,rfl,rfl,hj,hm,ho,λ_=>hp,es.trans ?_⟩⟩
     rw [GA oA.num hm]
 ·rw [if_pos q]
  exact ⟨λ_=>e.trans (r1 q),λw=>absurd w q⟩
def Dv (K:UR) (a:bF):Sp:=λvs H Q _=>∃ (bad:List Addr) (be ln wd:Addr) (L:Lay) (h:UZ) (N:Nat) (A:UQ) (z i:Int),vs=[.ref be,.int z,.int i]/\bh a bad H be ln wd L h/\o5 h N/\N<=400/\h.affair=some A/\∀ H',ax H H'->Q (.int (MS h A z i)) H'
theorem Dz (T:Txt K mg a):a7 P w K mg base eQ 3 a.kI a.lB ["bench","number","host"] (Dv K a):=by
 refine T.oq.ok qQ ?_ ?_
 ·rintro _ _ _ _ ⟨_,_,_,_,_,_,_,_,_,_,rfl,_⟩
  rfl
 ·rintro cdv A outer s H _ Q E hr ⟨bad,be,ln,wd,L,h,N,A,z,i,rfl,B,oH,hN,eA,k⟩
  refine ⟨_,(ah (aN (i:=3) qQ.nd rfl (Or.inl rfl) (bC (rm (K:=K) T) hr.lo rfl T.jf T.fG.kp T.jj .nil aE (aa (ai (K:=K) (pv 0) rfl) (aa (pv 1) (aa (pv 2) aj)))))
   (ah (bg (a8 Fy (pv 3) aw (bo _)) (ao (aB (pv 3))) aO)
   (ah (aN (i:=4) qQ.nd rfl (Or.inl rfl) (aI (ai (K:=K) (pv 0) rfl) T.au T.bB (bR (K:=K) T) hr.lo T.bD .nil aE (aa (pv 1) aj)))
   (ah (bg (a8 lA (ug (mF hr) (ai (K:=K) (pv 4) rfl) (pv 2) (λ_ _=>rfl)) (ai (K:=K) (ai (K:=K) (pv 0) rfl) rfl) (bo _)) (ao (aB (aM (by rfl) T.AH))) aO)
   (ao (aB (ow (bG (aI (ai (K:=K) (pv 0) rfl) T.bJ T.jU (wM (K:=K) T) hr.lo T.jT .nil aE (aa (pv 1) (aa (pv 2) (aa (ai (K:=K) (pv 4) rfl) aj))))) (aM (by rfl) T.Dx) aw))))))),?_⟩
  have F:=B.ka A eA
  have oA:=oH.ka A eA
  obtain ⟨dx,hbe⟩:=B.ins
  unfold BI at hbe
  rw [eA] at hbe
  have hbe:H be=some (.ins a.iz dx (AM ln (.ref (L.ad .af)))):=hbe
  obtain ⟨⟨dl,hln⟩,_⟩:=id B.line
  obtain ⟨da,g1⟩:=F.af
  obtain ⟨_,r2⟩:=JJ (h:=h) (z:=z) (i:=i) eA oA
  unfold MS at k
  refine vF rfl hbe T.aP T.aF rfl (x2 rfl rfl ⟨bad,L,A,z,i,rfl,F,oA.good.base.once,λH0 s0=>?_⟩)
  refine xE rfl ⟨rfl,xE rfl ?_⟩
  refine Eh (λe=>?_) λe=>?_
  ·have:=k H0 s0
   rw [if_pos e] at this
   exact xE rfl this
  ·obtain ⟨n,j,rfl,rfl,hj,hn,hp,_⟩:=r2 e
   have F0:=F.same s0
   obtain ⟨p,C,dd,ask,fs,kvs,r,hpe,hr0,hpr,gp,tC,n1,n2,l1,l2,hask,hkl,hv,pne,_⟩:=Ot (n:=n) (j:=j) T F0 oA.good.xy oA.h2 hj hn hp
   have k2:∀ H',ax H H'->Q (.int (if pN A n j<=A.mayLose then -8 else if h.line.any (nT n j (sG A n))=true then -9 else 0)) H':=λH' s'=>by
    have:=k H' s'
    rw [if_neg (λw=>w e)] at this
    exact this
   clear k
   refine DZ rfl (s0 _ _ hbe) T.aP T.aF rfl (s0 _ _ g1) rfl (xE rfl ⟨bad,L,A,n,rfl,F0,hn,?_⟩)
   rw [hpe]
   refine xE rfl ⟨p,C,dd,_,xE rfl ⟨gp,tC,n1,l1,xE rfl (dE (by have:=lH.k (k:=Sum.inl (j:Int)) hask;rw [hv] at this;exact this) (vF rfl (s0 _ _ hbe) T.aP T.aF rfl (fE (s0 _ _ g1) T.au T.et rfl ⟨_,xE rfl ⟨rfl,xE rfl ?_⟩⟩)))⟩⟩
   refine OU (λc=>?_) λc=>?_
   ·have:=k2 H0 s0
    rw [if_pos (by lia)] at this
    exact this
   ·have hll:=oH.ln
    refine DZ rfl (s0 _ _ hbe) T.aP T.aW rfl (s0 _ _ hln) rfl (x2 rfl rfl (xE rfl ⟨p,C,dd,_,xE rfl ⟨gp,tC,n2,l2,ln,wd,h.line,h.next,h.came,h.gone,n,j,sG A n,rfl,(B.same s0).line,by lia,λH1 s1=>xE rfl ?_⟩⟩))
    have:=k2 H1 (s0.trans s1)
    rw [if_neg (by lia)] at this
    cases c2:h.line.any (nT n j (sG A n)) with
    | true=>rw [if_pos c2] at this;exact bf this
    | false=>rw [if_neg (by rw [c2];decide)] at this;exact bp this
abbrev Be (K:UR) (a:bF):Sp:=d8 K a (λxs rs c=>∃ z i,xs=[z,i]/\c=.hush z i) vj
theorem HM (T:Txt K mg a):a7 P w K mg base eQ 6 a.lg a.nv ["bench","numbers","rows"] (Be K a):=by
 refine T.uc.ok By ki λcdv A outer s H vs Q E hr h0=>r9 h0 λbad be nm rw ln wd L h N xs ps rs c e G hc hW k=>?_
 ·subst e
  obtain ⟨z,i,rfl,rfl⟩:=hc
  obtain ⟨A,eA⟩:=hW
  refine ⟨_,(ah (aN (i:=3) By.nd rfl (Or.inl rfl) (bC (Dz (K:=K) T) hr.lo rfl T.tD T.oq.kp T.rS .nil aE (aa (pv 0) (aa (aJ (az (K:=K)) (pv 1) aw (λ_ _=>rfl)) (aa (aJ (az (K:=K)) (pv 1) aw (λ_ _=>rfl)) aj)))))
   (ah (bg (a8 Fy (pv 3) aw (bo _)) (ao (aB (aS (aa (pv 3) aj)))) aO)
   (ah (bQ (aI (ai (K:=K) (pv 0) rfl) T.au T.iC (uT (K:=K) T) hr.lo T.i5 .nil aE (aa (aJ (az (K:=K)) (pv 1) aw (λ_ _=>rfl)) (aa (aJ (az (K:=K)) (pv 1) aw (λ_ _=>rfl)) aj))))
   (ao (aB (aS (aa (aJ (az (K:=K)) (pv 1) aw (λ_ _=>rfl)) aj))))))),?_⟩
  obtain ⟨dx,hbe⟩:=G.JA eA
  have F:=G.at_.ka A eA
  have oA:=G.ok.ka A eA
  obtain ⟨da,g1⟩:=F.af
  obtain ⟨r1,r2⟩:=M0 (h:=h) (z:=z) (i:=i) eA oA
  refine xE rfl (vI rfl (bc.of G.nums) (at_of (j:=0) rfl rfl) (vI rfl (bc.of G.nums) (at_of (j:=1) rfl rfl) ⟨bad,be,ln,wd,L,h,N,A,z,i,rfl,G.at_,G.ok,G.n,eA,λH0 s0=>?_⟩))
  refine xE rfl ⟨rfl,xE rfl ?_⟩
  refine Eh (λe=>?_) λe=>?_
  ·exact xE rfl ⟨nG,λc' hc=>k _ _ _ _ c' (G.refuse s0 hc (r1 e))⟩
  ·obtain ⟨n,j,rfl,rfl,hj,hn,ho,hp,es⟩:=r2 e
   have F0:=F.same s0
   refine DZ rfl (s0 _ _ hbe) T.aP T.aF rfl (s0 _ _ g1) rfl (vI rfl (bc.of (s0 _ _ G.nums)) (at_of (j:=0) rfl rfl) (vI rfl (bc.of (s0 _ _ G.nums)) (at_of (j:=1) rfl rfl) ⟨bad,L,A,n,j,rfl,F0,oA.good.xy,hn,hj,ho,λn0=>?_,λH1 L1 S1 F1=>?_⟩))
   ·have:=hp n0
    unfold Vv at this
    rw [Wz,beq_iff_eq,beq_iff_eq] at this
    rcases this with q | q
    ·exact .inl q.symm
    ·exact .inr q.symm
   ·have hn1:=S1.keep _ _ (s0 _ _ G.nums) λr hr=>F0.NU (s0 _ _ G.nums) hr
    refine vI rfl (bc.of hn1) (at_of (j:=1) rfl rfl) ⟨nG,λc' hc=>?_⟩
    have S2:=(Step.same (L:=L) (A:=A) s0).trans S1
    exact k _ _ _ _ c' (G.ka eA (S2.trans (Step.same (ax.laid hc))) (F1.same (ax.laid hc)) (by rw [es];rfl) ((G.at_.xO eA S2 F1).fresh hc) (ns:=[(j:Int)]) (by rw [es];rfl) ae)
end
def vR:Option UU->PyData
 | none=>.none
 | some r=>jy (stI r)
theorem LO (x y:Option UU):PyData.eqv (vR x) (vR y)=decide (x=y):=by
 cases x with
 | none=>cases y with
  | none=>simp [vR,PyData.eqv]
  | some s=>simp [vR,jy,PyData.eqv]
 | some r=>cases y with
  | none=>simp [vR,jy,PyData.eqv]
  | some s =>
   show PyData.eqv (jy (stI r)) (jy (stI s))=_
   rw [sf,BE]
   by_cases e:r=s<;>simp [e]
theorem Ft (x:Option UU):SeqAt.shaped (vR x)=true:=by
 cases x with
 | none=>rfl
 | some r=>exact shaped_ints _
theorem MH (x:Option UU):(vR x).depth<=3:=by
 cases x with
 | none=>decide
 | some r =>
  show (jy (stI r)).depth<=3
  unfold jy
  have:=AJ (stI r)
  simp only [PyData.depth]
  lia
theorem CQ:∀ os:List (Option UU),PyData.canLayAll0 (os.map vR)=true
 | []=>by simp [PyData.canLayAll0]
 | o::r=>by
  have h:=Ft o
  unfold SeqAt.shaped at h
  rw [U6] at h
  simp only [VM,PyData.canLayAll0,h.1,CQ r,Bool.and_self]
theorem EJ:∀ os:List (Option UU),PyData.depthAll (os.map vR)<=4
 | []=>by simp [PyData.depthAll]
 | o::r=>by
  have h1:=MH o
  have h2:=EJ r
  simp only [VM,PyData.depthAll]
  lia
theorem CP (os:List (Option UU)):SeqAt.shaped (.list (os.map vR))=true:=by
 unfold SeqAt.shaped
 rw [U6]
 refine ⟨by rw [PyData.canLay0];exact CQ os,decide_eq_true ?_⟩
 have:=EJ os
 simp only [PyData.depth]
 lia
theorem N3 {K:UR} {H:Hp} {v:V} {o:Option UU} (h:kj H v o):Dp K H v (vR o):=by
 cases o with
 | none =>
  obtain rfl:v=.dF:=h
  exact .dF
 | some r =>
  obtain ⟨q,rfl,hq⟩:=h
  exact pQ (gg.of (by rw [hq,fN]))
theorem G6 {K:UR} {H:Hp}:∀ {vs:List V} {os:List (Option UU)},Paired (kj H) vs os->zM K H vs (os.map vR)
 | _,_,.nil=>.nil
 | _,_,.cons h r=>.cons (N3 h) (G6 r)
theorem any_none (os:List (Option UU)):((os.map vR).any λz=>PyData.eqv z .none)=os.any λo=>o.isNone:=by
 rw [Wn]
 congr 1
 funext o
 show PyData.eqv (vR o) (vR none)=_
 rw [LO]
 cases o<;>simp
theorem MI (os:List (Option UU)) (o:Option UU):((os.map vR).countP λz=>PyData.eqv z (vR o))=os.countP λx=>decide (x=o):=by
 rw [List.countP_map]
 congr 1
 funext x
 exact LO x o
theorem OI (os:List (Option UU)) (o:Option UU):(os.countP λx=>decide (x=o)) < os.length ↔ (os.any λx=>x != o)=true:=by
 induction os with
 | nil=>simp
 | cons x r ih =>
  rw [List.countP_cons,Vj,VP,Wz]
  by_cases c:x=o
  ·have e1:decide (x=o)=true:=decide_eq_true c
   have e2:(x != o)=false:=by rw [c];simp
   rw [e1,e2,if_pos rfl]
   constructor
   ·intro h;exact .inr (ih.mp (by lia))
   ·rintro (h | h)
    ·cases h
    ·have:=ih.mpr h;exact Nat.succ_lt_succ ‹_›
  ·have e1:decide (x=o)=false:=decide_eq_false c
   have e2:(x != o)=true:=by simpa using c
   rw [e1,e2,if_neg (by decide)]
   have:=List.countP_le_length (p:=λx=>decide (x=o)) (l:=r)
   exact ⟨λ_=>.inl rfl,λ_=>by lia⟩
def AQ (A:UQ):List (Option UU):=(Iv A).map λi=>UY A i A.turns
theorem Nw (A:UQ):(Vbapaj.ends A).map (·.2)=AQ A:=by
 rw [Ls,V0]
 rfl
def HA (A:UQ) (s:UU):UQ:={ A with found:=some s }
def Gr (h:UZ) (A:UQ) (n:Int):Option UU->UZ × VG
 | none=>U7 h (-4)
 | some s=>(Ws h (HA A s),{ value:=n,rows:=[WY s] })
theorem Kz {h:UZ} {A:UQ} (eA:h.affair=some A):U0 h .close =
  if A.found.isSome=true then U7 h (-3)
  else match AQ A with
  | []=>U7 h (-10)
  | o::r=>if ((o::r).any λx=>x.isNone)=true then U7 h (-4)
   else if ((o::r).any λx=>x != o)=true then U7 h (-12)
   else Gr h A ((o::r).length:Int) o:=by
 rw [NK,ik eA]
 split
 ·rfl
 ·rw [<- Nw]
  cases q:Vbapaj.ends A with
  | nil=>rfl
  | cons e r =>
   obtain ⟨i,o⟩:=e
   cases o with
   | none=>rfl
   | some s =>
    show (if r.any (λx=>x.2.isNone)=true then _ else if r.any (λx=>x.2 != some s)=true then _ else _)=if ((some s::r.map (·.2)).any λx=>x.isNone)=true then _ else if ((some s::r.map (·.2)).any λx=>x != some s)=true then _ else _
    have e1:((some s::r.map (·.2)).any λx=>x.isNone)=r.any λx=>x.2.isNone:=by
     rw [VP,Wn]
     rfl
    have e2:((some s::r.map (·.2)).any λx=>x != some s)=r.any λx=>x.2 != some s:=by
     rw [VP,Wn,bne_self_eq_false,Bool.false_or]
     rfl
    rw [e1,e2]
    have e3:(((i,some s)::r).length:Int)=((some s::r.map (·.2)).length:Int):=by simp
    rw [e3]
    rfl
section
variable {P:Program} {w:World} {K:UR} {mg:Str->Option Value} {base:Heap} {a:bF}
abbrev zF (K:UR) (a:bF):Sp:=d8 K a (λxs rs c=>c=.close) vj
theorem FW (T:Txt K mg a):a7 P w K mg base eQ 2 a.je a.lT ["bench","numbers","rows"] (zF K a):=by
 refine T.rD.ok pZ ki λcdv A outer s H vs Q E hr h0=>r9 h0 λbad be nm rw ln wd L h N xs ps rs c e G hc hW k=>?_
 ·subst e
  obtain rfl:=hc
  obtain ⟨A,eA⟩:=hW
  refine ⟨_,(ah (aN (i:=3) pZ.nd rfl (Or.inr rfl) (ai (K:=K) (pv 0) rfl))
   (ah (bg (bG (ai (K:=K) (pv 3) rfl)) (ao (aB (aS (aa (aM (by rfl) T.vE) aj)))) aO)
   (ah (Bp (i:=4) rfl pZ.nd rfl rfl (DV rfl rfl rfl (by decide +kernel)) (kR (K:=K) (b0 (pv 3) T.au T.jY (sF (K:=K) T) hr.lo T.j4 .nil aE)) (eU (own:=[("host",5)]) (by show xC ["bench","numbers","rows","affair","ends","host"] (aq rO) _ _=true;decide +kernel)) (λ_ _ _ _ _=>ff (i:=5) pZ.nd rfl (Or.inl rfl)) (λ_ _ _ _ _=>oP) (λ_ _ _ _ _=>(El (mF hr) (ai (K:=K) (pv 5) rfl) (ai (K:=K) (pv 3) rfl) ⟨rfl,rfl,rfl,rfl⟩)))
   (ah (bg (ia (zk (K:=K) (pv 4) (λ_=>rfl))) (ao (aB (aS (aa (aM (by rfl) T.vc) aj)))) aO)
   (ah (bg (a8 (PD (K:=K) (SJ hr)) ib (pv 4) rfl) (ao (aB (aS (aa (aM (by rfl) T.sT) aj)))) aO)
   (ah (bg (a8 J8 (zR (K:=K) WT PySem.F.slot_list_count PySem.F.type_list_count (MB (K:=K) (SJ hr)) (pv 4) (aa (aJ (az (K:=K)) (pv 4) aw (λ_ _=>rfl)) aj)) (aT (a6 (K:=K)) (by rfl) T.dM Vd (aa (pv 4) aj)) (bo _)) (ao (aB (aS (aa (aM (by rfl) T.vL) aj)))) aO)
   (ah (aQ (K:=K) (pv 3) Ed rfl)
   (ao (aB (b5 lZ (aS (aa (aT (a6 (K:=K)) (by rfl) T.dM Vd (aa (pv 4) aj)) aj)) (bC (eO (K:=K) T) hr.lo rfl T.dm T.cu.kp T.df .nil aE (aa (aJ (az (K:=K)) (pv 4) aw (λ_ _=>rfl)) aj)))))))))))),?_⟩
  have hz:=sizeLine_eq
  obtain ⟨dx,hbe⟩:=G.JA eA
  have F:=G.at_.ka A eA
  have oA:=G.ok.ka A eA
  have h6:=oA.h2
  obtain ⟨da,g1⟩:=F.af
  have es:=Kz eA
  refine vF rfl hbe T.aP T.aF rfl ?_
  refine vF rfl g1 T.au T.cz rfl (xE rfl ?_)
  cases c3:A.found.isSome with
  | true =>
   rw [if_pos c3] at es
   exact bf ⟨nG,λc' hc=>k _ _ _ _ c' (G.refuse (ax.refl H) hc es)⟩
  | false =>
   rw [if_neg (by rw [c3];decide)] at es
   refine bp ?_
   have il:(Iv A).length<=6:=by
    have:=VU (λi=>!(US A i).out) (List.range A.hosts.length)
    rw [VA] at this
    unfold Iv
    exact U8 ‹_› ‹_›
   refine vM rfl g1 rfl ⟨bad,L,A,rfl,F,by lia,λH1 c1 s1 hc1 h1=>?_⟩
   have F1:=F.same s1
   refine ⟨c1,rfl,⟨_,bc.of h1⟩,λD hD=>tZ (K:=K) (xs:=(Iv A).map λi=>V.ref (L.ad (.host i))) (λi H2=>∃ vs,H2 D=some (.lst vs)/\Paired (kj H) vs (((Iv A).take i).map λi=>UY A i A.turns)/\ax H1 H2) ⟨[],ae,.nil,ax.laid hD⟩ (λi H2 _ ⟨_,_,_,q⟩=>bc.of (q _ _ h1)) ?_ ?_⟩
   ·rintro i x H2 hx ⟨vs,q1,q2,q3⟩
    obtain ⟨j,hj,rfl⟩:=rT hx
    have jl:j < A.hosts.length:=Vq.mp (V5.mp (Vx hj)).1
    have s2:=s1.trans q3
    obtain ⟨dh,g2⟩:=F.host j jl
    obtain ⟨kvs,g3,hD3⟩:=F.qa j jl
    refine ⟨rfl,EZ (vF rfl (s2 _ _ g2) T.bK T.lP rfl ⟨L.ad (.qa j),rfl,.inl ⟨_,.inl (s2 _ _ g3)⟩,vF rfl (s2 _ _ g1) T.au T.fC rfl ⟨_,lH.k (k:=Sum.inl (A.turns:Int)) (s2 _ _ g3),_,q1,?_,_,ae,?_,cO q3 hD⟩⟩)⟩
    ·rw [Paired.length q2,UT,Vr];lia
    ·rw [take_snoc hj,Vk]
     refine qD q2 ?_
     show kj H _ (UY A j A.turns)
     rw [<- zx A j A.turns oA.good.base.once]
     rcases hD3.get A.turns with ⟨w1,w2⟩ | ⟨b,v,w1,w2,w3⟩
     ·rw [w1,w2];rfl
     ·rw [w1,w2];exact w3
   ·rintro H2 ⟨vs,q1,q2,q3⟩
    rw [UT,VV] at q2
    have q2:Paired (kj H) vs (AQ A):=q2
    have s2:=s1.trans q3
    have q2':Paired (kj H2) vs (AQ A):=um (λb xs e=>s2 _ _ e) q2
    have vl:vs.length=(AQ A).length:=Paired.length q2
    have ol:(AQ A).length<=6:=by unfold AQ;rw [UT];exact il
    refine xE rfl ⟨_,.inl ⟨_,bc.of q1,rfl⟩,?_⟩
    clear q2
    have hsm:∀ s9,some s9∈AQ A->s9.nums.length<=6:=λs9 hs9=>by
     obtain ⟨i,_,hi⟩:=Vb.mp hs9
     obtain ⟨x,hx,rfl⟩:=qk hi
     exact yG oA (oA.good.cn x hx)
    generalize AQ A=os at es q2' vl ol hsm
    cases q2' with
    | nil=>exact bf ⟨nG,λc' hc=>k _ _ _ _ c' (G.refuse s2 hc es)⟩
    | cons r0 rr =>
     rename_i v o vr orr
     have q2':Paired (kj H2) (v::vr) (o::orr):=.cons r0 rr
     have es:U0 h .close=if ((o::orr).any λx=>x.isNone)=true then U7 h (-4)
       else if ((o::orr).any λx=>x != o)=true then U7 h (-12)
       else Gr h A ((o::orr).length:Int) o:=es
     refine bp (xE rfl ⟨D,_,(o::orr).map vR,.none,rfl,bc.of q1,G6 q2',.dF,CP _,rfl,xE rfl ?_⟩)
     rw [any_none]
     cases c4:((o::orr).any λx=>x.isNone) with
     | true =>
      rw [if_pos c4] at es
      exact bf ⟨nG,λc' hc=>k _ _ _ _ c' (G.refuse s2 hc es)⟩
     | false =>
      rw [if_neg (by rw [c4];decide)] at es
      refine bp (xE rfl ⟨.inl ⟨rfl,_,bc.of q1⟩,vI rfl (bc.of q1) (at_of (j:=0) rfl rfl) ⟨D,_,v,(o::orr).map vR,vR o,rfl,rfl,bc.of q1,G6 q2',N3 r0,CP _,Ft _,xE rfl ⟨D,xE rfl ⟨.inl (bc.of q1),_,xE rfl ⟨rfl,xE rfl ?_⟩⟩⟩⟩⟩)
      rw [MI]
      have cl:=OI (o::orr) o
      cases c5:((o::orr).any λx=>x != o) with
      | true =>
       rw [if_pos c5] at es
       have:=cl.mpr c5
       rw [decide_eq_true (show (((o::orr).countP λx=>decide (x=o):Nat):Int) < ((v::vr).length:Int) by lia)]
       exact bf ⟨nG,λc' hc=>k _ _ _ _ c' (G.refuse s2 hc es)⟩
      | false =>
       rw [if_neg (by rw [c5];decide)] at es
       have nl:¬ ((o::orr).countP λx=>decide (x=o)) < (o::orr).length:=λz=>by rw [cl.mp z] at c5;cases c5
       rw [decide_eq_false (show ¬ (((o::orr).countP λx=>decide (x=o):Nat):Int) < ((v::vr).length:Int) by lia)]
       cases o with
       | none=>rw [VP] at c4;cases c4
       | some s9 =>
        obtain ⟨u,rfl,hu⟩:=r0
        have es:U0 h .close=(Ws h (HA A s9),{ value:=((some s9::orr).length:Int),rows:=[WY s9] }):=es
        have F2:=F.same s2
        refine bp (vS rfl (s2 _ _ g1) T.au T.cz (by show 8 < 1000;decide) ?_)
        have kp:∀ o,Keeps ((Role.af::(List.range A.hosts.length).map Role.host).map L.ad) H2 (upd H2 (L.ad .af) o):=λo=>Keeps.upd (Vb.mpr ⟨.af,Vi ..,rfl⟩)
        have F3:aH a bad (upd H2 (L.ad .af) (.ins a.aG da (aZ (Str.ofString "end_found") (.bl true) (EV L A)))) L (HA A s9):=F2.OO (hs:=A.hosts) (pu:=A.purse) (fo:=some s9) rfl (λ_ _=>rfl) (kp _) ⟨da,ae⟩ λi hi=>by
         obtain ⟨dh,g2⟩:=F2.host i hi
         exact ⟨dh,by rw [ak (λz=>by have:=F2.inj (.host i) .af hi trivial z;cases this)];exact g2⟩
        have S3:Step H2 L A (upd H2 (L.ad .af) (.ins a.aG da (aZ (Str.ofString "end_found") (.bl true) (EV L A)))) L (HA A s9):=Step.OO (kp _) rfl rfl
        have DA:D≠L.ad .af:=aV q1 (s2 _ _ g1) (by intro z;cases z)
        have uA:u≠L.ad .af:=aV hu (s2 _ _ g1) (by intro z;cases z)
        have q3':upd H2 (L.ad .af) (.ins a.aG da (aZ (Str.ofString "end_found") (.bl true) (EV L A))) D=some (.lst (.ref u::vr)):=by rw [ak DA];exact q1
        have hu3:upd H2 (L.ad .af) (.ins a.aG da (aZ (Str.ofString "end_found") (.bl true) (EV L A))) u=some (.tup (FL s9)):=by rw [ak uA];exact hu
        have S3':=(Step.same (L:=L) (A:=A) s2).trans S3
        generalize upd H2 (L.ad .af) (.ins a.aG da (aZ (Str.ofString "end_found") (.bl true) (EV L A)))=H3 at F3 S3' q3' hu3 ⊢
        have B3:=G.at_.xO eA S3' F3
        have sm:=hsm s9 (Vi ..)
        refine xE rfl ⟨D,xE rfl ⟨.inl (bc.of q3'),nG,λt ht=>?_⟩⟩
        have s4:=ax.laid (o:=.lst [.int ((V.ref u::vr).length:Int)]) ht
        refine vI rfl (bc.of (s4 _ _ q3')) (at_of (j:=0) rfl rfl) ⟨u,stI s9,rfl,.inr (gg.of (by rw [<- fN];exact s4 _ _ hu3)),by rw [mJ];lia,λH5 g s5 hg h5=>?_⟩
        refine ⟨t,g,_,xE rfl ⟨rfl,s5 _ _ ae,h5,by show 1+(VM V.int _).length<=sizeLine;rw [UT,Vj,mJ];lia,λe he=>?_⟩⟩
        have s6:=(s4.trans s5).trans (ax.laid (o:=.lst ([V.int ((V.ref u::vr).length:Int)]++VM V.int (((stI s9).length:Int)::stI s9))) he)
        exact k _ _ _ _ e (G.ka eA (S3'.trans (Step.same s6)) (F3.same s6) (by rw [es];rfl) ((B3.same (s4.trans s5)).fresh he) (ns:=((some s9::orr).length:Int)::(((stI s9).length:Int)::stI s9)) (by rw [es];exact (vG _ _).symm) (by rw [ae,vl];rfl))
end
noncomputable def v3 (A:UQ) (n:Nat):Nat:=if n=0 then A.lost else (aL A (n - 1)).lost
noncomputable def E2 (A:UQ) (n:Nat):UQ:=if n=0 then TM A A.saidTo (A.lost+1) else bA A (n - 1) { aL A (n - 1) with lost:=(aL A (n - 1)).lost+1 }
section
variable {P:Program} {w:World} {K:UR} {mg:Str->Option Value} {base:Heap} {a:bF}
theorem PN {bad:List Addr} {H:Hp} {L:Lay} {A:UQ} (T:Txt K mg a) (F:aH a bad H L A) {n:Nat} (hn:n<=A.disputes.length) :
  ∃ (p C dd:Addr) (fs:List (Str × V)) (r:Role),(if n=0 then L.ad .op else L.ad (.aK (n - 1)))=p/\Lv A r/\p=L.ad r/\H p=some (.ins C dd fs)/\zr K C/\aU K C "lost"/\fs.lookup (Str.ofString "lost")=some (.int ((v3 A n:Nat):Int))/\fs.length<=9 /\
   ∃ L1,Step H L A (upd H p (.ins C dd (aZ (Str.ofString "lost") (.int (((v3 A n:Nat):Int)+1)) fs))) L1 (E2 A n)/\aH a bad (upd H p (.ins C dd (aZ (Str.ofString "lost") (.int (((v3 A n:Nat):Int)+1)) fs))) L1 (E2 A n):=by
 by_cases n0:n=0
 ·subst n0
  obtain ⟨⟨dop,gop⟩,hot,kvs,hoa,hD⟩:=F.op
  have ne:L.ad .oa≠L.ad .op:=aV hoa gop (by intro z;cases z)
  have kp:∀ o,Keeps [L.ad .op,L.ad .oa] H (upd H (L.ad .op) o):=λo=>Keeps.upd (by simp)
  refine ⟨L.ad .op,a.eK,dop,_,.op,rfl,trivial,rfl,gop,T.eG,T.tL,rfl,by show 4<=9;decide,L,Step.setOp (kp _),F.setOp (kp _) rfl ⟨⟨dop,ae⟩,?_,kvs,by rw [ak ne];exact hoa,hD⟩⟩
  rw [ak (aV hot gop (by intro z;cases z))]
  exact hot
 ·have hm:n - 1 < A.disputes.length:=by lia
  have D:=F.aK (n - 1) _ (ba hm)
  obtain ⟨dd,gd⟩:=D.ins
  have kp:∀ o,Keeps [L.ad (.aK (n - 1)),L.ad (.bM (n - 1))] H (upd H (L.ad (.aK (n - 1))) o):=λo=>Keeps.upd (by simp)
  have ko:∀ o b u,H b=some u->(∀ C d f,u≠.ins C d f)->upd H (L.ad (.aK (n - 1))) o b=some u:=λo b u e q=>by
   rw [ak (aV e gd (λz=>q _ _ _ z))]
   exact e
  have e1:v3 A n=(aL A (n - 1)).lost:=by unfold v3;rw [if_neg n0]
  have e2:E2 A n=bA A (n - 1) { aL A (n - 1) with lost:=(aL A (n - 1)).lost+1 }:=by unfold E2;rw [if_neg n0]
  rw [e1,e2]
  refine ⟨L.ad (.aK (n - 1)),a.aR,dd,_,.aK (n - 1),by rw [if_neg n0],hm,rfl,gd,T.ay,T.tG,rfl,by show 9<=9;decide,L.rQ (n - 1) (L.ad (.bM (n - 1))) (L.dt (n - 1)) (L.da (n - 1)) (L.de (n - 1)),Step.rQ (ba hm) (kp _) (.inl rfl),F.rQ (ba hm) (kp _) (.inl rfl) ⟨⟨dd,ae⟩,?_,?_,?_,?_⟩⟩
  ·obtain ⟨ob,q1,q2⟩:=D.hosts
   exact ⟨ob,ko _ _ _ q1 (by intro _ _ _ z;cases z),q2⟩
  ·exact ko _ _ _ D.F8 (by intro _ _ _ z;cases z)
  ·exact ko _ _ _ D.ask (by intro _ _ _ z;cases z)
  ·exact ko _ _ _ D.fin (by intro _ _ _ z;cases z)
theorem MO {h:UZ} {A:UQ} {N:Nat} {z:Int} {x:Vm} (eA:h.affair=some A) (oA:we A N) (e1:WD h z=some x) (hx:x.dispute<=A.disputes.length):U0 h (.lose z)=if A.mayLose<=v3 A x.dispute then U7 h (-7) else ({ VE h x with affair:=some (E2 A x.dispute),gone:=h.gone+1 },{ value:=((VE h x).line.length:Int) }):=by
 rw [K6,ik eA,e1]
 show (if x.dispute=0 then _ else _)=_
 by_cases c:x.dispute=0
 ·rw [if_pos c,c]
  rfl
 ·rw [if_neg c]
  have hm:x.dispute - 1 < A.disputes.length:=by lia
  have hd:Wk A x.dispute=some (aL A (x.dispute - 1)):=by
   have:=lE oA.num (x.dispute - 1)
   rw [show x.dispute - 1+1=x.dispute by lia] at this
   rw [this]
   exact ba hm
  have en:=oA.num.at hm
  have e3:v3 A x.dispute=(aL A (x.dispute - 1)).lost:=by unfold v3;rw [if_neg c]
  have e2:E2 A x.dispute=VQ A { aL A (x.dispute - 1) with lost:=(aL A (x.dispute - 1)).lost+1 }:=by
   unfold E2
   rw [if_neg c]
   exact (fw oA.num (j:=x.dispute - 1) (show ({ aL A (x.dispute - 1) with lost:=(aL A (x.dispute - 1)).lost+1 }:UW).no=x.dispute - 1+1 from en)).symm
  rw [hd,e2,e3]
abbrev Bf (K:UR) (a:bF):Sp:=d8 K a (λxs rs c=>∃ z,xs=[z]/\c=.lose z) vj
theorem G2 (T:Txt K mg a):a7 P w K mg base eQ 2 a.kU a.nB ["bench","numbers","rows"] (Bf K a):=by
 refine T.uq.ok Bm ki λcdv A outer s H vs Q E hr h0=>r9 h0 λbad be nm rw ln wd L h N xs ps rs c e G hc hW k=>?_
 ·subst e
  obtain ⟨z,rfl,rfl⟩:=hc
  obtain ⟨A,eA⟩:=hW
  refine ⟨_,(ah (bg (Fv (zq (mF hr) (aJ (az (K:=K)) (pv 1) aw (λ_ _=>rfl)) (ai (K:=K) (ai (K:=K) (pv 0) rfl) rfl))) (ao (aB (aS (aa (aM (by rfl) T.lG) aj)))) aO)
   (ah (aN (i:=3) Bm.nd rfl (Or.inl rfl) (aI (ai (K:=K) (pv 0) rfl) T.au T.bB (bR (K:=K) T) hr.lo T.bD .nil aE (aa (ai (K:=K) (ug (mF hr) (ai (K:=K) (ai (K:=K) (pv 0) rfl) rfl) (aJ (az (K:=K)) (pv 1) aw (λ_ _=>rfl)) (λ_ _=>rfl)) rfl) aj)))
   (ah (bg (a8 LJ (ai (K:=K) (pv 3) rfl) (ai (K:=K) (ai (K:=K) (pv 0) rfl) rfl) (bo _)) (ao (aB (aS (aa (aM (by rfl) T.Gf) aj)))) aO)
   (ah (gX (K:=K) (pv 3) aw uN)
   (ah (bQ (aI (ai (K:=K) (pv 0) rfl) T.bJ T.u6 (Eu (K:=K) T) hr.lo T.ve .nil aE (aa (aJ (az (K:=K)) (pv 1) aw (λ_ _=>rfl)) aj)))
   (ao (aB (aS (aa (aT vY (by rfl) T.dM Vd (aa (ai (K:=K) (ai (K:=K) (pv 0) rfl) rfl) aj)) aj))))))))),?_⟩
  obtain ⟨dx,hbe⟩:=G.JA eA
  have F:=G.at_.ka A eA
  have oA:=G.ok.ka A eA
  obtain ⟨da,g1⟩:=F.af
  obtain ⟨⟨dl,hln⟩,kvs,hwd,hD⟩:=id G.at_.line
  refine ⟨_,rfl,iE (bc.of G.nums) (at_of (j:=0) rfl rfl) ⟨_,rfl,fE hbe T.aP T.aW rfl (fE hln T.bJ T.bj rfl ⟨wd,_,rfl,lH.k (k:=Sum.inl z) hwd,_,rfl,?_⟩)⟩⟩
  rcases Bs hD z with ⟨e1,e2⟩ | ⟨x,q,e1,e2,hq,ez,hfx,hx⟩
  ·have es:U0 h (.lose z)=U7 h (-6):=by rw [K6,ik eA,e1]
   rw [e2]
   exact bf ⟨nG,λc hc=>k _ _ _ _ c (G.refuse (ax.refl H) hc es)⟩
  ·subst ez
   obtain ⟨w1,w2,w3,w4⟩:=G.ok.wd A eA x hx
   have es:=MO eA oA e1 w3
   rw [e2]
   obtain ⟨dq,sv,hq1,hq2⟩:=hq
   obtain ⟨p,C,dd,fs,r,hpe,hr0,hpr,gp,tC,n1,l1,fl,L1,S1,F1⟩:=PN T F w3
   refine bp (DZ rfl hbe T.aP T.aF rfl g1 rfl (vF rfl hbe T.aP T.aW rfl (fE hln T.bJ T.bj rfl (vI rfl (bc.of G.nums) (at_of (j:=0) rfl rfl) (dE (by have:=lH.k (k:=Sum.inl (x.id:Int)) hwd;rw [e2] at this;exact this) (fE hq1 T.dA T.iM rfl ⟨bad,L,A,x.dispute,rfl,F,w3,?_⟩))))))
   rw [hpe]
   refine xE rfl ⟨p,C,dd,_,xE rfl ⟨gp,tC,n1,l1,vF rfl hbe T.aP T.aF rfl (fE g1 T.au T.et rfl ⟨_,xE rfl ⟨rfl,xE rfl ?_⟩⟩)⟩⟩
   by_cases cl:A.mayLose<=v3 A x.dispute
   ·rw [if_pos cl] at es
    rw [decide_eq_true (show (A.mayLose:Int)<=(v3 A x.dispute:Int) by lia)]
    exact bf ⟨nG,λc' hc=>k _ _ _ _ c' (G.refuse (ax.refl H) hc es)⟩
   ·rw [if_neg cl] at es
    rw [decide_eq_false (show ¬ (A.mayLose:Int)<=(v3 A x.dispute:Int) by lia)]
    refine bp (xE rfl ⟨p,C,dd,_,xE rfl ⟨gp,tC,n1,l1,_,xE rfl ⟨rfl,dd,_,gp,by lia,?_⟩⟩⟩)
    have B1:=G.at_.xO eA S1 F1
    have nmp:nm≠p:=by rw [hpr];exact F.NU G.nums hr0
    have hnm1:upd H p (.ins C dd (aZ (Str.ofString "lost") (.int (((v3 A x.dispute:Nat):Int)+1)) fs)) nm=some (.lst [.int (x.id:Int)]):=by rw [ak nmp];exact G.nums
    generalize upd H p (.ins C dd (aZ (Str.ofString "lost") (.int (((v3 A x.dispute:Nat):Int)+1)) fs))=H1 at S1 F1 B1 hnm1 ⊢
    obtain ⟨db1,hb1⟩:=B1.ins
    obtain ⟨⟨dl1,hln1⟩,_⟩:=id B1.line
    refine DZ rfl hb1 T.aP T.aW rfl hln1 rfl (vI rfl (bc.of hnm1) (at_of (j:=0) rfl rfl) ⟨ln,wd,h.line,h.next,h.came,h.gone,x.id,x,rfl,B1.line,hfx,λH2 q2 kp2 Ln2 _=>?_⟩)
    have B2:=B1.Ny kp2 Ln2
    obtain ⟨db2,hb2⟩:=B2.ins
    obtain ⟨⟨dl2,hln2⟩,kvs2,hwd2,hD2⟩:=id B2.line
    refine vF rfl hb2 T.aP T.aW rfl (fE hln2 T.bJ T.bj rfl ⟨wd,kvs2,rfl,hwd2,nG,λc' hc=>?_⟩)
    have kl:kvs2.length=(VE h x).line.length:=by rw [hD2.len];exact UT ..
    refine k _ ln wd L1 c' ⟨?_,λb o e nO=>?_,B2.fresh hc,?_⟩
    ·rw [es];exact B2.same (ax.laid hc)
    ·exact ax.laid hc _ _ (kp2 _ _ (S1.keep _ _ e λr hr z=>nO (.inr (.inr (.inr ⟨A,r,eA,hr,z⟩)))) (D6 (λz=>nO (.inr (.inl z))) λz=>nO (.inr (.inr (.inl z)))))
    ·rw [es,ae,kl];rfl
def Qr (h:UZ) (x:Vm):Option UU->UZ
 | none=>h
 | some s=>{ h with line:=h.line++[{ x with id:=h.next,answer:=some s }],next:=h.next+1 }
def Af (K:UR) (a:bF):Sp:=λvs H Q _=>∃ (bad:List Addr) (be ln wd q:Addr) (L:Lay) (h:UZ) (N:Nat) (A:UQ) (x:Vm),vs=[.ref be,.ref q]/\bh a bad H be ln wd L h/\o5 h N/\N<=400/\h.affair=some A/\wu a H q x/\x.host < A.hosts.length/\x.turn<=2000 /\
 ∀ (H':Hp) (L':Lay),bh a bad H' be ln wd L' (Qr h x (V4 A x.host x.turn))->(∀ b o,H b=some o->¬ Own L be ln wd h b->H' b=some o)->Q .dF H'
theorem z9 (T:Txt K mg a):a7 P w K mg base eQ 6 a.gy a.gr ["bench","word"] (Af K a):=by
 refine T.j5.ok mU ?_ ?_
 ·rintro _ _ _ _ ⟨_,_,_,_,_,_,_,_,_,_,rfl,_⟩
  rfl
 ·rintro cdv A outer s H _ Q E hr ⟨bad,be,ln,wd,q,L,h,N,A,x,rfl,B,oH,hN,eA,⟨dq,sv,hq1,hq2⟩,hxh,hxt,k⟩
  refine ⟨_,(ah (aN (i:=2) mU.nd rfl (Or.inl rfl) (aJ (az (K:=K)) (ai (K:=K) (ai (K:=K) (pv 0) rfl) rfl) (ai (K:=K) (pv 1) rfl) (λ_ _=>rfl)))
   (ah (aN (i:=3) mU.nd rfl (Or.inl rfl) (aI (pv 2) T.bK T.uD (Bu (K:=K) T) hr.lo T.uo .nil aE (aa (ai (K:=K) (pv 1) rfl) (aa (ai (K:=K) (ai (K:=K) (pv 0) rfl) rfl) aj))))
   (ao (bg (a8 K4 (pv 3) ib (bo _)) (ao (bQ (aI (ai (K:=K) (pv 0) rfl) T.bJ T.sV (ya (K:=K) T) hr.lo T.rZ .nil aE (aa (rE T.EH (wm (K:=K) T) hr.lo rfl T.vz T.qd .nil aE (aa (ai (K:=K) (pv 1) rfl) (aa (ai (K:=K) (pv 1) rfl) (aa (ai (K:=K) (pv 1) rfl) (aa (pv 3) aj))))) aj)))) aO)))),?_⟩
  have F:=B.ka A eA
  have oA:=oH.ka A eA
  obtain ⟨dx,hbe⟩:=B.ins
  unfold BI at hbe
  rw [eA] at hbe
  have hbe:H be=some (.ins a.iz dx (AM ln (.ref (L.ad .af)))):=hbe
  obtain ⟨da,g1⟩:=F.af
  obtain ⟨dh,g2⟩:=F.host x.host hxh
  obtain ⟨ft,tb⟩:=F.tell x.host hxh
  refine vF rfl hbe T.aP T.aF rfl (fE g1 T.au T.bw rfl (vF rfl hq1 T.dA T.k8 rfl (iE (bc.of F.hl) (at_of (j:=x.host) rfl (lx hxh)) ?_)))
  refine vM rfl g2 rfl (vF rfl hq1 T.dA T.kf rfl (vF rfl hbe T.aP T.aF rfl (fE g1 T.au T.gm rfl ?_)))
  refine ⟨L.ad (.host x.host),L.ad (.tell x.host),L.ad (.qa x.host),L.r,L.lo,L.ad .ls,L.os,L.ts,_,_,x.turn,A.begin_.nums.length,_,L.tl x.host,A.program,A.begin_,rfl,⟨dh,g2⟩,ft,λl hl=>(tb.is x.turn l hl).1,F.run,oA.good.base.prog,oA.good.base.n6,oA.good.base.vQ,hxt,F.Nn,λH1 v ts' bt R1 hl1 hv=>?_⟩
  rw [IM tb] at hv
  have F1:=F.wD bt R1 hl1
  have S1:Step H L A H1 { L with ts:=ts' } A:=Step.wD bt
  have B1:=B.xO eA S1 F1
  rw [Ab eA] at B1
  have kp1:∀ b o,H b=some o->¬ Own L be ln wd h b->H1 b=some o:=λb o e nO=>S1.keep b o e λr hr z=>nO (.inr (.inr (.inr ⟨A,r,eA,hr,z⟩)))
  refine xE rfl ⟨rfl,xE rfl ?_⟩
  cases es:V4 A x.host x.turn with
  | none =>
   rw [es] at hv k
   obtain rfl:v=.dF:=hv
   exact bp (k H1 _ B1 kp1)
  | some s0 =>
   rw [es] at hv k
   obtain ⟨u,rfl,hu⟩:=hv
   obtain ⟨db1,hb1⟩:=B1.ins
   obtain ⟨⟨dl1,hln1⟩,_⟩:=id B1.line
   have hq3:H1 q=some (.ins a.lp dq (Lq x.dispute x.host x.turn sv)):=bt _ _ hq1 (F.Fd (r:=.ls) trivial hq1 (by decide) (by decide) (by decide))
   refine bf (DZ rfl hb1 T.aP T.aW rfl hln1 rfl (vF rfl hq3 T.dA T.iM rfl (vF rfl hq3 T.dA T.k8 rfl (vF rfl hq3 T.dA T.kf rfl (xE rfl (λy yd ny nyd nye=>⟨y,yd,x.dispute,x.host,x.turn,.ref u,rfl,ae,λH2 kp2 hy2=>⟨rfl,?_⟩⟩))))))
   have s2:ax H1 H2:=ax.made ny nyd λb o e q=>kp2 b o e λm=>q (UX.mp m)
   have B2:=B1.same s2
   have hll:=oH.ln
   refine ⟨ln,wd,y,h.line,h.next,h.came,h.gone,{ x with id:=h.next,answer:=some s0 },rfl,B2.line,⟨yd,.ref u,hy2,⟨u,rfl,s2 _ _ hu⟩⟩,rfl,λy hy=>Vh (oH.ids y hy),by lia,λH3 kp3 Ln3=>?_⟩
   refine k H3 _ (B2.Ny kp3 Ln3) λb o e nO=>kp3 _ _ (s2 _ _ (kp1 b o e nO)) (D6 (λz=>nO (.inr (.inl z))) λz=>nO (.inr (.inr (.inl z))))
abbrev xf (K:UR) (a:bF):Sp:=d8 K a (λxs rs c=>∃ z,xs=[z]/\c=.deliver z) vj
theorem Dq (T:Txt K mg a):a7 P w K mg base eQ 7 a.fA a.iY ["bench","numbers","rows"] (xf K a):=by
 refine T.oF.ok xj ki λcdv A outer s H vs Q E hr h0=>r9 h0 λbad be nm rw ln wd L h N xs ps rs c e G hc hW k=>?_
 ·subst e
  obtain ⟨z,rfl,rfl⟩:=hc
  obtain ⟨A,eA⟩:=hW
  refine ⟨_,(ah (bg (Fv (zq (mF hr) (aJ (az (K:=K)) (pv 1) aw (λ_ _=>rfl)) (ai (K:=K) (ai (K:=K) (pv 0) rfl) rfl))) (ao (aB (aS (aa (aM (by rfl) T.lG) aj)))) aO)
   (ah (aN (i:=3) xj.nd rfl (Or.inl rfl) (aI (ai (K:=K) (pv 0) rfl) T.bJ T.qW (Ct (K:=K) T) hr.lo T.qT .nil aE (aa (aJ (az (K:=K)) (pv 1) aw (λ_ _=>rfl)) aj)))
   (ah (bg (a8 vi (ai (K:=K) (pv 3) rfl) ib (bo _)) (ao (bQ (bC (z9 (K:=K) T) hr.lo rfl T.oO T.j5.kp T.oK .nil aE (aa (pv 0) (aa (pv 3) aj))))) (ao (bQ (aI (ai (K:=K) (pv 0) rfl) T.au T.va (FF (K:=K) T) hr.lo T.uI .nil aE (aa (ai (K:=K) (pv 3) rfl) (aa (ai (K:=K) (pv 3) rfl) (aa (ai (K:=K) (pv 3) rfl) aj)))))))
   (ao (aB (aS (aa (aT vY (by rfl) T.dM Vd (aa (ai (K:=K) (ai (K:=K) (pv 0) rfl) rfl) aj)) aj))))))),?_⟩
  have hN:=G.n
  obtain ⟨dx,hbe⟩:=G.JA eA
  have F:=G.at_.ka A eA
  have oA:=G.ok.ka A eA
  obtain ⟨⟨dl,hln⟩,kvs,hwd,hD⟩:=id G.at_.line
  refine ⟨_,rfl,iE (bc.of G.nums) (at_of (j:=0) rfl rfl) ⟨_,rfl,fE hbe T.aP T.aW rfl (fE hln T.bJ T.bj rfl ⟨wd,_,rfl,lH.k (k:=Sum.inl z) hwd,_,rfl,?_⟩)⟩⟩
  rcases Bs hD z with ⟨e1,e2⟩ | ⟨x,q,e1,e2,hq,ez,hfx,hx⟩
  ·have es:U0 h (.deliver z)=U7 h (-6):=by rw [EB,ik eA,e1]
   rw [e2]
   exact bf ⟨nG,λc hc=>k _ _ _ _ c (G.refuse (ax.refl H) hc es)⟩
  ·subst ez
   obtain ⟨w1,w2,w3,w4⟩:=G.ok.wd A eA x hx
   have es:U0 h (.deliver (x.id:Int))=(VW (VE h x) A x,{ value:=((VW (VE h x) A x).line.length:Int) }):=by rw [EB,ik eA,e1]
   rw [e2]
   refine bp (DZ rfl hbe T.aP T.aW rfl hln rfl (vI rfl (bc.of G.nums) (at_of (j:=0) rfl rfl) ⟨ln,wd,h.line,h.next,h.came,h.gone,x.id,x,rfl,G.at_.line,hfx,λH1 q1 kp1 Ln1 hq1=>?_⟩))
   have B1:=G.at_.Ny kp1 Ln1
   have oH1:o5 { h with line:=h.line.filter λy=>y.id != x.id,came:=h.came+1 } N:=G.ok.take (c:=h.came+1) (g:=h.gone) (x:=x)
   have nO1:∀ b,¬ Own L be ln wd h b->¬ b∈[ln,wd]:=λb nO=>D6 (λz=>nO (.inr (.inl z))) λz=>nO (.inr (.inr (.inl z)))
   have fin:∀ (H2:Hp) (L2':Lay),bh a bad H2 be ln wd L2' (VW (VE h x) A x)->(∀ b o,H1 b=some o->¬ Own L be ln wd h b->H2 b=some o) ->
     ∃ db dl2 kvs2,H2 be=some (.ins a.iz db (AM ln (BI L2' (VW (VE h x) A x))))/\H2 ln=some (.ins a.cQ dl2 (GW wd (VW (VE h x) A x).next (VW (VE h x) A x).came (VW (VE h x) A x).gone))/\H2 wd=some (.dK kvs2)/\∀ c',H2 c'=none->Q (.ref c') (upd H2 c' (.lst [.int (kvs2.length:Int)])):=λH2 L2' B2 kp2=>by
    obtain ⟨db2,hb2⟩:=B2.ins
    obtain ⟨⟨dl2,hln2⟩,kvs2,hwd2,hD2⟩:=id B2.line
    refine ⟨db2,dl2,kvs2,hb2,hln2,hwd2,λc' hc=>?_⟩
    have kl:kvs2.length=(VW (VE h x) A x).line.length:=by rw [hD2.len];exact UT ..
    refine k _ ln wd L2' c' ⟨?_,λb o e nO=>ax.laid hc _ _ (kp2 _ _ (kp1 _ _ e (nO1 b nO)) nO),B2.fresh hc,?_⟩
    ·rw [es];exact B2.same (ax.laid hc)
    ·rw [es,ae,kl];rfl
   obtain ⟨dq,sv,hq2,hq3⟩:=id hq1
   refine vF rfl hq2 T.dA T.lQ rfl ⟨rfl,xE rfl ?_⟩
   cases ea:x.answer with
   | none =>
    rw [ea] at hq3
    obtain rfl:sv=.dF:=hq3
    refine bf (x2 rfl rfl ⟨bad,be,ln,wd,q1,L,_,N,A,x,rfl,B1,oH1,hN,eA,hq1,w1,w2,λH2 L2' B2 kp2=>?_⟩)
    have ec:VW (VE h x) A x=Qr { h with line:=h.line.filter λy=>y.id != x.id,came:=h.came+1 } x (V4 A x.host x.turn):=by
     unfold VW
     rw [ea]
     show (match V4 A x.host x.turn with | none=>_ | some s=>_)=_
     cases V4 A x.host x.turn<;>rfl
    obtain ⟨db2,dl2,kvs2,hb2,hln2,hwd2,fk⟩:=fin H2 L2' (by rw [ec];exact B2) λb o e nO=>kp2 b o e nO
    exact vF rfl hb2 T.aP T.aW rfl (fE hln2 T.bJ T.bj rfl ⟨wd,kvs2,rfl,hwd2,nG,fk⟩)
   | some s0 =>
    rw [ea] at hq3
    obtain ⟨u,rfl,hu⟩:=hq3
    have F1:=B1.ka A eA
    obtain ⟨da,g1⟩:=F1.af
    obtain ⟨db1,hb1⟩:=B1.ins
    have hb1:H1 be=some (.ins a.iz db1 (AM ln (.ref (L.ad .af)))):=by
     have e:BI L { h with line:=h.line.filter λy=>y.id != x.id,came:=h.came+1 }=.ref (L.ad .af):=by unfold BI;show (match h.affair with | none=>_ | some _=>_)=_;rw [eA]
     rw [<- e];exact hb1
    have g:=oA.good
    have hdl:=oA.dl
    have hhl:=oA.hl
    refine bp (DZ rfl hb1 T.aP T.aF rfl g1 rfl (vF rfl hq2 T.dA T.k8 rfl (vF rfl hq2 T.dA T.kf rfl (vF rfl hq2 T.dA T.lQ rfl ⟨bad,L,A,x.host,x.turn,A.begin_.nums.length,u,s0,rfl,F1,g.xy,g.base.once,by lia,by lia,w1,hu,λ_ _ hn m hm=>pK (Ey g hn (w4 s0 ea)) m hm,λH2 L2' S2 F2=>?_⟩))))
    have B2:=B1.xO eA S2 F2
    have ec:VW (VE h x) A x={ h with line:=h.line.filter λy=>y.id != x.id,came:=h.came+1,affair:=some (vH A x.host x.turn s0) }:=by
     unfold VW
     rw [ea]
     show ({ VE h x with affair:=some (Vbapaj.hears A x.host x.turn s0),came:=h.came+1 }:UZ)=_
     rw [J7 oA.num]
     rfl
    obtain ⟨db2,dl2,kvs2,hb2,hln2,hwd2,fk⟩:=fin H2 L2' (by rw [ec];exact B2) λb o e nO=>S2.keep b o e λr hr z=>nO (.inr (.inr (.inr ⟨A,r,eA,hr,z⟩)))
    exact vF rfl hb2 T.aP T.aW rfl (fE hln2 T.bJ T.bj rfl ⟨wd,kvs2,rfl,hwd2,nG,fk⟩)
end
theorem PR {σ:St} {H:Hp} {Q:VK} {a z c:Int} (h:Q (.bl (decide (a<=z)&&decide (z<=c))) H) :
  OR (λi j=>.bl (decide (i<=j))) (.int a) (.int z) H (λw H3=>∃ k,w=.bl k/\if k=true then tC (.int c) σ H3 (λw' H4=>OR (λi j=>.bl (decide (i<=j))) (.int z) w' H4 Q) else Q (.bl false) H3):=by
 refine ⟨a,z,rfl,rfl,xE rfl ?_⟩
 by_cases e:a<=z
 ·rw [decide_eq_true e] at h ⊢
  rw [if_pos rfl]
  exact ⟨z,c,rfl,rfl,h⟩
 ·rw [decide_eq_false e] at h ⊢
  rw [if_neg (by decide)]
  exact h
theorem sg.same {a:bF} {H H':Hp} {r lo ls:Addr} {os ts:List Addr} {prog:List U9} {b:UU} (R:sg a H r lo ls os ts prog b) (s:ax H H'):sg a H' r lo ls os ts prog b:=by
 obtain ⟨⟨dx,h1⟩,h2,h3,h4,h5,h6,h7,h8⟩:=R
 exact ⟨⟨dx,s _ _ h1⟩,s _ _ h2,h3,λi q o hq ho=>s _ _ (h4 i q o hq ho),s _ _ h5,h6,h7,λi u hu=>s _ _ (h8 i u hu)⟩
noncomputable def newOk (t k n st:Int):Bool:=(decide (1<=t)&&decide (t<=2000))&&((decide (0<=k)&&decide (k<=5))&&((decide (2<=n)&&decide (n<=6))&&(decide (0<=st)&&decide (st<=1000))))
def xX (b:List Int):Bool:=(decide (1<=b.length)&&decide (b.length<=6))&&b.all IG
theorem Nq (h:UZ) (t k n st:Int) (p b:List Int):U0 h (.new t k n st p b) =
  if newOk t k n st=false then U7 h (-1)
  else if h.line.isEmpty=false then U7 h (-3)
  else if (nH p&&xX b)=false then U7 h (-1)
  else match VS 20 p with
  | none=>U7 h (-1)
  | some o=>(Ws h (Bg o { at_:=0,nums:=b.map V2 } t.toNat k.toNat n.toNat st.toNat),{ value:=n }):=by
 rw [RN]
 have e1:(VB t 1 2000&&(VB k 0 5&&(VB n 2 6&&VB st 0 1000)))=newOk t k n st:=rfl
 rw [e1]
 split
 ·rfl
 ·split
  ·rfl
  ·have e2:(decide (1<=b.length)&&(decide (b.length<=6)&&Vbapaj.isNums b))=xX b:=by
    unfold xX
    rw [Cz,Bool.and_assoc]
   cases c:nH p with
   | true =>
    obtain ⟨o,q1,q2,q3⟩:=CL c
    rw [q1]
    show (if (!o.isEmpty&&(decide (1<=b.length)&&(decide (b.length<=6)&&Vbapaj.isNums b)))=false then _ else _)=if (true&&xX b)=false then _ else _
    have oe:o.isEmpty=false:=by
     cases o with
     | nil=>exact absurd q3.pos (VT _)
     | cons x r=>rfl
    rw [e2,oe]
    rfl
   | false =>
    rw [if_pos (show (false&&xX b)=false by rfl)]
    rcases Hv c with q | q
    ·rw [q]
    ·rw [q]
     rfl
section
variable {P:Program} {w:World} {K:UR} {mg:Str->Option Value} {base:Heap} {a:bF}
abbrev C8 (K:UR) (a:bF):Sp:=d8 K a (λxs rs c=>∃ t k n st p b,xs=[t,k,n,st]/\rs=[p,b]/\c=.new t k n st p b) Any
theorem Je (T:Txt K mg a):a7 P w K mg base eQ 6 a.mO a.pM ["bench","numbers","rows"] (C8 K a):=by
 refine T.wL.ok qg ki λcdv A outer s H vs Q E hr h0=>r9 h0 λbad be nm rw ln wd L h N xs ps rs c e G hc hW k=>?_
 ·subst e
  obtain ⟨t,kk,n,st,pg,fb,rfl,rfl,rfl⟩:=hc
  refine ⟨_,(ah (aN (i:=3) qg.nd rfl (Or.inl rfl) (aJ (az (K:=K)) (pv 1) aw (λ_ _=>rfl)))
   (ah (aN (i:=4) qg.nd rfl (Or.inl rfl) (aJ (az (K:=K)) (pv 1) aw (λ_ _=>rfl)))
   (ah (aN (i:=5) qg.nd rfl (Or.inl rfl) (aJ (az (K:=K)) (pv 1) aw (λ_ _=>rfl)))
   (ah (aN (i:=6) qg.nd rfl (Or.inl rfl) (aJ (az (K:=K)) (pv 1) aw (λ_ _=>rfl)))
   (ah (bg (ia (PW.pt (yi (y4 lA lA aw (pv 3) aw) (yi (y4 lA lA aw (pv 4) aw) (yi (y4 lA lA aw (pv 5) aw) (zp (y4 lA lA aw (pv 6) aw))))))) (ao (aB (aS (aa (aM (by rfl) T.bV) aj)))) aO)
   (ah (bg (zk (K:=K) (ai (K:=K) (ai (K:=K) (pv 0) rfl) rfl) (λ_=>rfl)) (ao (aB (aS (aa (aM (by rfl) T.vE) aj)))) aO)
   (ah (bg (ia (PW.pt (yi (bG (bC (F6 (K:=K) T) hr.lo rfl T.w6 T.rB.kp T.wN .nil aE (aa (aJ (az (K:=K)) (pv 2) aw (λ_ _=>rfl)) aj))) (zp (bG (bC (zf (K:=K) T) hr.lo rfl T.lX T.iy.kp T.l0 .nil aE (aa (aJ (az (K:=K)) (pv 2) aw (λ_ _=>rfl)) aj))))))) (ao (aB (aS (aa (aM (by rfl) T.bV) aj)))) aO)
   (ah (aQ (K:=K) (pv 0) (rE T.EU (E8 (K:=K) T) hr.lo rfl T.bb T.uH .nil aE (aa (rE T.NL (Jz (K:=K) T) hr.lo rfl T.Bt T.Ad .nil aE (aa (aJ (az (K:=K)) (pv 2) aw (λ_ _=>rfl)) (aa (aJ (az (K:=K)) (pv 2) aw (λ_ _=>rfl)) aj))) (aa (pv 3) (aa (pv 4) (aa (pv 5) (aa (pv 6) aj)))))) rfl)
   (ao (aB (aS (aa (pv 5) aj)))))))))))),?_⟩
  have hz:=sizeLine_eq
  obtain ⟨dx,hbe⟩:=G.at_.ins
  obtain ⟨⟨dl,hln⟩,kvs,hwd,hD⟩:=id G.at_.line
  have hrow:=G.row
  have hrows:=G.rows
  have hl1:=G.Po pg (Vi ..)
  have hl2:=G.Po fb (Vl _ (UX.mpr rfl))
  have es:=Nq h t kk n st pg fb
  cases hrow with
  | cons hp0 hrow =>
   rename_i p0 pr
   cases hrow with
   | cons hp1 hnil =>
    rename_i p1 pr
    cases hnil
    refine vI rfl (bc.of G.nums) (at_of (j:=0) rfl rfl) ?_
    refine vI rfl (bc.of G.nums) (at_of (j:=1) rfl rfl) ?_
    refine vI rfl (bc.of G.nums) (at_of (j:=2) rfl rfl) ?_
    refine vI rfl (bc.of G.nums) (at_of (j:=3) rfl rfl) ?_
    have JF:newOk t kk n st=false->∀ c',H c'=none->Q (.ref c') (upd H c' (.lst [.int (-1)])):=λe c' hc=>by
     rw [if_pos e] at es
     exact k _ _ _ _ c' (G.refuse (ax.refl H) hc es)
    refine xE rfl (PR (xE rfl ?_))
    cases c1:(decide (1<=t)&&decide (t<=2000)) with
    | false=>exact bp (bf ⟨nG,JF (by unfold newOk;rw [c1];rfl)⟩)
    | true =>
     refine bf (xE rfl (PR (xE rfl ?_)))
     cases c2:(decide (0<=kk)&&decide (kk<=5)) with
     | false=>exact bp (bf ⟨nG,JF (by unfold newOk;rw [c1,c2];rfl)⟩)
     | true =>
      refine bf (xE rfl (PR (xE rfl ?_)))
      cases c3:(decide (2<=n)&&decide (n<=6)) with
      | false=>exact bp (bf ⟨nG,JF (by unfold newOk;rw [c1,c2,c3];rfl)⟩)
      | true =>
       refine bf (xE rfl (PR (xE rfl ?_)))
       cases c4:(decide (0<=st)&&decide (st<=1000)) with
       | false=>exact bf ⟨nG,JF (by unfold newOk;rw [c1,c2,c3,c4];rfl)⟩
       | true =>
        have cN:newOk t kk n st=true:=by unfold newOk;rw [c1,c2,c3,c4];rfl
        rw [if_neg (by rw [cN];decide)] at es
        rw [U6,decide_eq_true_eq,decide_eq_true_eq] at c1 c2 c3 c4
        refine bp (vF rfl hbe T.aP T.aW rfl (fE hln T.bJ T.bj rfl ⟨_,.inr (.inr ⟨kvs,hwd,rfl⟩),?_⟩))
        have ke:kvs.isEmpty=h.line.isEmpty:=by
         have e:kvs.length=h.line.length:=by rw [hD.len];exact UT ..
         cases kvs<;>cases hq:h.line<;>rw [hq] at e<;>first | rfl | (simp at e)
        rw [ke]
        cases c5:h.line.isEmpty with
        | false =>
         rw [if_pos c5] at es
         exact bf ⟨nG,λc' hc=>k _ _ _ _ c' (G.refuse (ax.refl H) hc es)⟩
        | true =>
         rw [if_neg (by rw [c5];decide)] at es
         refine bp (vI rfl (bc.of hrows) (at_of (j:=0) rfl rfl) ⟨p0,pg,rfl,bc.of hp0,hl1,λH1 s1=>xE rfl ?_⟩)
         cases c6:nH pg with
         | false =>
          rw [if_pos (by rw [c6];rfl)] at es
          exact bp (bf ⟨nG,λc' hc=>k _ _ _ _ c' (G.refuse s1 hc es)⟩)
         | true =>
          refine bf (vI rfl (bc.of (s1 _ _ hrows)) (at_of (j:=1) rfl rfl) ⟨p1,fb,rfl,bc.of (s1 _ _ hp1),by lia,λH2 s2=>xE rfl ?_⟩)
          show if (!xX fb)=true then _ else _
          have s12:=s1.trans s2
          cases c7:xX fb with
          | false =>
           rw [if_pos (by rw [c6,c7];rfl)] at es
           exact bf ⟨nG,λc' hc=>k _ _ _ _ c' (G.refuse s12 hc es)⟩
          | true =>
           rw [if_neg (by rw [c6,c7];decide)] at es
           obtain ⟨prog,q1,q2,q3⟩:=CL c6
           rw [q1] at es
           have es:U0 h (.new t kk n st pg fb)=(Ws h (Bg prog { at_:=0,nums:=fb.map V2 } t.toNat kk.toNat n.toNat st.toNat),{ value:=n }):=es
           obtain ⟨T0,rfl⟩:∃ T0:Nat,t=(T0:Int):=⟨t.toNat,by lia⟩
           obtain ⟨k0,rfl⟩:∃ k0:Nat,kk=(k0:Int):=⟨kk.toNat,by lia⟩
           obtain ⟨n0,rfl⟩:∃ n0:Nat,n=(n0:Int):=⟨n.toNat,by lia⟩
           obtain ⟨st0,rfl⟩:∃ st0:Nat,st=(st0:Int):=⟨st.toNat,by lia⟩
           unfold xX at c7
           rw [U6,U6,decide_eq_true_eq,decide_eq_true_eq] at c7
           obtain ⟨m1,m2⟩:=Fl c7.2
           refine bp (vI rfl (bc.of (s12 _ _ hrows)) (at_of (j:=0) rfl rfl) (vI rfl (bc.of (s12 _ _ hrows)) (at_of (j:=1) rfl rfl) (λr rd nr nrd nerd=>?_)))
           have sr:ax H2 (upd (upd H2 rd (.own r)) r (.ins a.pb rd [])):=(ax.laid nrd).trans (ax.laid (by rw [ak nerd.symm];exact nr))
           refine ⟨r,rd,p0,p1,prog,fb.map V2,rfl,ae,by rw [<- q2];exact sr _ _ (s12 _ _ hp0),by rw [<- m1];exact sr _ _ (s12 _ _ hp1),q3.le,by rw [UT];exact c7.1.2,λH3 lo ls os ts kp3 hlo hls R3 htl=>⟨rfl,?_⟩⟩
           have s3:ax H2 H3:=ax.made nr nrd kp3
           have s13:=s12.trans s3
           refine x2 rfl rfl (x2 rfl rfl (λaf ad naf nad nead=>?_))
           have sa:ax H3 (upd (upd H3 ad (.own af)) af (.ins a.aG ad [])):=(ax.laid nad).trans (ax.laid (by rw [ak nead.symm];exact naf))
           have bt:=G.at_.zC
           refine ⟨af,ad,r,lo,ls,os,ts,T0,k0,n0,st0,prog,{ at_:=0,nums:=fb.map V2 },bad,rfl,ae,R3.same sa,by lia,by lia,λm=>?_,λx hx=>?_,λH4 L4 kp4 ea els hro er F4=>⟨rfl,?_⟩⟩
           ·obtain ⟨ys,e⟩:=bt lo m
            rw [sr _ _ (s12 _ _ e)] at hlo
            cases hlo
           ·obtain ⟨ys,e⟩:=bt x hx
            rw [sa _ _ (s13 _ _ e)]
            intro z;cases z
           ·have s4:ax H3 H4:=ax.made naf nad λb o e n=>kp4 b o e λm=>n (UX.mp m)
            have s14:=s13.trans s4
            have off:∀ b o rr,H b=some o->Lv (Bg prog { at_:=0,nums:=fb.map V2 } T0 k0 n0 st0) rr->b≠L4.ad rr:=λb o rr e hr z=>by
             rcases hro rr hr with rfl | rfl | q
             ·rw [ea] at z
              rw [z] at e
              rw [s13 _ _ e] at naf;cases naf
             ·rw [els] at z
              rw [z] at e
              rw [sr _ _ (s12 _ _ e)] at hls;cases hls
             ·rw [<- z,sa _ _ (s13 _ _ e)] at q;cases q
            refine vS rfl (s14 _ _ hbe) T.aP T.aF (by show 2 < 1000;decide) ?_
            refine xE rfl ⟨nG,λc' hc=>?_⟩
            have hb4:=s14 _ _ hbe
            have cb:c'≠be:=λz=>by rw [z,ae] at hc;cases hc
            have hc4:H4 c'=none:=by rw [ak cb] at hc;exact hc
            have kk:∀ o1 o2 b o,H4 b=some o->b≠be->upd (upd H4 be o1) c' o2 b=some o:=λo1 o2 b o e n=>by rw [ak (aC e hc4),ak n];exact e
            refine k _ ln wd L4 c' ⟨?_,λb o e nO=>kk _ _ _ _ (s14 _ _ e) λz=>nO (.inl z),G.fresh (s14.free hc4),?_⟩
            ·rw [es]
             refine ⟨⟨dx,?_⟩,?_,λC e=>?_,λC rr e hr=>?_,λC rr e hr m=>?_,λx hx=>?_⟩
             ·rw [ak cb.symm,ae,<- ea]
              rfl
             ·refine (G.at_.line.N5 (H':=upd (upd H4 be _) c' _) λb o e q=>kk _ _ _ _ (s14 _ _ e) ?_)
              obtain ⟨n1,n2,_⟩:=G.at_.ne
              rcases q with rfl | rfl | ⟨ys,rfl⟩ | ⟨C,d,v,rest,rfl⟩
              ·exact n1.symm
              ·exact n2.symm
              ·exact aV e hbe (by intro z;cases z)
              ·exact kG e hbe (by decide)
             ·cases e
              refine aH.same ?_ (ax.laid hc)
              refine F4.N5 λb o e q=>?_
              rw [ak]
              ·exact e
              ·rintro rfl
               rw [hb4] at e
               cases e
               rcases q with ⟨rr,hr,z⟩ | z | ⟨ys,z⟩ | ⟨ob,u,z⟩ | ⟨⟨ys,z⟩,_⟩
               ·exact F4.Fd hr hb4 (by decide) (by decide) (by decide) z
               ·obtain ⟨d4,h4⟩:=F4.run.run
                exact kG hb4 h4 (by decide) z
               ·cases z
               ·cases z
               ·cases z
             ·cases e
              exact off _ _ rr hwd hr
             ·cases e
              obtain ⟨ys,e⟩:=bt _ m
              exact off _ _ rr e hr rfl
             ·obtain ⟨ys,e⟩:=bt x hx
              exact ⟨ys,kk _ _ _ _ (s14 _ _ e) (aV e hbe (by intro z;cases z))⟩
            ·rw [es]
             exact ae
end
inductive bX:Nat->List Int->List (List Int)->VC->Prop
 | clear:bX 0 [] [] (.clear)
 | new (t k n st:Int) (p b:List Int):bX 1 [t,k,n,st] [p,b] (.new t k n st p b)
 | lie (i t:Int) (l:List Int):bX 2 [i,t] [l] (.lie i t l)
 | mute (i t:Int):bX 3 [i,t] [] (.mute i t)
 | honest (i t:Int):bX 4 [i,t] [] (.honest i t)
 | pair (x y:Int):bX 5 [x,y] [] (.pair x y)
 | say (d i:Int):bX 6 [d,i] [] (.say d i)
 | deliver (x:Int):bX 7 [x] [] (.deliver x)
 | lose (x:Int):bX 8 [x] [] (.lose x)
 | double (x:Int):bX 9 [x] [] (.double x)
 | hush (d i:Int):bX 10 [d,i] [] (.hush d i)
 | close:bX 11 [] [] (.close)
 | line:bX 12 [] [] (.line)
 | word (x:Int):bX 13 [x] [] (.word x)
 | dispute (d:Int):bX 14 [d] [] (.dispute d)
 | agreed (d:Int):bX 15 [d] [] (.agreed d)
 | truth (t:Int):bX 16 [t] [] (.truth t)
 | heard (i t:Int):bX 17 [i,t] [] (.heard i t)
 | says (i t:Int):bX 18 [i,t] [] (.says i t)
 | host (i:Int):bX 19 [i] [] (.host i)
 | affair:bX 20 [] [] (.affair)
 | counts:bX 21 [] [] (.counts)
 | work (l:List Int):bX 22 [] [l] (.work l)
noncomputable def Ag:List (Nat × Nat):=[(0,0),(4,2),(2,1),(2,0),(2,0),(2,0),(2,0),(1,0),(1,0),(1,0),(2,0),(0,0),(0,0),(1,0),(1,0),(1,0),(1,0),(2,0),(2,0),(1,0),(0,0),(0,0),(0,1)]
def free:List Nat:=[0,1,9,12,13,21]
noncomputable def FI (a:bF):List (Key × Value):=[(Sum.inl 0,.ref a.jd),(Sum.inl 1,.ref a.mO),(Sum.inl 2,.ref a.mP),(Sum.inl 3,.ref a.kX),(Sum.inl 4,.ref a.gY),(Sum.inl 5,.ref a.kn),(Sum.inl 6,.ref a.mN),(Sum.inl 7,.ref a.fA),(Sum.inl 8,.ref a.kU),(Sum.inl 9,.ref a.gT),(Sum.inl 10,.ref a.lg),(Sum.inl 11,.ref a.je)]
noncomputable def Ht (a:bF):List (Key × Value):=[(Sum.inl 12,.ref a.lj),(Sum.inl 13,.ref a.kb),(Sum.inl 14,.ref a.fD),(Sum.inl 15,.ref a.gV),(Sum.inl 16,.ref a.ji),(Sum.inl 17,.ref a.jh),(Sum.inl 18,.ref a.kP),(Sum.inl 19,.ref a.kL),(Sum.inl 20,.ref a.gW),(Sum.inl 21,.ref a.hZ),(Sum.inl 22,.ref a.kO)]
structure TJ (P:Program) (w:World) (K:UR) (a:bF):Prop where
 calls:∀ h:Heap,K.In h->h.DictOf (aY P w) a.rP (FI a)
 reads:∀ h:Heap,K.In h->h.DictOf (aY P w) a.dz (Ht a)
 shapes:∃ sp:Nat->Addr,(∀ h:Heap,K.In h->h.DictOf (aY P w) a.qp ((List.range 23).map λ(i:Nat)=>((Sum.inl (i:Int):Key),Value.ref (sp i))))/\∀ (i:Nat) (s:Nat × Nat),Ag[i]?=some s->∀ H,gg K H (sp i) [.int (s.1:Int),.int (s.2:Int)]
 none_:∀ H,gg K H a.bL (l9 free)
section
variable {P:Program} {w:World} {K:UR} {mg:Str->Option Value} {base:Heap} {a:bF}
def Ou (a:bF) (i:Nat):Sp:=λvs H Q _=>∃ (bad:List Addr) (be nm rw ln wd:Addr) (L:Lay) (h:UZ) (N:Nat) (xs:List Int) (ps:List Addr) (rs:List (List Int)) (c:VC),
 vs=[.ref be,.ref nm,.ref rw]/\Given a bad H be nm rw ln wd L h N xs ps rs/\bX i xs rs c/\(¬ i∈free->vj h) /\
 ∀ (H':Hp) (ln' wd':Addr) (L':Lay) (cc:Addr),Done a bad H be ln wd L h H' ln' wd' L' (U0 h c) cc->Q (.ref cc) H'
structure qJ (P:Program) (w:World) (K:UR) (mg:Str->Option Value) (base:Heap) (a:bF) (i:Nat) (f:Addr) (fd:FuncData) (k:Nat) (sp:Sp):Prop where
 ok:a7 P w K mg base eQ k f fd ["bench","numbers","rows"] sp
 kp:Wd K (.ref f)=true
 bi:Binds K fd ["bench","numbers","rows"] []
 to:∀ vs H Q E,Ou a i vs H Q E->sp vs H Q E
def UN:List (List Int->List (List Int)->VC->Prop):=[λxs rs c=>c=.clear,λxs rs c=>∃ t k n st p b,xs=[t,k,n,st]/\rs=[p,b]/\c=.new t k n st p b,λxs rs c=>∃ i z l,xs=[i,z]/\rs=[l]/\c=.lie i z l,λxs rs c=>∃ i z,xs=[i,z]/\c=.mute i z,λxs rs c=>∃ i z,xs=[i,z]/\c=.honest i z,λxs rs c=>∃ x y,xs=[x,y]/\c=.pair x y,λxs rs c=>∃ z i,xs=[z,i]/\c=.say z i,λxs rs c=>∃ z,xs=[z]/\c=.deliver z,λxs rs c=>∃ z,xs=[z]/\c=.lose z,λxs rs c=>∃ z,xs=[z]/\c=.double z,λxs rs c=>∃ z i,xs=[z,i]/\c=.hush z i,λxs rs c=>c=.close,λxs rs c=>c=.line,λxs rs c=>∃ z,xs=[z]/\c=.word z,λxs rs c=>∃ z,xs=[z]/\c=.dispute z,λxs rs c=>∃ z,xs=[z]/\c=.agreed z,λxs rs c=>∃ z,xs=[z]/\c=.truth z,λxs rs c=>∃ i z,xs=[i,z]/\c=.heard i z,λxs rs c=>∃ i z,xs=[i,z]/\c=.says i z,λxs rs c=>∃ i,xs=[i]/\c=.host i,λxs rs c=>c=.affair,λxs rs c=>c=.counts,λxs rs c=>∃ l,rs=[l]/\c=.work l]
theorem bE {i:Nat} {xs:List Int} {rs:List (List Int)} {c:VC} (h:bX i xs rs c):UN.getD i (λ_ _ _=>False) xs rs c:=by
 cases h<;>first | exact rfl | exact ⟨_,rfl,rfl⟩ | exact ⟨_,_,rfl,rfl⟩ | exact ⟨_,_,_,rfl,rfl,rfl⟩ | exact ⟨_,_,_,_,_,_,rfl,rfl,rfl⟩
theorem bS {i:Nat} {C:List Int->List (List Int)->VC->Prop} {W:UZ->Prop} {vs:List V} {H:Hp} {Q:VK} {E:XK} (hC:∀ xs rs c,bX i xs rs c->C xs rs c) (hW:∀ h,(¬ i∈free->vj h)->W h) (h:Ou a i vs H Q E):d8 K a C W vs H Q E:=by
 obtain ⟨bad,be,nm,rw,ln,wd,L,h,N,xs,ps,rs,c,e,G,hc,hA,k⟩:=h
 exact ⟨bad,be,nm,rw,ln,wd,L,h,N,xs,ps,rs,c,e,G,hC _ _ _ hc,hW _ hA,k⟩
theorem KS (T:Txt K mg a):qJ P w K mg base a 0 a.jd a.lK 3 (zK K a):=⟨Gg T,T.rC.kp,T.wB,λ_ _ _ _=>bS (λ_ _ _=>bE) (λ_ _=>trivial)⟩
theorem O5 (T:Txt K mg a):qJ P w K mg base a 1 a.mO a.pM 6 (C8 K a):=⟨Je T,T.wL.kp,T.z1,λ_ _ _ _=>bS (λ_ _ _=>bE) (λ_ _=>trivial)⟩
theorem O9 (T:Txt K mg a):qJ P w K mg base a 2 a.mP a.pI 3 (CN K a):=⟨II T,T.wq.kp,T.Aq,λ_ _ _ _=>bS (λ_ _ _=>bE) (λ_ hA=>hA (by decide))⟩
theorem Mz (T:Txt K mg a):qJ P w K mg base a 3 a.kX a.m4 3 (A7 K a):=⟨G5 T,T.ui.kp,T.y3,λ_ _ _ _=>bS (λ_ _ _=>bE) (λ_ hA=>hA (by decide))⟩
theorem Ji (T:Txt K mg a):qJ P w K mg base a 4 a.gY a.jQ 3 (yJ K a):=⟨EX T,T.qc.kp,T.uQ,λ_ _ _ _=>bS (λ_ _ _=>bE) (λ_ hA=>hA (by decide))⟩
theorem M9 (T:Txt K mg a):qJ P w K mg base a 5 a.kn a.mZ 7 (Bo K a):=⟨Ig T,T.uz.kp,T.yz,λ_ _ _ _=>bS (λ_ _ _=>bE) (λ_ hA=>hA (by decide))⟩
theorem Pc (T:Txt K mg a):qJ P w K mg base a 6 a.mN a.pO 3 (Dk K a):=⟨JT T,T.w8.kp,T.AK,λ_ _ _ _=>bS (λ_ _ _=>bE) (λ_ hA=>hA (by decide))⟩
theorem Ic (T:Txt K mg a):qJ P w K mg base a 7 a.fA a.iY 7 (xf K a):=⟨Dq T,T.oF.kp,T.tJ,λ_ _ _ _=>bS (λ_ _ _=>bE) (λ_ hA=>hA (by decide))⟩
theorem ME (T:Txt K mg a):qJ P w K mg base a 8 a.kU a.nB 2 (Bf K a):=⟨G2 T,T.uq.kp,T.yU,λ_ _ _ _=>bS (λ_ _ _=>bE) (λ_ hA=>hA (by decide))⟩
theorem IV (T:Txt K mg a):qJ P w K mg base a 9 a.gT a.jO 3 (yu K a):=⟨ET T,T.p9.kp,T.uV,λ_ _ _ _=>bS (λ_ _ _=>bE) (λ_ _=>trivial)⟩
theorem Mn (T:Txt K mg a):qJ P w K mg base a 10 a.lg a.nv 6 (Be K a):=⟨HM T,T.uc.kp,T.yQ,λ_ _ _ _=>bS (λ_ _ _=>bE) (λ_ hA=>hA (by decide))⟩
theorem Km (T:Txt K mg a):qJ P w K mg base a 11 a.je a.lT 2 (zF K a):=⟨FW T,T.rD.kp,T.wZ,λ_ _ _ _=>bS (λ_ _ _=>bE) (λ_ hA=>hA (by decide))⟩
theorem Mh (T:Txt K mg a):qJ P w K mg base a 12 a.lj a.ni 2 (BG K a):=⟨Hj T,T.tU.kp,T.yx,λ_ _ _ _=>bS (λ_ _ _=>bE) (λ_ _=>trivial)⟩
theorem M4 (T:Txt K mg a):qJ P w K mg base a 13 a.kb a.nk 2 (Bb K a):=⟨HZ T,T.ud.kp,T.yL,λ_ _ _ _=>bS (λ_ _ _=>bE) (λ_ _=>trivial)⟩
theorem Ii (T:Txt K mg a):qJ P w K mg base a 14 a.fD a.iN 3 (xp K a):=⟨DS T,T.nJ.kp,T.rW,λ_ _ _ _=>bS (λ_ _ _=>bE) (λ_ hA=>hA (by decide))⟩
theorem Jj (T:Txt K mg a):qJ P w K mg base a 15 a.gV a.jK 3 (xI K a):=⟨FE T,T.pY.kp,T.vp,λ_ _ _ _=>bS (λ_ _ _=>bE) (λ_ hA=>hA (by decide))⟩
theorem KU (T:Txt K mg a):qJ P w K mg base a 16 a.ji a.lF 5 (zO K a):=⟨Ga T,T.rF.kp,T.wV,λ_ _ _ _=>bS (λ_ _ _=>bE) (λ_ hA=>hA (by decide))⟩
theorem K0 (T:Txt K mg a):qJ P w K mg base a 17 a.jh a.lU 3 (zN K a):=⟨Gh T,T.rN.kp,T.wY,λ_ _ _ _=>bS (λ_ _ _=>bE) (λ_ hA=>hA (by decide))⟩
theorem Nh (T:Txt K mg a):qJ P w K mg base a 18 a.kP a.nq 6 (Bc K a):=⟨Iu T,T.uB.kp,T.yg,λ_ _ _ _=>bS (λ_ _ _=>bE) (λ_ hA=>hA (by decide))⟩
theorem MG (T:Txt K mg a):qJ P w K mg base a 19 a.kL a.m9 4 (A4 K a):=⟨Ia T,T.uu.kp,T.x9,λ_ _ _ _=>bS (λ_ _ _=>bE) (λ_ hA=>hA (by decide))⟩
theorem IW (T:Txt K mg a):qJ P w K mg base a 20 a.gW a.jN 3 (yP K a):=⟨EO T,T.p8.kp,T.vt,λ_ _ _ _=>bS (λ_ _ _=>bE) (λ_ hA=>hA (by decide))⟩
theorem JH (T:Txt K mg a):qJ P w K mg base a 21 a.hZ a.jP 1 (yZ K a):=⟨Fe T,T.p6.kp,T.uZ,λ_ _ _ _=>bS (λ_ _ _=>bE) (λ_ _=>trivial)⟩
theorem Nd (T:Txt K mg a):qJ P w K mg base a 22 a.kO a.nA 4 (A0 K a):=⟨HE T,T.ur.kp,T.zg,λ_ _ _ _=>bS (λ_ _ _=>bE) (λ_ hA=>hA (by decide))⟩
theorem GJ (T:Txt K mg a):∀ i,i < 12->∃ f fd k sp,k<=9/\valueAt (FI a) (Sum.inl ((i:Nat):Int))=some (.ref f)/\qJ P w K mg base a i f fd k sp
 | 0,_=>⟨_,_,_,_,by decide,rfl,KS T⟩
 | 1,_=>⟨_,_,_,_,by decide,rfl,O5 T⟩
 | 2,_=>⟨_,_,_,_,by decide,rfl,O9 T⟩
 | 3,_=>⟨_,_,_,_,by decide,rfl,Mz T⟩
 | 4,_=>⟨_,_,_,_,by decide,rfl,Ji T⟩
 | 5,_=>⟨_,_,_,_,by decide,rfl,M9 T⟩
 | 6,_=>⟨_,_,_,_,by decide,rfl,Pc T⟩
 | 7,_=>⟨_,_,_,_,by decide,rfl,Ic T⟩
 | 8,_=>⟨_,_,_,_,by decide,rfl,ME T⟩
 | 9,_=>⟨_,_,_,_,by decide,rfl,IV T⟩
 | 10,_=>⟨_,_,_,_,by decide,rfl,Mn T⟩
 | 11,_=>⟨_,_,_,_,by decide,rfl,Km T⟩
 | n+12,h=>absurd h (by lia)
theorem MC (T:Txt K mg a):∀ i,i < 11->∃ f fd k sp,k<=7/\valueAt (Ht a) (Sum.inl ((i+12:Nat):Int))=some (.ref f)/\qJ P w K mg base a (i+12) f fd k sp
 | 0,_=>⟨_,_,_,_,by decide,rfl,Mh T⟩
 | 1,_=>⟨_,_,_,_,by decide,rfl,M4 T⟩
 | 2,_=>⟨_,_,_,_,by decide,rfl,Ii T⟩
 | 3,_=>⟨_,_,_,_,by decide,rfl,Jj T⟩
 | 4,_=>⟨_,_,_,_,by decide,rfl,KU T⟩
 | 5,_=>⟨_,_,_,_,by decide,rfl,K0 T⟩
 | 6,_=>⟨_,_,_,_,by decide,rfl,Nh T⟩
 | 7,_=>⟨_,_,_,_,by decide,rfl,MG T⟩
 | 8,_=>⟨_,_,_,_,by decide,rfl,IW T⟩
 | 9,_=>⟨_,_,_,_,by decide,rfl,JH T⟩
 | 10,_=>⟨_,_,_,_,by decide,rfl,Nd T⟩
 | n+11,h=>absurd h (by lia)
theorem GF {i:Nat} {xs:List Int} {rs:List (List Int)} {c:VC} (h:bX i xs rs c):i < 23:=by cases h<;>decide
theorem JB {i:Nat} {xs:List Int} {rs:List (List Int)} {c:VC} {h:UZ} (hc:bX i xs rs c) (hf:¬ i∈free) (hn:h.affair=none):U0 h c=U7 h (-2):=by
 have oA:∀ f,Wh h f=U7 h (-2):=λf=>by unfold Wh;rw [hn]
 have oH:∀ i f,V3 h i f=U7 h (-2):=λi f=>by unfold V3;exact oA _
 cases hc<;>first | (exact absurd (by decide) hf) | (unfold U0;first | exact oA _ | exact oH _ _)
def AV (K:UR) (a:bF):Sp:=λvs H Q E=>∃ (i:Nat) (be nm rw:Addr),vs=[.ref be,.int ((i+12:Nat):Int),.ref nm,.ref rw]/\i < 11/\Ou a (i+12) [.ref be,.ref nm,.ref rw] H Q E
theorem AS (T:Txt K mg a) (Dc:TJ P w K a):a7 P w K mg base eQ 8 a.iU a.i7 ["bench","call","numbers","rows"] (AV K a):=by
 refine T.lM.ok tP ?_ ?_
 ·rintro _ _ _ _ ⟨_,_,_,_,rfl,_⟩
  rfl
 ·rintro cdv A outer s H _ Q E hr ⟨i,be,nm,rw,rfl,hi,k⟩
  refine ⟨_,(ah (aN (i:=4) tP.nd rfl (Or.inl rfl) (EG (Bx (by rfl) T.qI (show RelV (V.ref a.dz) (Value.ref a.dz) from rfl)) (pv 1) (λ_ _=>rfl)))
   (ao (aB (Jd 4 rfl (Or.inl rfl) (aa (pv 0) (aa (pv 2) (aa (pv 3) aj))))))),?_⟩
  obtain ⟨f,fd,kk,sp,hk,hv,pf⟩:=MC (P:=P) (w:=w) (base:=base) T i hi
  refine xE rfl ⟨a.dz,((i+12:Nat):Int),Ht a,.ref f,xE rfl ⟨rfl,Dc.reads,hv,rfl,?_⟩⟩
  exact ⟨f,fd,_,sp,kk,rfl,pf.ok,hr.mono hk,pf.kp,pf.bi,x2 rfl rfl (xE rfl (pf.to _ _ _ _ k))⟩
def MN (K:UR) (a:bF):Sp:=λvs H Q _=>∃ (bad:List Addr) (be nm rw ln wd:Addr) (L:Lay) (h:UZ) (N:Nat) (xs:List Int) (ps:List Addr) (rs:List (List Int)) (c:VC) (i:Nat),
 vs=[.ref be,.int (i:Int),.ref nm,.ref rw]/\Given a bad H be nm rw ln wd L h N xs ps rs/\bX i xs rs c /\
 ∀ (H':Hp) (ln' wd':Addr) (L':Lay) (cc:Addr),Done a bad H be ln wd L h H' ln' wd' L' (U0 h c) cc->Q (.ref cc) H'
theorem PY (i:Nat):Lm (.int (i:Int)) (l9 free)=decide (i∈free):=by
 have h:∀ u:Nat,((u:Int) == (i:Int))=decide (u=i):=λu=>by
  by_cases e:u=i
  ·rw [e];simp
  ·rw [decide_eq_false e,beq_eq_false_iff_ne.mpr (by lia)]
 unfold Lm l9 free
 simp only [Vc,Wy,VP,List.any_nil,N8,Bool.or_false,h]
 by_cases c:i∈[0,1,9,12,13,21]
 ·rw [decide_eq_true c]
  simp only [U4,List.not_mem_nil,or_false] at c
  simp only [Wz,decide_eq_true_eq]
  lia
 ·rw [decide_eq_false c]
  simp only [U4,List.not_mem_nil,or_false] at c
  simp only [Bool.or_eq_false_iff,decide_eq_false_iff_not]
  lia
theorem Mq (T:Txt K mg a) (Dc:TJ P w K a):a7 P w K mg base eQ 10 a.yc a.x8 ["bench","call","numbers","rows"] (MN K a):=by
 refine T.Bd.ok GN ?_ ?_
 ·rintro _ _ _ _ ⟨_,_,_,_,_,_,_,_,_,_,_,_,_,_,rfl,_⟩
  rfl
 ·rintro cdv A outer s H _ Q E hr ⟨bad,be,nm,rw,ln,wd,L,h,N,xs,ps,rs,c,i,rfl,G,hc,k⟩
  refine ⟨_,(ah (bg (PW.pt (yi (a8 vi (ai (K:=K) (pv 0) rfl) ib (bo _)) (zp (a8 (Gy (K:=K)) (pv 1) (Bx (by rfl) T.jg (show RelV (V.ref a.bL) (Value.ref a.bL) from rfl)) rfl)))) (ao (aB (aS (aa (aM (by rfl) T.JN) aj)))) aO)
   (ah (bg (a8 LJ (pv 1) (aM (by rfl) T.DK) (bo _)) (ao (aB (bC (AS T Dc) hr.lo rfl T.pL T.lM.kp T.pE .nil aE (aa (pv 0) (aa (pv 1) (aa (pv 2) (aa (pv 3) aj))))))) aO)
   (ah (aN (i:=4) GN.nd rfl (Or.inl rfl) (EG (Bx (by rfl) T.Im (show RelV (V.ref a.rP) (Value.ref a.rP) from rfl)) (pv 1) (λ_ _=>rfl)))
   (ao (aB (Jd 4 rfl (Or.inl rfl) (aa (pv 0) (aa (pv 2) (aa (pv 3) aj))))))))),?_⟩
  obtain ⟨dx,hbe⟩:=G.at_.ins
  have hi:=GF hc
  refine vF rfl hbe T.aP T.aF rfl ⟨rfl,xE rfl ?_⟩
  cases eA:h.affair with
  | some A =>
   have ev:BI L h=.ref (L.ad .af):=by unfold BI;rw [eA]
   rw [ev]
   have hA:¬ i∈free->vj h:=λ_=>⟨A,eA⟩
   refine bp (bp ?_)
   refine xE rfl ⟨_,xE rfl ⟨rfl,xE rfl ?_⟩⟩
   by_cases c12:12<=i
   ·rw [decide_eq_true (show (12:Int)<=(i:Int) by lia)]
    obtain ⟨j,rfl⟩:∃ j,i=j+12:=⟨i - 12,by lia⟩
    exact bf (x2 rfl rfl (x2 rfl rfl ⟨j,be,nm,rw,rfl,by lia,bad,be,nm,rw,ln,wd,L,h,N,xs,ps,rs,c,rfl,G,hc,hA,k⟩))
   ·rw [decide_eq_false (show ¬ (12:Int)<=(i:Int) by lia)]
    obtain ⟨f,fd,kk,sp,hk,hv,pf⟩:=GJ (P:=P) (w:=w) (base:=base) T i (by exact Nat.not_le.mp ‹_›)
    refine bp (xE rfl ⟨a.rP,(i:Int),FI a,.ref f,xE rfl ⟨rfl,Dc.calls,hv,rfl,?_⟩⟩)
    exact ⟨f,fd,_,sp,kk,rfl,pf.ok,hr.mono hk,pf.kp,pf.bi,x2 rfl rfl (xE rfl (pf.to _ _ _ _ ⟨bad,be,nm,rw,ln,wd,L,h,N,xs,ps,rs,c,rfl,G,hc,hA,k⟩))⟩
  | none =>
   have ev:BI L h=.dF:=by unfold BI;rw [eA]
   rw [ev]
   refine bf (xE rfl ⟨_,xE rfl ⟨.inr (Dc.none_ H),rfl,Jx _,xE rfl ?_⟩⟩)
   show if (!Lm (.int (i:Int)) (l9 free))=true then _ else _
   rw [PY]
   by_cases hf:i∈free
   ·rw [decide_eq_true hf]
    have hA:¬ i∈free->vj h:=λz=>absurd hf z
    refine bp ?_
    refine xE rfl ⟨_,xE rfl ⟨rfl,xE rfl ?_⟩⟩
    by_cases c12:12<=i
    ·rw [decide_eq_true (show (12:Int)<=(i:Int) by lia)]
     obtain ⟨j,rfl⟩:∃ j,i=j+12:=⟨i - 12,by lia⟩
     exact bf (x2 rfl rfl (x2 rfl rfl ⟨j,be,nm,rw,rfl,by lia,bad,be,nm,rw,ln,wd,L,h,N,xs,ps,rs,c,rfl,G,hc,hA,k⟩))
    ·rw [decide_eq_false (show ¬ (12:Int)<=(i:Int) by lia)]
     obtain ⟨f,fd,kk,sp,hk,hv,pf⟩:=GJ (P:=P) (w:=w) (base:=base) T i (by exact Nat.not_le.mp ‹_›)
     refine bp (xE rfl ⟨a.rP,(i:Int),FI a,.ref f,xE rfl ⟨rfl,Dc.calls,hv,rfl,?_⟩⟩)
     exact ⟨f,fd,_,sp,kk,rfl,pf.ok,hr.mono hk,pf.kp,pf.bi,x2 rfl rfl (xE rfl (pf.to _ _ _ _ ⟨bad,be,nm,rw,ln,wd,L,h,N,xs,ps,rs,c,rfl,G,hc,hA,k⟩))⟩
   ·rw [decide_eq_false hf]
    exact bf ⟨nG,λc' hc'=>k _ _ _ _ c' (G.refuse (ax.refl H) hc' (JB hc hf eA))⟩
end
end HR
namespace HR
def EN (rs:List (List Int)):List Int:=rs.flatMap λr=>(r.length:Int)::r
theorem Rk {l x t:List Int} (h:PyFlat.row l=some (x,t)):l=(x.length:Int)::(x++t):=by
 cases l with
 | nil=>cases h
 | cons n r =>
  unfold PyFlat.row at h
  simp only [] at h
  split at h
  ·rename_i c
   cases h
   rw [List.take_append_drop,Vr,WV c.2]
   congr 1
   lia
  ·cases h
theorem LR:∀ (k:Nat) (l:List Int) (xs:List (List Int)) (t:List Int),PyFlat.rows k l=some (xs,t)->xs.length=k/\l=EN xs++t
 | 0,l,xs,t,h=>by
  unfold PyFlat.rows at h
  cases h
  exact ⟨rfl,rfl⟩
 | k+1,l,xs,t,h=>by
  unfold PyFlat.rows at h
  split at h
  ·cases h
  ·rename_i x s hx
   split at h
   ·cases h
   ·rename_i ys t' hy
    cases h
    obtain ⟨e1,e2⟩:=LR k s ys t hy
    refine ⟨by rw [Vj,e1],?_⟩
    rw [Rk hx,e2]
    unfold EN
    simp
theorem O6 {p:Int} {n k:Nat} {xs:List Int} {rs:List (List Int)} (h:Xc p=some (n,k)) (hn:xs.length=n) (hk:rs.length=k) :
  ∃ (i:Nat) (v:VC),p=(i:Int)/\Ag[i]?=some (n,k)/\bX i xs rs v/\VbapajNeutral.callOf (WG ((p::xs)::rs))=some v:=by
 unfold Xc at h
 by_cases c0:p=0
 ·subst c0
  rw [if_pos rfl] at h
  cases h
  match xs,rs,hn,hk with
  | [],[],_,_=>exact ⟨0,_,rfl,rfl,.clear,rfl⟩
 rw [if_neg c0] at h
 by_cases c1:p=1
 ·subst c1
  rw [if_pos rfl] at h
  cases h
  match xs,rs,hn,hk with
  | [x0,x1,x2,x3],[r0,r1],_,_=>exact ⟨1,_,rfl,rfl,.new _ _ _ _ _ _,rfl⟩
 rw [if_neg c1] at h
 by_cases c2:p=2
 ·subst c2
  rw [if_pos rfl] at h
  cases h
  match xs,rs,hn,hk with
  | [x0,x1],[r0],_,_=>exact ⟨2,_,rfl,rfl,.lie _ _ _,rfl⟩
 rw [if_neg c2] at h
 by_cases c3:p=3
 ·subst c3
  rw [if_pos rfl] at h
  cases h
  match xs,rs,hn,hk with
  | [x0,x1],[],_,_=>exact ⟨3,_,rfl,rfl,.mute _ _,rfl⟩
 rw [if_neg c3] at h
 by_cases c4:p=4
 ·subst c4
  rw [if_pos rfl] at h
  cases h
  match xs,rs,hn,hk with
  | [x0,x1],[],_,_=>exact ⟨4,_,rfl,rfl,.honest _ _,rfl⟩
 rw [if_neg c4] at h
 by_cases c5:p=5
 ·subst c5
  rw [if_pos rfl] at h
  cases h
  match xs,rs,hn,hk with
  | [x0,x1],[],_,_=>exact ⟨5,_,rfl,rfl,.pair _ _,rfl⟩
 rw [if_neg c5] at h
 by_cases c6:p=6
 ·subst c6
  rw [if_pos rfl] at h
  cases h
  match xs,rs,hn,hk with
  | [x0,x1],[],_,_=>exact ⟨6,_,rfl,rfl,.say _ _,rfl⟩
 rw [if_neg c6] at h
 by_cases c7:p=7
 ·subst c7
  rw [if_pos rfl] at h
  cases h
  match xs,rs,hn,hk with
  | [x0],[],_,_=>exact ⟨7,_,rfl,rfl,.deliver _,rfl⟩
 rw [if_neg c7] at h
 by_cases c8:p=8
 ·subst c8
  rw [if_pos rfl] at h
  cases h
  match xs,rs,hn,hk with
  | [x0],[],_,_=>exact ⟨8,_,rfl,rfl,.lose _,rfl⟩
 rw [if_neg c8] at h
 by_cases c9:p=9
 ·subst c9
  rw [if_pos rfl] at h
  cases h
  match xs,rs,hn,hk with
  | [x0],[],_,_=>exact ⟨9,_,rfl,rfl,.double _,rfl⟩
 rw [if_neg c9] at h
 by_cases c10:p=10
 ·subst c10
  rw [if_pos rfl] at h
  cases h
  match xs,rs,hn,hk with
  | [x0,x1],[],_,_=>exact ⟨10,_,rfl,rfl,.hush _ _,rfl⟩
 rw [if_neg c10] at h
 by_cases c11:p=11
 ·subst c11
  rw [if_pos rfl] at h
  cases h
  match xs,rs,hn,hk with
  | [],[],_,_=>exact ⟨11,_,rfl,rfl,.close,rfl⟩
 rw [if_neg c11] at h
 by_cases c12:p=12
 ·subst c12
  rw [if_pos rfl] at h
  cases h
  match xs,rs,hn,hk with
  | [],[],_,_=>exact ⟨12,_,rfl,rfl,.line,rfl⟩
 rw [if_neg c12] at h
 by_cases c13:p=13
 ·subst c13
  rw [if_pos rfl] at h
  cases h
  match xs,rs,hn,hk with
  | [x0],[],_,_=>exact ⟨13,_,rfl,rfl,.word _,rfl⟩
 rw [if_neg c13] at h
 by_cases c14:p=14
 ·subst c14
  rw [if_pos rfl] at h
  cases h
  match xs,rs,hn,hk with
  | [x0],[],_,_=>exact ⟨14,_,rfl,rfl,.dispute _,rfl⟩
 rw [if_neg c14] at h
 by_cases c15:p=15
 ·subst c15
  rw [if_pos rfl] at h
  cases h
  match xs,rs,hn,hk with
  | [x0],[],_,_=>exact ⟨15,_,rfl,rfl,.agreed _,rfl⟩
 rw [if_neg c15] at h
 by_cases c16:p=16
 ·subst c16
  rw [if_pos rfl] at h
  cases h
  match xs,rs,hn,hk with
  | [x0],[],_,_=>exact ⟨16,_,rfl,rfl,.truth _,rfl⟩
 rw [if_neg c16] at h
 by_cases c17:p=17
 ·subst c17
  rw [if_pos rfl] at h
  cases h
  match xs,rs,hn,hk with
  | [x0,x1],[],_,_=>exact ⟨17,_,rfl,rfl,.heard _ _,rfl⟩
 rw [if_neg c17] at h
 by_cases c18:p=18
 ·subst c18
  rw [if_pos rfl] at h
  cases h
  match xs,rs,hn,hk with
  | [x0,x1],[],_,_=>exact ⟨18,_,rfl,rfl,.says _ _,rfl⟩
 rw [if_neg c18] at h
 by_cases c19:p=19
 ·subst c19
  rw [if_pos rfl] at h
  cases h
  match xs,rs,hn,hk with
  | [x0],[],_,_=>exact ⟨19,_,rfl,rfl,.host _,rfl⟩
 rw [if_neg c19] at h
 by_cases c20:p=20
 ·subst c20
  rw [if_pos rfl] at h
  cases h
  match xs,rs,hn,hk with
  | [],[],_,_=>exact ⟨20,_,rfl,rfl,.affair,rfl⟩
 rw [if_neg c20] at h
 by_cases c21:p=21
 ·subst c21
  rw [if_pos rfl] at h
  cases h
  match xs,rs,hn,hk with
  | [],[],_,_=>exact ⟨21,_,rfl,rfl,.counts,rfl⟩
 rw [if_neg c21] at h
 by_cases c22:p=22
 ·subst c22
  rw [if_pos rfl] at h
  cases h
  match xs,rs,hn,hk with
  | [],[r0],_,_=>exact ⟨22,_,rfl,rfl,.work _,rfl⟩
 rw [if_neg c22] at h
 cases h
theorem Kl {f:Nat} {l:List Int} {cs:List (List (List Int))} (h:WZ Xc f l=some cs) (hl:l≠[]) :
  ∃ (i:Nat) (xs:List Int) (rs:List (List Int)) (s:Nat × Nat) (v:VC) (t:List Int) (f':Nat) (cs':List (List (List Int))),l=(i:Int)::(xs++(EN rs++t))/\Ag[i]?=some s/\xs.length=s.1/\rs.length=s.2/\bX i xs rs v/\cs=(((i:Int)::xs)::rs)::cs' /\
   VbapajNeutral.callOf (WG (((i:Int)::xs)::rs))=some v/\WZ Xc f' t=some cs':=by
 cases l with
 | nil=>exact absurd rfl hl
 | cons p r =>
  cases f with
  | zero=>unfold WZ at h;cases h
  | succ f =>
   unfold WZ at h
   split at h
   ·cases h
   ·rename_i c t hc
    split at h
    ·cases h
    ·rename_i cs' hcs
     cases h
     unfold PyFlat.call at hc
     simp only [] at hc
     split at hc
     ·cases hc
     ·rename_i n k hs
      split at hc
      ·cases hc
      ·rename_i hn
       split at hc
       ·cases hc
       ·rename_i rs t' hr
        cases hc
        obtain ⟨e1,e2⟩:=LR k (r.drop n) rs t hr
        have hx:(r.take n).length=n:=by rw [Vr];lia
        obtain ⟨i,v,rfl,q1,q2,q3⟩:=O6 (xs:=r.take n) (rs:=rs) hs hx e1
        refine ⟨i,r.take n,rs,(n,k),v,t,f,cs',?_,q1,hx,e1,q2,rfl,q3,hcs⟩
        rw [<- e2,List.take_append_drop]
theorem Ko {c:List (List Int)} {i:Nat} {xs:List Int} {rs:List (List Int)} {v:VC} (hc:bX i xs rs v) (h:PyInside.call PyVbapaj.bound (((i:Int)::xs)::rs)=true):∀ r∈rs,r.length<=100:=by
 have key1:∀ lo hi (n m:Nat) (l:List Int),m<=100->W0 [(lo,hi,n,m)] [l]=true->l.length<=100:=λlo hi n m l hm q=>by
  unfold W0 at q
  simp only [U6,decide_eq_true_eq] at q
  lia
 have key2:∀ lo hi (n m:Nat) lo' hi' (n' m':Nat) (l l':List Int),m<=100->m'<=100->W0 [(lo,hi,n,m),(lo',hi',n',m')] [l,l']=true->l.length<=100/\l'.length<=100:=λlo hi n m lo' hi' n' m' l l' hm hm' q=>by
  unfold W0 at q
  simp only [U6,decide_eq_true_eq] at q
  have q2:=key1 lo' hi' n' m' l' hm' q.2
  exact ⟨by lia,q2⟩
 intro r hr
 cases hc<;>first | (cases hr;done) | skip
 ·rename_i t k n st p b
  have h2:W0 [(-1000000000000000000,1000000000000000000,0,100),(-1000000000000000000,1000000000000000000,0,20)] [p,b]=true:=(U6 _ _ ▸ h:_/\_).2
  obtain ⟨q1,q2⟩:=key2 _ _ _ _ _ _ _ _ _ _ (by decide) (by decide) h2
  rcases U4.mp hr with rfl | hr
  ·exact q1
  ·rw [UX.mp hr];exact q2
 ·rename_i i t l
  have h2:W0 [(-1000000000000000000,1000000000000000000,0,20)] [l]=true:=(U6 _ _ ▸ h:_/\_).2
  rw [UX.mp hr]
  exact key1 _ _ _ _ _ (by decide) h2
 ·rename_i l
  have h2:W0 [(-1000000000000000000,1000000000000000000,0,20)] [l]=true:=h
  rw [UX.mp hr]
  exact key1 _ _ _ _ _ (by decide) h2
end HR
namespace HR
open PySem PySem.Spec L2
open PyProof.Rows hiding St
def RL (K:UR) (H:Hp) (cl:Addr) (xs:List V):Prop:=(∃ o,H cl=some (.frz o (.lst xs))) ∨
 ∃ (o:Obj) (its:Array Value) (n:Nat),K.lookup cl=some o/\o.cls=.type "list"/\o.dict=none/\o.data=.seq its n/\its.size<=sizeLine/\Vals xs its.toList
theorem RL.sq {K:UR} {H:Hp} {cl:Addr} {xs:List V} (h:RL K H cl xs):bc K H cl xs:=by
 rcases h with ⟨o,h⟩ | h
 ·exact .inl (.inr ⟨o,h⟩)
 ·exact .inr h
theorem RL.keep {K:UR} {H H':Hp} {cl:Addr} {xs:List V} (h:RL K H cl xs) (k:∀ o u,H cl=some (.frz o u)->H' cl=some (.frz o u)):RL K H' cl xs:=by
 rcases h with ⟨o,h⟩ | h
 ·exact .inl ⟨o,k _ _ h⟩
 ·exact .inr h
structure z5 (a:bF) (K:UR) (H:Hp) (rd cl:Addr) (pl:Nat) (ns:List Int):Prop where
 is:mB a H rd cl pl
 fz:RL K H cl (ns.map V.int)
section
variable {a:bF} {K:UR} {H H':Hp} {rd cl:Addr} {pl:Nat} {ns:List Int}
theorem z5.up (R:z5 a K H rd cl pl ns) (o:HO):bc K (upd H rd o) cl (ns.map V.int):=by
 obtain ⟨dx,h⟩:=R.is
 refine (R.fz.keep (H':=upd H rd o) λob u e=>?_).sq
 rw [ak (aV e h (by intro z;cases z))]
 exact e
theorem z5.moved {pl':Nat} (R:z5 a K H rd cl pl ns) (k:Keeps [rd] H H') (h:mB a H' rd cl pl'):z5 a K H' rd cl pl' ns:=by
 obtain ⟨dx,h1⟩:=R.is
 exact ⟨h,R.fz.keep λob u e=>k _ _ e λm=>by rw [UX.mp m,h1] at e;cases e⟩
theorem z5.same (R:z5 a K H rd cl pl ns) (s:ax H H'):z5 a K H' rd cl pl ns:=by
 obtain ⟨dx,h1⟩:=R.is
 exact ⟨⟨dx,s _ _ h1⟩,R.fz.keep λob u e=>s _ _ e⟩
theorem bh.RP {bad:List Addr} {be ln wd:Addr} {L:Lay} {h:UZ} (B:bh a bad H be ln wd L h) (R:mB a H rd cl pl) (k:Keeps [rd] H H'):bh a bad H' be ln wd L h:=by
 obtain ⟨dr,hr⟩:=R
 obtain ⟨dx,h1⟩:=B.ins
 have kk:∀ b o,H b=some o->(∀ C d v rest,o≠.ins C d (("calls",v)::rest))->H' b=some o:=λb o e n=>k b o e λm=>by
  rw [UX.mp m,hr] at e
  cases e
  exact n _ _ _ _ rfl
 obtain ⟨⟨dl,h2⟩,kvs,h3,_⟩:=id B.line
 refine ⟨⟨dx,kk _ _ h1 (by intro _ _ _ _ z;cases z)⟩,B.line.N5 λb o e c=>kk _ _ e ?_,λA eA=>(B.ka A eA).N5 λb o e c=>kk _ _ e ?_,B.Qs,B.J6,λx hx=>?_⟩
 ·rcases c with rfl | rfl | ⟨ys,rfl⟩ | ⟨C,d,v,rest,rfl⟩
  ·rw [h2] at e;cases e;intro _ _ _ _ z;cases z
  ·rw [h3] at e;cases e;intro _ _ _ _ z;cases z
  ·intro _ _ _ _ z;cases z
  ·intro _ _ _ _ z;injection z with _ _ z;injection z with z _;injection z with z _;exact absurd z (by decide)
 ·have F:=B.ka A eA
  rcases c with ⟨r,hr',rfl⟩ | rfl | ⟨ys,rfl⟩ | ⟨ob,u,rfl⟩ | ⟨⟨ys,rfl⟩,n⟩
  ·intro C d v rest z
   subst z
   exact F.Fd hr' e (by decide) (by decide) (by decide) rfl
  ·obtain ⟨d4,h4⟩:=F.run.run
   rw [h4] at e
   cases e
   intro _ _ _ _ z;cases z
  ·intro _ _ _ _ z;cases z
  ·intro _ _ _ _ z;cases z
  ·intro _ _ _ _ z;cases z
 ·obtain ⟨ys,e⟩:=B.zC x hx
  exact ⟨ys,kk _ _ e (by intro _ _ _ _ z;cases z)⟩
theorem bh.TZ {bad:List Addr} {be ln wd:Addr} {L:Lay} {h:UZ} (B:bh a bad H be ln wd L h) (R:z5 a K H rd cl pl ns):¬ Own L be ln wd h rd/\∀ o u,H cl=some (.frz o u)->¬ Own L be ln wd h cl:=by
 obtain ⟨dr,hr⟩:=R.is
 obtain ⟨dx,h1⟩:=B.ins
 obtain ⟨⟨dl,h2⟩,kvs,h3,_⟩:=B.line
 refine ⟨?_,λo u e=>?_⟩
 ·rintro (rfl | rfl | rfl | ⟨A,r,eA,hr',rfl⟩)
  ·exact kG h1 hr (by decide) rfl
  ·exact kG h2 hr (by decide) rfl
  ·rw [h3] at hr;cases hr
  ·exact (B.ka A eA).Fd hr' hr (by decide) (by decide) (by decide) rfl
 ·rintro (rfl | rfl | rfl | ⟨A,r,eA,hr',rfl⟩)
  ·rw [h1] at e;cases e
  ·rw [h2] at e;cases e
  ·rw [h3] at e;cases e
  ·exact (B.ka A eA).SF hr' e rfl
end
theorem drop_cons {l t:List Int} {p:Nat} {z:Int} (h:l.drop p=z::t):l[p]?=some z/\l.drop (p+1)=t:=by
 have h1:(l.drop p)[0]?=some z:=by rw [h];rfl
 rw [List.getElem?_drop,Nat.add_zero] at h1
 refine ⟨h1,?_⟩
 rw [<- List.drop_drop,h]
 rfl
theorem IL {l x t:List Int} {p:Nat} (hp:p<=l.length) (h:l.drop p=x++t):p+x.length<=l.length/\(l.drop p).take x.length=x/\l.drop (p+x.length)=t:=by
 have hl:=congrArg List.length h
 rw [W4,VD] at hl
 exact ⟨by lia,by rw [h,List.take_left],by rw [<- List.drop_drop,h,List.drop_left]⟩
theorem Ku {n j:Nat} {p:Nat->Bool} (hj:j < n) (hp:∀ i,p i=decide (i=j)):(List.range n).find? p=some j:=by
 rw [List.find?_eq_some_iff_append]
 refine ⟨by rw [hp];simp,List.range j,(WA (j+1) (n - j - 1)),?_,λb hb=>?_⟩
 ·rw [Xm,Xm,show j::WA (j+1) (n - j - 1)=WA j (n - j - 1+1) from (List.range'_succ ..).symm]
  rw [show n=j+(n - j - 1+1) by lia]
  have:=(List.range'_append (s:=0) (m:=j) (n:=n - j - 1+1) (step:=1)).symm
  simp only [Nat.one_mul,WO] at this
  rw [this]
  congr 2
  lia
 ·have:=Vq.mp hb
  rw [hp]
  simp
  exact Vh ‹_›
theorem ML {n i:Nat} (f:Nat->Value) (hi:i < n):valueAt ((List.range n).map λ(i:Nat)=>((Sum.inl (i:Int):Key),f i)) (Sum.inl (i:Int))=some (f i):=by
 unfold valueAt
 rw [List.find?_map,Ku hi (p:=(λkv:Key × Value=>decide (kv.1=Sum.inl (i:Int))) ∘ λ(i:Nat)=>((Sum.inl (i:Int):Key),f i)) λj=>Cv j i]
 rfl
theorem IX {i:Nat} {xs:List Int} {rs:List (List Int)} {c:VC} (h:bX i xs rs c):rs.length<=2:=by cases h<;>simp
theorem OQ {rs:List (List Int)} {m:Nat} {r:List Int} (h:rs[m]?=some r):EN (rs.drop m)=(r.length:Int)::(r++EN (rs.drop (m+1))):=by
 obtain ⟨h1,h2⟩:=Vn.mp h
 rw [List.drop_eq_getElem_cons h1,h2]
 rfl
section
variable {P:Program} {w:World} {K:UR} {mg:Str->Option Value} {base:Heap} {a:bF}
def E6 (K:UR) (a:bF):Sp:=λvs H Q _=>∃ (bad:List Addr) (be ln wd rd cl:Addr) (L:Lay) (h:UZ) (N pl:Nat) (ns xs t:List Int) (rs:List (List Int)) (i:Nat) (s:Nat × Nat) (c:VC),
 vs=[.ref be,.ref rd]/\bh a bad H be ln wd L h/\o5 h N/\N<=400/\z5 a K H rd cl pl ns/\pl<=ns.length/\ns.drop pl=(i:Int)::(xs++(EN rs++t))/\Ag[i]?=some s/\xs.length=s.1/\rs.length=s.2/\bX i xs rs c/\(∀ r∈rs,r.length<=100) /\
 ∀ (H':Hp) (ln' wd':Addr) (L':Lay) (cc:Addr) (pl':Nat),bh a bad H' be ln' wd' L' (U0 h c).1->z5 a K H' rd cl pl' ns->pl'<=ns.length->pl < pl'->ns.drop pl'=t->(∀ x∈bad,∀ o,H x=some o->H' x=some o)->¬ cc∈bad->H' cc=some (.lst ((uM (U0 h c).2).map V.int))->Q (.ref cc) H'
theorem FH (T:Txt K mg a) (Dc:TJ P w K a):a7 P w K mg base eQ 11 a.me a.mi ["bench","reader"] (E6 K a):=by
 refine T.pX.ok iB ?_ ?_
 ·rintro _ _ _ _ ⟨_,_,_,_,_,_,_,_,_,_,_,_,_,_,_,_,_,rfl,_⟩
  rfl
 ·rintro cdv A outer s H _ Q E hr ⟨bad,be,ln,wd,rd,cl,L,h,N,pl,ns,xs,t,rs,i,sh,c,rfl,B,oH,hN,R,hpl,hns,hsh,hx,hrs,hc,hfew,k⟩
  refine ⟨_,(ah (aN (i:=2) iB.nd rfl (Or.inl rfl) (b0 (pv 1) T.dG T.gE (o9 (K:=K) T) hr.lo T.gh .nil aE))
   (ah (aN (i:=3) iB.nd rfl (Or.inl rfl) (EG (Bx (by rfl) T.FC (show RelV (V.ref a.qp) (Value.ref a.qp) from rfl)) (pv 2) (λ_ _=>rfl)))
   (ah (aN (i:=4) iB.nd rfl (Or.inl rfl) (aI (pv 1) T.dG T.j6 (su (K:=K) T) hr.lo T.j8 .nil aE (aa (aJ (bN (K:=K)) (pv 3) aw (λ_ _=>rfl)) aj)))
   (ah (Bp (i:=5) rfl iB.nd rfl rfl (DV rfl rfl rfl (by decide +kernel)) (Gz rfl T.D8 (aa (aJ (bN (K:=K)) (pv 3) aw (λ_ _=>rfl)) aj)) (eU (own:=[("row",6)]) (by show xC ["bench","reader","call","shape","numbers","rows","row"] (aq p4) _ _=true;decide +kernel)) (λ_ _ _ _ _=>ff (i:=6) iB.nd rfl (Or.inl rfl)) (λ_ _ _ _ _=>oP) (λ_ _ _ _ _=>(aI (pv 1) T.dG T.j6 (su (K:=K) T) hr.lo T.j8 .nil aE (aa (b0 (pv 1) T.dG T.gE (o9 (K:=K) T) hr.lo T.gh .nil aE) aj))))
   (ao (aB (bC (Mq T Dc) hr.lo rfl T.Er T.Bd.kp T.Fm .nil aE (aa (pv 0) (aa (pv 2) (aa (pv 4) (aa (pv 5) aj))))))))))),?_⟩
  have hz:=sizeLine_eq
  obtain ⟨d0,q0⟩:=R.is
  obtain ⟨e1,e2⟩:=drop_cons hns
  have hp1:pl+1<=ns.length:=(Vn.mp e1).1
  refine vM rfl q0 rfl ⟨rd,cl,pl,ns,(i:Int),rfl,R.is,R.fz.sq,R.up,e1,λH1 k1 R1'=>?_⟩
  have R1:=R.moved k1 R1'
  have B1:=B.RP R.is k1
  obtain ⟨sp,hD,hT⟩:=Dc.shapes
  have hi:=GF hc
  refine xE rfl ⟨a.qp,(i:Int),_,.ref (sp i),xE rfl ⟨rfl,hD,ML (λi=>Value.ref (sp i)) hi,rfl,?_⟩⟩
  obtain ⟨d1,q1⟩:=R1.is
  obtain ⟨f1,f2,f3⟩:=IL hp1 e2
  refine vM rfl q1 rfl (vI rfl (hT i sh hsh H1) (at_of (j:=0) rfl rfl) ⟨rd,cl,pl+1,sh.1,ns,rfl,R1.is,R1.fz.sq,R1.up,by rw [<- hx];exact f1,λH2 nm k2 hnm R2' h2=>?_⟩)
  have R2:=R1.moved k2 R2'
  have B2:=B1.RP R1.is k2
  rw [<- hx,f2] at h2
  rw [<- hx] at R2
  have hr2:=IX hc
  have k12:=k1.trans k2
  refine vI rfl (hT i sh hsh H2) (at_of (j:=1) rfl rfl) ⟨(sh.2:Int),rfl,by exact V7 _,by omega,λD hDn=>I0 (lo:=0) (n:=sh.2) (λm H'=>∃ (ps:List Addr) (pl':Nat),H' D=some (.lst (ps.map V.ref))/\Paired (λp (r:List Int)=>p≠D/\H' p=some (.lst (r.map V.int))) ps (rs.take m)/\z5 a K H' rd cl pl' ns/\ns.drop pl'=EN (rs.drop m)++t/\pl'<=ns.length/\pl < pl'/\Keeps [rd] H2 H') ?_ ?_ ?_⟩
  ·exact ⟨[],pl+1+xs.length,ae,.nil,R2.same (ax.laid hDn),f3,f1,by exact V8 _ _,Keeps.same (ax.laid hDn)⟩
  ·rintro m H3 hm ⟨ps,pl',g1,g2,R3,g3,g4,g5,k3⟩
   obtain ⟨r,hr⟩:∃ r,rs[m]?=some r:=⟨_,VI (by lia)⟩
   obtain ⟨d3,q3⟩:=R3.is
   rw [OQ hr,List.cons_append,W9] at g3
   obtain ⟨w1,w2⟩:=drop_cons g3
   have hp3:pl'+1<=ns.length:=(Vn.mp w1).1
   obtain ⟨w3,w4,w5⟩:=IL hp3 w2
   refine ⟨rfl,EZ (vM rfl q3 rfl (vM rfl q3 rfl ⟨rd,cl,pl',ns,(r.length:Int),rfl,R3.is,R3.fz.sq,R3.up,w1,λH4 k4 R4'=>?_⟩))⟩
   have R4:=R3.moved k4 R4'
   refine ⟨rd,cl,pl'+1,r.length,ns,rfl,R4.is,R4.fz.sq,R4.up,w3,λH5 c5 k5 hc5 R5' h5=>?_⟩
   have R5:=R4.moved k5 R5'
   rw [w4] at h5
   have off:∀ {b:Addr} {ys:List V},H3 b=some (.lst ys)->H5 b=some (.lst ys):=λ{b ys} e=>(k4.trans k5) _ _ e λz=>by rw [UX.mp z,q3] at e;cases e
   have gD:=off g1
   have pl2:ps.length<=2:=by rw [Paired.length g2,Vr];lia
   have cD:c5≠D:=λz=>by
    have e4:H4 D=some (.lst (ps.map V.ref)):=k4 _ _ g1 λz=>by rw [UX.mp z,q3] at g1;cases g1
    rw [z,e4] at hc5;cases hc5
   refine ⟨_,gD,by rw [UT];lia,ps++[c5],pl'+1+r.length,by rw [ae,Vk];rfl,?_,⟨?_,?_⟩,w5,w3,by lia,?_⟩
   ·rw [take_snoc hr]
    refine qD (Paired.KA g2 λp r ⟨n1,e⟩=>⟨n1,by rw [ak n1];exact off e⟩) ⟨cD,by rw [ak cD];exact h5⟩
   ·obtain ⟨d5,q5⟩:=R5.is
    exact ⟨d5,by rw [ak (aV q5 gD (by intro z;cases z))];exact q5⟩
   ·exact R5.fz.keep λob u e=>by rw [ak (aV e gD (by intro z;cases z))];exact e
   ·intro b o e n
    have e5:=(k3.trans (k4.trans k5)) _ _ e n
    rw [ak (λz=>by rw [z,hDn] at e;cases e)]
    exact e5
  ·rintro H3 ⟨ps,pl',g1,g2,R3,g3,g4,g5,k3⟩
   rw [<- hrs,VV] at g2
   rw [<- hrs,List.drop_length] at g3
   have B3:=B2.RP R2.is k3
   obtain ⟨d2,q2⟩:=R2.is
   have nmr:nm≠rd:=aV h2 q2 (by intro z;cases z)
   have hnm3:H3 nm=some (.lst (xs.map V.int)):=k3 _ _ h2 λz=>nmr (UX.mp z)
   have G:Given a bad H3 be nm D ln wd L h N xs ps rs:=⟨B3,oH,hN,hnm3,g1,Paired.KA g2 λp r q=>q.2,hfew⟩
   refine x2 rfl rfl (x2 rfl rfl ⟨bad,be,nm,D,ln,wd,L,h,N,xs,ps,rs,c,i,rfl,G,hc,λH' ln' wd' L' cc Dn=>?_⟩)
   obtain ⟨n1,n2⟩:=B3.TZ R3
   obtain ⟨d3,q3⟩:=R3.is
   refine k H' ln' wd' L' cc pl' Dn.at_ ⟨⟨d3,Dn.keep _ _ q3 n1⟩,R3.fz.keep λob u e=>Dn.keep _ _ e (n2 _ _ e)⟩ g4 g5 g3 (λx hx o e=>?_) Dn.new Dn.told
   obtain ⟨ys,ey⟩:=B.zC x hx
   rw [e] at ey
   cases ey
   have xr:¬ x∈[rd]:=λz=>by rw [UX.mp z,q0] at e;cases e
   exact Dn.keep _ _ ((k12.trans k3) _ _ e xr) (B3.QE hx)
end
def AZ (h:UZ) (cs:List (List (List Int))):List Int:=PyFlat.told (PyFlat.played Xd h (cs.map WG))
theorem Jy {h:UZ} {c:List (List Int)} {cs:List (List (List Int))} {v:VC} (hc:VbapajNeutral.callOf (WG c)=some v):AZ h (c::cs)=(((uM (U0 h v).2).length:Int)::uM (U0 h v).2)++AZ (U0 h v).1 cs:=by
 have e:Xd h (WG c)=((U0 h v).1,uM (U0 h v).2):=by
  unfold Xd
  rw [hc]
  rfl
 show PyFlat.told ((Xd h (WG c)).2::PyFlat.played Xd (Xd h (WG c)).1 (cs.map WG))=_
 rw [e]
 rfl
def placeOf (rd:Addr) (H:Hp):Nat:=match H rd with
 | some (.ins _ _ [_,(_,.int z)])=>z.toNat
 | _=>0
theorem Ef {a:bF} {H:Hp} {rd cl:Addr} {pl:Nat} (h:mB a H rd cl pl):placeOf rd H=pl:=by
 obtain ⟨dx,e⟩:=h
 unfold placeOf
 rw [e]
 rfl
structure Loop (a:bF) (K:UR) (H:Hp) (be rd cl gv:Addr) (ns:List Int):Prop where
 ex:∃ (ln wd:Addr) (L:Lay) (h:UZ) (N pl f:Nat) (acc:List Int) (cs:List (List (List Int))),bh a [gv] H be ln wd L h/\o5 h N/\z5 a K H rd cl pl ns/\pl<=ns.length/\WZ Xc f (ns.drop pl)=some cs/\N+cs.length<=400/\PyInside.calls PyVbapaj.bound cs=true /\
  H gv=some (.lst (acc.map V.int))/\Xf ns=acc++AZ h cs
theorem IT {ns:List Int} (h:PyVbapaj.answers_asked ns=true):∃ cs,WZ Xc ns.length ns=some cs/\cs.length<=400/\PyInside.calls PyVbapaj.bound cs=true/\Xf ns=AZ Vbapaj.empty cs/\(Xf ns).length<=10000000:=by
 unfold PyVbapaj.answers_asked at h
 split at h
 ·cases h
 ·rename_i cs hcs
  simp only [U6] at h
  obtain ⟨⟨⟨⟨_,h2⟩,h3⟩,_⟩,h5⟩:=h
  unfold PyFlat.atMost at h2
  unfold PyFlat.short at h5
  refine ⟨cs,hcs,of_decide_eq_true h2,h3,?_,of_decide_eq_true h5⟩
  unfold Xf PyVbapaj.calls
  rw [hcs]
  rfl
section
variable {P:Program} {w:World} {K:UR} {mg:Str->Option Value} {base:Heap} {a:bF}
def Nz (K:UR):Sp:=λvs H Q _=>∃ (cl:Addr) (ns:List Int),vs=[.ref cl]/\RL K H cl (ns.map V.int)/\PyVbapaj.answers_asked ns=true /\
 ∀ (H':Hp) (g:Addr),H' g=some (.lst ((Xf ns).map V.int))->Q (.ref g) H'
abbrev KO (K:UR) (a:bF):Sp:=Nz K
theorem Kv (T:Txt K mg a) (Dc:TJ P w K a):a7 P w K mg base eQ 12 a.vU a.pT ["calls"] (KO K a):=by
 refine T.Ca.ok sX ?_ ?_
 ·rintro _ _ _ _ ⟨_,_,rfl,_⟩
  rfl
 ·rintro cdv A outer s H _ Q E hr ⟨cl,ns,rfl,hS,hask,k⟩
  refine ⟨_,(ah (aN (i:=1) sX.nd rfl (Or.inl rfl) (rE T.E1 (EF (K:=K) T) hr.lo rfl T.nR T.vd .nil aE (aa (pv 0) aj)))
   (ah (aN (i:=2) sX.nd rfl (Or.inl rfl) (Fo T.HU (FY (K:=K) T) hr.lo rfl T.zt T.wW .nil aE))
   (ah (aN (i:=3) sX.nd rfl (Or.inl rfl) (aS aj))
   (ah (Fb PassesOwn.never (ia (bG (b0 (pv 1) T.dG T.pz (Br (K:=K) T) hr.lo T.pB .nil aE))) (ah (aN (i:=4) sX.nd rfl (Or.inl rfl) (bC (FH T Dc) hr.lo rfl T.vw T.pX.kp T.uL .nil aE (aa (pv 2) (aa (pv 1) aj))))
   (ah (bQ (zR (K:=K) WT PySem.F.slot_list_append PySem.F.type_list_append BU (pv 3) (aa (aT (a6 (K:=K)) (by rfl) T.dM Vd (aa (pv 4) aj)) aj)))
   (ao (bQ (zR (K:=K) WT PySem.F.slot_list_extend PySem.F.type_list_extend CB (pv 3) (aa (pv 4) aj)))))))
   (ao (aB (pv 3))))))),?_⟩
  have hz:=sizeLine_eq
  obtain ⟨cs0,hcs,hcl,hin,hans,hlen⟩:=IT hask
  refine xE rfl (λrd rdd nrd nrdd nerd=>⟨rd,rdd,cl,rfl,ae,λH1 k1 R1'=>⟨rfl,?_⟩⟩)
  have s1:ax H H1:=ax.made nrd nrdd λb o e n=>k1 b o e λm=>n (UX.mp m)
  have R1:z5 a K H1 rd cl 0 ns:=⟨R1',hS.keep λo u e=>s1 _ _ e⟩
  refine λbe bd nbe nbd nebd=>⟨be,bd,rfl,ae,λH2 ln wd L k2 B2'=>⟨rfl,?_⟩⟩
  have s2:ax H1 H2:=ax.made nbe nbd λb o e n=>k2 b o e λm=>n (UX.mp m)
  have B2:=B2' [] λx hx=>(by cases hx)
  refine ⟨Uy,λgv hgv=>?_⟩
  have s3:=ax.laid (o:=.lst []) hgv
  have B3:=B2.same s3
  have B4:bh a [gv] (upd H2 gv (.lst [])) be ln wd L Vbapaj.empty:=⟨B3.ins,B3.line,λA e=>(by cases e),λA r e=>(by cases e),λA r e=>(by cases e),λx hx=>by rw [UX.mp hx];exact ⟨[],ae⟩⟩
  have R4:=(R1.same s2).same s3
  refine JU (λσ H'=>(∃ v,σ=[some (.ref cl),some (.ref rd),some (.ref be),some (.ref gv),v])/\Loop a K H' be rd cl gv ns) (λσ H'=>ns.length - placeOf rd H') ⟨⟨none,rfl⟩,⟨ln,wd,L,Vbapaj.empty,0,0,ns.length,[],cs0,B4,o5.empty,R4,Vt _,hcs,by lia,hin,ae,hans⟩⟩ ?_ ?_
  ·rintro σ H5 ⟨⟨v,rfl⟩,⟨ln5,wd5,L5,h,N,pl,f,acc,cs,B5,oH,R5,hpl,hcs5,hN,hin5,hg5,ha5⟩⟩
   obtain ⟨d5,q5⟩:=R5.is
   refine vM rfl q5 rfl ⟨rd,cl,pl,ns,rfl,R5.is,R5.fz.sq,xE rfl ?_⟩
   by_cases hd:ns.length<=pl
   ·rw [decide_eq_true hd]
    refine bp (xE rfl (k H5 gv ?_))
    have e0:ns.drop pl=[]:=Xk hd
    rw [e0] at hcs5
    have:cs=[]:=by
     cases f<;>(unfold WZ at hcs5;cases hcs5;rfl)
    rw [this] at ha5
    have e1:AZ h []=[]:=rfl
    rw [e1,Wx] at ha5
    rw [ha5]
    exact hg5
   ·rw [decide_eq_false hd]
    have hne:ns.drop pl≠[]:=λz=>hd (by have:=congrArg List.length z;rw [W4] at this;simp at this;lia)
    obtain ⟨i,xs,rs,sh,c,t,f',cs',e1,e2,e3,e4,e5,e6,e7,e8⟩:=Kl hcs5 hne
    subst e6
    have hN1:N+1+cs'.length<=400:=by rw [Vj] at hN;lia
    have hin2:PyInside.call PyVbapaj.bound (((i:Int)::xs)::rs)=true/\PyInside.calls PyVbapaj.bound cs'=true:=by
     unfold PyInside.calls at hin5 ⊢
     rw [W5,U6] at hin5
     exact hin5
    rw [Jy e7,<- W9] at ha5
    have hl6:acc.length+1+(uM (U0 h c).2).length<=10000000:=by
     rw [ha5,VD,VD,Vj] at hlen
     lia
    refine bf (x2 rfl rfl ⟨[gv],be,ln5,wd5,rd,cl,L5,h,N,pl,ns,xs,t,rs,i,sh,c,rfl,B5,oH,by lia,R5,hpl,e1,e2,e3,e4,e5,Ko (c:=[]) e5 hin2.1,λH6 ln6 wd6 L6 cc pl6 B6 R6 hpl6 hlt hdr hbad hcc hcv=>?_⟩)
    have hg6:H6 gv=some (.lst (acc.map V.int)):=hbad gv (UX.mpr rfl) _ hg5
    have ncg:cc≠gv:=λz=>hcc (by rw [z];exact UX.mpr rfl)
    refine xE rfl ⟨.inl ⟨rfl,_,bc.of hg6⟩,xE rfl ⟨cc,xE rfl ⟨.inl (bc.of hcv),gv,_,xE rfl ⟨rfl,hg6,by rw [UT];lia,?_⟩⟩⟩⟩
    have g7:∀ o,upd H6 gv o cc=some (.lst ((uM (U0 h c).2).map V.int)):=λo=>by rw [ak ncg];exact hcv
    refine xE rfl ⟨.inl ⟨rfl,_,bc.of ae⟩,xE rfl ⟨gv,cc,_,xE rfl ⟨rfl,ae,g7 _,?_,?_⟩⟩⟩
    ·rw [VD,UT,UT]
     show acc.length+1+_<=_
     lia
    have B7:=(B6.given (g:=gv) (ys:=acc.map V.int++[.int (((uM (U0 h c).2).map V.int).length:Int)]) (UX.mpr rfl)).given (g:=gv) (ys:=(acc.map V.int++[.int (((uM (U0 h c).2).map V.int).length:Int)])++(uM (U0 h c).2).map V.int) (UX.mpr rfl)
    obtain ⟨d6,q6⟩:=R6.is
    have ng:rd≠gv:=aV q6 hg6 (by intro z;cases z)
    have R7:∀ o1 o2,z5 a K (upd (upd H6 gv o1) gv o2) rd cl pl6 ns:=λo1 o2=>⟨⟨d6,by rw [ak ng,ak ng];exact q6⟩,R6.fz.keep λob u e=>by
     have nc:cl≠gv:=aV e hg6 (by intro z;cases z)
     rw [ak nc,ak nc];exact e⟩
    refine ⟨⟨⟨_,rfl⟩,⟨ln6,wd6,L6,(U0 h c).1,N+1,pl6,f',acc++(((uM (U0 h c).2).length:Int)::uM (U0 h c).2),cs',B7,NW oH c,R7 _ _,hpl6,by rw [hdr];exact e8,hN1,hin2.2,?_,ha5⟩⟩,?_⟩
    ·rw [ae,Vk,UT,W9]
     rfl
    ·rw [Ef (R7 _ _).is,Ef R5.is]
     lia
  ·rintro σ H5 Q1 Q2 hq ⟨v,e1,a1,dx1,fs,e2,h1,l1,rd',cl',pl',ns',e3,r1,s9,c1,e4,q⟩
   exact ⟨v,e1,a1,dx1,fs,e2,h1,l1,rd',cl',pl',ns',e3,r1,s9,c1,e4,hq _ _ q⟩
end
theorem cq {K:UR} {h:Heap} {mg:Str->Option Value} (X:K.In h) (G:h.Ns mainGlobals mg) (x:Str) (st:Stmt) (ps:List Str) (hb:∀ (kV doc pm:Value) (an:Option Addr) (cdv ct:Value) (us:List Value),us.length=ps.length->bindArgs (Wa x x (qb st) (oo st) (aq st) .none kV doc pm an cdv ct) ⟨us,[]⟩=pure (ps.zip us)) {f:Addr} {od an:Option Addr} {sl:Array (Option Value)} {oc kV dc pm cd ct:Value} (e:Vg K mainGlobals x=some (some (.ref f)):=by k_is) (l:K.lookup f=some ⟨oc,od,.func (Wa x x (qb st) (oo st) (aq st) .none kV dc pm an cd ct),sl⟩:=by k_is) (c:W3 K cd x=true:=by k_is) (k:Wd K (.ref f)=true:=by k_is):∃ (f:Addr) (fd:FuncData),mg x=some (.ref f)/\eM K x x st f fd/\Binds K fd ps []/\∀ (s:Shared) (us:List Value),us.length=ps.length->BindsTo s fd ⟨us,[]⟩ (ps.zip us):=by
 have F:=Kc (st:=st) l c k
 exact ⟨f,_,U5 X G e,F,F.binds hb,λs us hu=>.of_eq (hb _ _ _ _ _ _ us hu)⟩
theorem Hq {K:UR} {h:Heap} {mg:Str->Option Value} (X:K.In h) (G:h.Ns mainGlobals mg) (n:Str) {C:Addr} (e:Vg K mainGlobals n=some (some (.ref C)):=by k_is) (pg:Xe K C Str.empty=true:=by k_is) (hd:PySem.W.hasDictIn K C=true:=by k_is) (po:PySem.W.plainOver K C=true:=by k_is) (sa:VX K (.ref C) "__setattr__"=some (some (.builtin "object.__setattr__")):=by k_is):∃ C,mg n=some (.ref C)/\zr K C:=⟨C,U5 X G e,⟨pg,hd,po,sa⟩⟩
theorem jm {K:UR} {h:Heap} {mg:Str->Option Value} (X:K.In h) (G:h.Ns mainGlobals mg) {n t:Str} {D:Addr} (q:mg n=some (.ref D)) {C:Addr} (e:Vg K mainGlobals n=some (some (.ref C)):=by k_is) (na:VX K (.ref C) t=some none:=by k_is):aU K D t:=by
 cases q.symm.trans (U5 X G e)
 exact na
theorem ie {K:UR} {h:Heap} {mg:Str->Option Value} (X:K.In h) (G:h.Ns mainGlobals mg) {n:Str} {D:Addr} (q:mg n=some (.ref D)) (m qn:Str) (st:Stmt) (ps:List Str) (hb:∀ (kV doc pm:Value) (an:Option Addr) (cdv ct:Value) (us:List Value),us.length=ps.length->bindArgs (Wa m qn (qb st) (oo st) (aq st) .none kV doc pm an cdv ct) ⟨us,[]⟩=pure (ps.zip us)) {C:Addr} {f:Addr} {od an:Option Addr} {sl:Array (Option Value)} {oc kV dc pm cd ct:Value} (e:Vg K mainGlobals n=some (some (.ref C)):=by k_is) (a:VX K (.ref C) m=some (some (.ref f)):=by k_is) (i:PySem.W.isFn K (.ref f)=true:=by k_is) (l:K.lookup f=some ⟨oc,od,.func (Wa m qn (qb st) (oo st) (aq st) .none kV dc pm an cd ct),sl⟩:=by k_is) (c:W3 K cd qn=true:=by k_is) (k:Wd K (.ref f)=true:=by k_is):∃ (f:Addr) (fd:FuncData),Meth K D m f/\eM K m qn st f fd/\Binds K fd ps []:=by
 cases q.symm.trans (U5 X G e)
 have F:=Kc (st:=st) l c k
 exact ⟨f,_,⟨a,i,k⟩,F,F.binds hb⟩
theorem Ha {K:UR} {h:Heap} {mg:Str->Option Value} (X:K.In h) (G:h.Ns mainGlobals mg) {n:Str} {D:Addr} (q:mg n=some (.ref D)) (qn:Str) (st:Stmt) (ps:List Str) (hb:∀ (kV doc pm:Value) (an:Option Addr) (cdv ct:Value) (us:List Value),us.length=ps.length->bindArgs (Wa "__init__" qn (qb st) (oo st) (aq st) .none kV doc pm an cdv ct) ⟨us,[]⟩=pure (ps.zip us)) {C:Addr} {f:Addr} {od an:Option Addr} {sl:Array (Option Value)} {oc kV dc pm cd ct:Value} (e:Vg K mainGlobals n=some (some (.ref C)):=by k_is) (a:VX K (.ref C) "__init__"=some (some (.ref f)):=by k_is) (i:PySem.W.isFn K (.ref f)=true:=by k_is) (l:K.lookup f=some ⟨oc,od,.func (Wa "__init__" qn (qb st) (oo st) (aq st) .none kV dc pm an cd ct),sl⟩:=by k_is) (c:W3 K cd qn=true:=by k_is) (k:Wd K (.ref f)=true:=by k_is) (mk:PySem.W.makesIn K C=true:=by k_is) (kc:Wd K (.ref C)=true:=by k_is):∃ (f:Addr) (fd:FuncData),Mk K D f/\eM K "__init__" qn st f fd/\Binds K fd ps []:=by
 cases q.symm.trans (U5 X G e)
 have F:=Kc (st:=st) l c k
 exact ⟨f,_,⟨mk,a,i,kc⟩,F,F.binds hb⟩
def Jv:List DictEntry->Option (List (Int × Value))
 | []=>some []
 | e::r=>match e.key with
  | .int k _=>if e.hash=hashInt k then (Jv r).map λl=>(k,e.val)::l else none
  | _=>none
def NN (l:List (Int × Value)):List (Key × Value):=l.map λp=>(Sum.inl p.1,p.2)
theorem Qm {P:Program} {w:World}:∀ {es:List DictEntry} {l:List (Int × Value)},Jv es=some l->(∀ e∈es,∃ k,(aY P w).is k e.key=true/\e.hash=(aY P w).hash k)/\Pairs (aY P w) es (NN l)
 | [],l,h=>by
  cases h
  exact ⟨λe he=>(by cases he),.nil⟩
 | e::r,l,h=>by
  unfold Jv at h
  split at h
  ·rename_i k t hk
   split at h
   ·rename_i hh
    cases q:Jv r with
    | none=>rw [q] at h;cases h
    | some l' =>
     rw [q] at h
     cases h
     obtain ⟨h1,h2⟩:=Qm (P:=P) (w:=w) q
     have hi:(aY P w).is (Sum.inl k) e.key=true:=by rw [hk];exact CU P w k t
     refine ⟨λe' he=>?_,.cons hi rfl h2⟩
     rcases U4.mp he with rfl | he
     ·exact ⟨Sum.inl k,hi,hh⟩
     ·exact h1 e' he
   ·cases h
  ·cases h
theorem Kj {P:Program} {w:World} {K:UR} {p:Addr} {es:Array DictEntry} {ep:Nat} {l:List (Int × Value)} (lk:K.lookup p=some ⟨.type "dict",none,.dict es ep,#[]⟩) (hl:Jv es.toList=some l) (hn:((NN l).map (·.1)).Nodup):∀ h:Heap,K.In h->h.DictOf (aY P w) p (NN l):=λh X=>by
 obtain ⟨h1,h2⟩:=Qm (P:=P) (w:=w) hl
 exact ⟨_,es,ep,X _ _ lk,⟨rfl,rfl,rfl⟩,rfl,λe he=>h1 e (Array.mem_toList_iff.mpr he),h2,hn⟩
def Fx:List Value->Option (List Nat)
 | []=>some []
 | .int (.ofNat n) _::r=>(Fx r).map λl=>n::l
 | _=>none
theorem Gi:∀ {vs:List Value} {l:List Nat},Fx vs=some l->Vals (l9 l) vs
 | [],l,h=>by
  cases h
  exact .nil
 | .int (.ofNat n) t::r,l,h=>by
  unfold Fx at h
  cases q:Fx r with
  | none=>rw [q] at h;cases h
  | some l' =>
   rw [q] at h
   cases h
   exact .cons ⟨t,rfl⟩ (Gi q)
theorem OH {K:UR} {p:Addr} {od:Option Addr} {sl:Array (Option Value)} {its:Array Value} {n:Nat} {l:List Nat} (lk:K.lookup p=some ⟨.type "tuple",od,.seq its n,sl⟩) (hl:Fx its.toList=some l) (hz:its.size<=sizeLine):∀ H,gg K H p (l9 l):=λH=>.inr ⟨_,its,n,lk,rfl,rfl,hz,Gi hl⟩
theorem NT {P:Program} {w:World} {K:UR} {h:Heap} {mg:Str->Option Value} (X:K.In h) (G:h.Ns mainGlobals mg) {p f0 f1 f2 f3 f4 f5 f6 f7 f8 f9 f10 f11:Addr} {es:Array DictEntry} {ep:Nat} (e:Vg K mainGlobals "CALLS"=some (some (.ref p)):=by k_is) (lk:K.lookup p=some ⟨.type "dict",none,.dict es ep,#[]⟩:=by k_is) (hl:Jv es.toList=some [(0,.ref f0),(1,.ref f1),(2,.ref f2),(3,.ref f3),(4,.ref f4),(5,.ref f5),(6,.ref f6),(7,.ref f7),(8,.ref f8),(9,.ref f9),(10,.ref f10),(11,.ref f11)]:=by rfl) (n0:Vg K mainGlobals "call_clear"=some (some (.ref f0)):=by k_is) (n1:Vg K mainGlobals "call_new"=some (some (.ref f1)):=by k_is) (n2:Vg K mainGlobals "call_lie"=some (some (.ref f2)):=by k_is) (n3:Vg K mainGlobals "call_mute"=some (some (.ref f3)):=by k_is) (n4:Vg K mainGlobals "call_honest"=some (some (.ref f4)):=by k_is) (n5:Vg K mainGlobals "call_pair"=some (some (.ref f5)):=by k_is) (n6:Vg K mainGlobals "call_say"=some (some (.ref f6)):=by k_is) (n7:Vg K mainGlobals "call_deliver"=some (some (.ref f7)):=by k_is) (n8:Vg K mainGlobals "call_lose"=some (some (.ref f8)):=by k_is) (n9:Vg K mainGlobals "call_double"=some (some (.ref f9)):=by k_is) (n10:Vg K mainGlobals "call_hush"=some (some (.ref f10)):=by k_is) (n11:Vg K mainGlobals "call_close"=some (some (.ref f11)):=by k_is):∃ p,mg "CALLS"=some (.ref p)/\∀ g0 g1 g2 g3 g4 g5 g6 g7 g8 g9 g10 g11:Addr,mg "call_clear"=some (.ref g0)->mg "call_new"=some (.ref g1)->mg "call_lie"=some (.ref g2)->mg "call_mute"=some (.ref g3)->mg "call_honest"=some (.ref g4)->mg "call_pair"=some (.ref g5)->mg "call_say"=some (.ref g6)->mg "call_deliver"=some (.ref g7)->mg "call_lose"=some (.ref g8)->mg "call_double"=some (.ref g9)->mg "call_hush"=some (.ref g10)->mg "call_close"=some (.ref g11)->∀ h:Heap,K.In h->h.DictOf (aY P w) p [(Sum.inl 0,.ref g0),(Sum.inl 1,.ref g1),(Sum.inl 2,.ref g2),(Sum.inl 3,.ref g3),(Sum.inl 4,.ref g4),(Sum.inl 5,.ref g5),(Sum.inl 6,.ref g6),(Sum.inl 7,.ref g7),(Sum.inl 8,.ref g8),(Sum.inl 9,.ref g9),(Sum.inl 10,.ref g10),(Sum.inl 11,.ref g11)]:=by
 refine ⟨p,U5 X G e,λg0 g1 g2 g3 g4 g5 g6 g7 g8 g9 g10 g11 h0 h1 h2 h3 h4 h5 h6 h7 h8 h9 h10 h11=>?_⟩
 cases h0.symm.trans (U5 X G n0)
 cases h1.symm.trans (U5 X G n1)
 cases h2.symm.trans (U5 X G n2)
 cases h3.symm.trans (U5 X G n3)
 cases h4.symm.trans (U5 X G n4)
 cases h5.symm.trans (U5 X G n5)
 cases h6.symm.trans (U5 X G n6)
 cases h7.symm.trans (U5 X G n7)
 cases h8.symm.trans (U5 X G n8)
 cases h9.symm.trans (U5 X G n9)
 cases h10.symm.trans (U5 X G n10)
 cases h11.symm.trans (U5 X G n11)
 exact Kj lk hl (show (([0,1,2,3,4,5,6,7,8,9,10,11]:List Int).map λk=>(Sum.inl k:Key)).Nodup by decide)
theorem Pg {P:Program} {w:World} {K:UR} {h:Heap} {mg:Str->Option Value} (X:K.In h) (G:h.Ns mainGlobals mg) {p f12 f13 f14 f15 f16 f17 f18 f19 f20 f21 f22:Addr} {es:Array DictEntry} {ep:Nat} (e:Vg K mainGlobals "READING_CALLS"=some (some (.ref p)):=by k_is) (lk:K.lookup p=some ⟨.type "dict",none,.dict es ep,#[]⟩:=by k_is) (hl:Jv es.toList=some [(12,.ref f12),(13,.ref f13),(14,.ref f14),(15,.ref f15),(16,.ref f16),(17,.ref f17),(18,.ref f18),(19,.ref f19),(20,.ref f20),(21,.ref f21),(22,.ref f22)]:=by rfl) (n12:Vg K mainGlobals "call_line"=some (some (.ref f12)):=by k_is) (n13:Vg K mainGlobals "call_word"=some (some (.ref f13)):=by k_is) (n14:Vg K mainGlobals "call_dispute"=some (some (.ref f14)):=by k_is) (n15:Vg K mainGlobals "call_agreed"=some (some (.ref f15)):=by k_is) (n16:Vg K mainGlobals "call_truth"=some (some (.ref f16)):=by k_is) (n17:Vg K mainGlobals "call_heard"=some (some (.ref f17)):=by k_is) (n18:Vg K mainGlobals "call_says"=some (some (.ref f18)):=by k_is) (n19:Vg K mainGlobals "call_host"=some (some (.ref f19)):=by k_is) (n20:Vg K mainGlobals "call_affair"=some (some (.ref f20)):=by k_is) (n21:Vg K mainGlobals "call_counts"=some (some (.ref f21)):=by k_is) (n22:Vg K mainGlobals "call_work"=some (some (.ref f22)):=by k_is):∃ p,mg "READING_CALLS"=some (.ref p)/\∀ g12 g13 g14 g15 g16 g17 g18 g19 g20 g21 g22:Addr,mg "call_line"=some (.ref g12)->mg "call_word"=some (.ref g13)->mg "call_dispute"=some (.ref g14)->mg "call_agreed"=some (.ref g15)->mg "call_truth"=some (.ref g16)->mg "call_heard"=some (.ref g17)->mg "call_says"=some (.ref g18)->mg "call_host"=some (.ref g19)->mg "call_affair"=some (.ref g20)->mg "call_counts"=some (.ref g21)->mg "call_work"=some (.ref g22)->∀ h:Heap,K.In h->h.DictOf (aY P w) p [(Sum.inl 12,.ref g12),(Sum.inl 13,.ref g13),(Sum.inl 14,.ref g14),(Sum.inl 15,.ref g15),(Sum.inl 16,.ref g16),(Sum.inl 17,.ref g17),(Sum.inl 18,.ref g18),(Sum.inl 19,.ref g19),(Sum.inl 20,.ref g20),(Sum.inl 21,.ref g21),(Sum.inl 22,.ref g22)]:=by
 refine ⟨p,U5 X G e,λg12 g13 g14 g15 g16 g17 g18 g19 g20 g21 g22 h12 h13 h14 h15 h16 h17 h18 h19 h20 h21 h22=>?_⟩
 cases h12.symm.trans (U5 X G n12)
 cases h13.symm.trans (U5 X G n13)
 cases h14.symm.trans (U5 X G n14)
 cases h15.symm.trans (U5 X G n15)
 cases h16.symm.trans (U5 X G n16)
 cases h17.symm.trans (U5 X G n17)
 cases h18.symm.trans (U5 X G n18)
 cases h19.symm.trans (U5 X G n19)
 cases h20.symm.trans (U5 X G n20)
 cases h21.symm.trans (U5 X G n21)
 cases h22.symm.trans (U5 X G n22)
 exact Kj lk hl (show (([12,13,14,15,16,17,18,19,20,21,22]:List Int).map λk=>(Sum.inl k:Key)).Nodup by decide)
structure DX (K:UR) (p:Addr) (m n:Nat):Prop where
 sq:∀ H,gg K H p (l9 [m,n])
theorem fB {K:UR} {p:Addr} {m n:Nat} {od:Option Addr} {sl:Array (Option Value)} {its:Array Value} {c:Nat} (lk:K.lookup p=some ⟨.type "tuple",od,.seq its c,sl⟩:=by k_is) (hl:Fx its.toList=some [m,n]:=by rfl) (hz:its.size<=sizeLine:=by decide):DX K p m n:=⟨OH lk hl hz⟩
theorem MD {P:Program} {w:World} {K:UR} {h:Heap} {mg:Str->Option Value} (X:K.In h) (G:h.Ns mainGlobals mg) {p s0 s1 s2 s3 s4 s5 s6 s7 s8 s9 s10 s11 s12 s13 s14 s15 s16 s17 s18 s19 s20 s21 s22:Addr} {es:Array DictEntry} {ep:Nat} (e:Vg K mainGlobals "SHAPES"=some (some (.ref p)):=by k_is) (lk:K.lookup p=some ⟨.type "dict",none,.dict es ep,#[]⟩:=by k_is) (hl:Jv es.toList=some [(0,.ref s0),(1,.ref s1),(2,.ref s2),(3,.ref s3),(4,.ref s4),(5,.ref s5),(6,.ref s6),(7,.ref s7),(8,.ref s8),(9,.ref s9),(10,.ref s10),(11,.ref s11),(12,.ref s12),(13,.ref s13),(14,.ref s14),(15,.ref s15),(16,.ref s16),(17,.ref s17),(18,.ref s18),(19,.ref s19),(20,.ref s20),(21,.ref s21),(22,.ref s22)]:=by rfl) (t0:DX K s0 0 0) (t1:DX K s1 4 2) (t2:DX K s2 2 1) (t3:DX K s3 2 0) (t4:DX K s4 2 0) (t5:DX K s5 2 0) (t6:DX K s6 2 0) (t7:DX K s7 1 0) (t8:DX K s8 1 0) (t9:DX K s9 1 0) (t10:DX K s10 2 0) (t11:DX K s11 0 0) (t12:DX K s12 0 0) (t13:DX K s13 1 0) (t14:DX K s14 1 0) (t15:DX K s15 1 0) (t16:DX K s16 1 0) (t17:DX K s17 2 0) (t18:DX K s18 2 0) (t19:DX K s19 1 0) (t20:DX K s20 0 0) (t21:DX K s21 0 0) (t22:DX K s22 0 1):∃ p,mg "SHAPES"=some (.ref p)/\∃ sp:Nat->Addr,(∀ h:Heap,K.In h->h.DictOf (aY P w) p ((List.range 23).map λ(i:Nat)=>((Sum.inl (i:Int):Key),Value.ref (sp i))))/\∀ (i:Nat) (s:Nat × Nat),Ag[i]?=some s->∀ H,gg K H (sp i) [.int (s.1:Int),.int (s.2:Int)]:=by
 refine ⟨p,U5 X G e,λi=>[s0,s1,s2,s3,s4,s5,s6,s7,s8,s9,s10,s11,s12,s13,s14,s15,s16,s17,s18,s19,s20,s21,s22].getD i 0,Kj lk hl (show (([0,1,2,3,4,5,6,7,8,9,10,11,12,13,14,15,16,17,18,19,20,21,22]:List Int).map λk=>(Sum.inl k:Key)).Nodup by decide),λi s hs H=>?_⟩
 match i,hs with
 | 0,hs=>cases hs;exact t0.sq H
 | 1,hs=>cases hs;exact t1.sq H
 | 2,hs=>cases hs;exact t2.sq H
 | 3,hs=>cases hs;exact t3.sq H
 | 4,hs=>cases hs;exact t4.sq H
 | 5,hs=>cases hs;exact t5.sq H
 | 6,hs=>cases hs;exact t6.sq H
 | 7,hs=>cases hs;exact t7.sq H
 | 8,hs=>cases hs;exact t8.sq H
 | 9,hs=>cases hs;exact t9.sq H
 | 10,hs=>cases hs;exact t10.sq H
 | 11,hs=>cases hs;exact t11.sq H
 | 12,hs=>cases hs;exact t12.sq H
 | 13,hs=>cases hs;exact t13.sq H
 | 14,hs=>cases hs;exact t14.sq H
 | 15,hs=>cases hs;exact t15.sq H
 | 16,hs=>cases hs;exact t16.sq H
 | 17,hs=>cases hs;exact t17.sq H
 | 18,hs=>cases hs;exact t18.sq H
 | 19,hs=>cases hs;exact t19.sq H
 | 20,hs=>cases hs;exact t20.sq H
 | 21,hs=>cases hs;exact t21.sq H
 | 22,hs=>cases hs;exact t22.sq H
 | n+23,hs=>exact absurd hs (by simp [Ag])
theorem P9 {K:UR} {h:Heap} {mg:Str->Option Value} (X:K.In h) (G:h.Ns mainGlobals mg) {p:Addr} {od:Option Addr} {sl:Array (Option Value)} {its:Array Value} {n:Nat} (e:Vg K mainGlobals "CALLS_WITHOUT_AFFAIR"=some (some (.ref p)):=by k_is) (lk:K.lookup p=some ⟨.type "tuple",od,.seq its n,sl⟩:=by k_is) (hl:Fx its.toList=some [0,1,9,12,13,21]:=by rfl) (hz:its.size<=sizeLine:=by decide):∃ p,mg "CALLS_WITHOUT_AFFAIR"=some (.ref p)/\∀ H,gg K H p (l9 free):=⟨p,U5 X G e,OH lk hl hz⟩
theorem QS {P:Program} {w:World} {K:UR} {mg:Str->Option Value} {base:Heap} {a:bF} (T:Txt K mg a) (d1:∀ h:Heap,K.In h->h.DictOf (aY P w) a.rP (FI a)) (d2:∀ h:Heap,K.In h->h.DictOf (aY P w) a.dz (Ht a)) (d3:∃ sp:Nat->Addr,(∀ h:Heap,K.In h->h.DictOf (aY P w) a.qp ((List.range 23).map λ(i:Nat)=>((Sum.inl (i:Int):Key),Value.ref (sp i))))/\∀ (i:Nat) (s:Nat × Nat),Ag[i]?=some s->∀ H,gg K H (sp i) [.int (s.1:Int),.int (s.2:Int)]) (d4:∀ H,gg K H a.bL (l9 free)):a7 P w K mg base eQ 12 a.vU a.pT ["calls"] (Nz K):=Kv T ⟨d1,d2,d3,d4⟩
end HR
end
namespace PySem.W.Fast
def tw17625580714025617316:=0
def tw17689779827542863842:=0
def tw5846054279029088535:=0
def tw5511615276122750105:=0
def tw10990254501794124263:=0
def tw10192152797562364043:=0
def tw14260049643167323026:=0
def tw4371355752131965252:=0
def tw9990317208748146055:=0
def tw2573083256249853397:=0
def tw10321137515476634533:=0
def tw15181199790653279434:=0
def tw4370253381401276674:=0
def tw4338402580932661270:=0
def tw2841628853583817619:=0
def tw6904669046261858080:=0
def tw7830004126049728786:=0
def tw10394656862387615842:=0
def tw1737112243383330744:=0
def tw16517885753042488922:=0
def tw12835608566264407379:=0
def tw18296937403758782549:=0
def tw3681576043740390139:=0
def tw1756118420932175617:=0
def tw2670032697913299383:=0
def tw5227169876688652438:=0
def tw3003233611271881425:=0
def tw9980371111982604715:=0
def tw4706236411681966133:=0
def tw7655914705841482471:=0
def tw5745204502770634154:=0
def tw16189480338292271150:=0
def tw3112441244340864916:=0
def tw10456908175327730170:=0
def tw16584592938310560369:=0
def tw9957620931787272699:=0
def tw3566063088840448879:=0
def tw770951802280937746:=0
def tw15931564454136720642:=0
def tw13316579793743226322:=0
def tw8770423427396905242:=0
def tw13386255684223804825:=0
def tw3316521804235607850:=0
def tw14369204850107303387:=0
def tw7102893632140573886:=0
def tw15240595340338832244:=0
def tw2451305286098046005:=0
def tw9282488591081521260:=0
def tw1405141989137450135:=0
def tw154819102176393041:=0
def tw8862174873498513704:=0
def tw6083981479133908679:=0
def tw17761556670142592004:=0
def tw17710073211645582122:=0
def tw13035506532125091014:=0
def tw11099378983463086691:=0
def tw17709785419711667194:=0
def tw13241604688617837666:=0
def tw3478561111015652298:=0
def tw13504925036555754498:=0
def tw6025758042623904073:=0
def tw6726095288768093191:=0
def tw17581264021442295493:=0
def tw16422485362993798813:=0
def tw10765100525780963732:=0
def tw12610675705747226704:=0
def tw3162869280217638483:=0
def tw3028548254651700611:=0
def tw2240600413368786727:=0
def tw10862582090149395573:=0
def tw5503121789369682651:=0
def tw528679693741302558:=0
def tw13207340875433631347:=0
def tw1153990339523234300:=0
def tw14291518595631370078:=0
def tw13646196742268247915:=0
def tw4142558767900277255:=0
def tw15755627691618689193:=0
def tw5272492580554517986:=0
def tw7904535693507729243:=0
def tw355497250015854714:=0
def tw8354083670632478443:=0
def tw17152841528198845316:=0
def tw7160798230237320494:=0
def tw5156865029783907561:=0
def tw11088903469107150265:=0
def tw1948343887574248813:=0
def tw11909515903700296097:=0
def tw7665497202175462742:=0
def tw8105504027497880776:=0
def tw14691274826377286669:=0
def tw7715238421876220522:=0
def tw2701674278237711651:=0
def tw15454355645449586313:=0
def tw7120267062682160353:=0
def tw736439570215185850:=0
def tw4393403752245397339:=0
def tw673249865894181990:=0
def tw10657033847807386086:=0
def tw15159267970107151201:=0
def tw194843210531514699:=0
def tw2735405505539478732:=0
def tw8270374925103597200:=0
def tw11637900672615988200:=0
def tw8963638849157480732:=0
def tw6624094545769702908:=0
def tw8494622142683140009:=0
def tw8227233633940453644:=0
def tw3131228551897157488:=0
def tw1200233516431655931:=0
def tw9663712362942349545:=0
def tw12255629251077235041:=0
def tw13985693219375473806:=0
def tw14802829357633091160:=0
def tw12421426081720859614:=0
def tw17965088149786025150:=0
def tw1617144789629299037:=0
def tw5460825452223189109:=0
def tw13938226403294566374:=0
def tw5083429759680264661:=0
def tw15333929440813569916:=0
def tw18360788024978942488:=0
def tw16478082454067827127:=0
def tw5610802529647529315:=0
def tw3493874215884242117:=0
def tw8918220603800345164:=0
def tw15609378517005571593:=0
def tw771796565583184925:=0
def tw15240001882432646628:=0
def tw18438928611104481577:=0
def tw5585950872239740038:=0
def tw241388436604515506:=0
def tw1118715205673719416:=0
def tw15990339887932157762:=0
def tw16446937233993987915:=0
def tw9562325816398571039:=0
def tw10070549358163513886:=0
def tw16954286766790567289:=0
def tw17565760366539024879:=0
def tw6077849237231012378:=0
def UO:=0
def tw17407149308447177528:=0
def tw16699053117880191628:=0
def tw3823514231726697585:=0
def tw11044368439475659195:=0
def tw15786122099537928508:=0
def tw9983057179632070035:=0
def tw1265191413988141895:=0
def tw874832878927056218:=0
def tw60321933324652199:=0
def tw11569830559057037953:=0
def tw5440306950390995809:=0
def tw5411836131590292059:=0
def tw18137910702865003881:=0
def tw196041619333044222:=0
def tw5442476972691249636:=0
def tw7025244438092159333:=0
def tw11938890973158350493:=0
def tw15970544855669168254:=0
def tw18114261845687238414:=0
def tw12491100697314190995:=0
def tw14438726876136006207:=0
def tw8709159846571582236:=0
def tw2826294704138840746:=0
def tw17311995179883515810:=0
def tw13734456661322294806:=0
def tw10249115254876710414:=0
def tw17209941741722429317:=0
def tw17016677009068874122:=0
def tw17308619447539631771:=0
def tw16715456321776319853:=0
def tw5204046400095554128:=0
def tw1851582005197053708:=0
def tw5735159600254146667:=0
def tw17022036455179406348:=0
def tw17703359129085442574:=0
def tw1503570990970270937:=0
def tw7010076477887580407:=0
def tw1865956527873829724:=0
def tw10234355158327609662:=0
def tw2194260479546781878:=0
def tw3221057176844024816:=0
def tw11099239876752330863:=0
def tw3014163595890342405:=0
def tw12302502251166104056:=0
def tw6053712590109814879:=0
def tw13965242246184268113:=0
def tw14497148562778677983:=0
def tw17286842795936299323:=0
def tw13904745914742158332:=0
def tw14301026181549400850:=0
def tw3400845901001209724:=0
def tw3426748094256139459:=0
def tw9167096433808794025:=0
def tw10999329972366857757:=0
def tw5366342414526168699:=0
def tw15326677524854209607:=0
def tw14278788325002257267:=0
def tw863255262206510905:=0
def tw1138332099312329811:=0
def tw15700601329567735033:=0
def tw11266100131271202709:=0
def tw15731043488243237379:=0
def tw10125497481579209556:=0
def tw13915439744707004545:=0
def tw9433370915475796298:=0
def tw2211728794116863380:=0
def tw11493686838133857315:=0
def tw12698906027682082415:=0
def tw1015095127717583417:=0
def tw16815818418675925087:=0
def tw1779288182991303424:=0
def tw8374050165513815869:=0
def tw16358242718880278800:=0
def tw1343457014458355819:=0
def tw8536059669076005410:=0
def tw18404890068402932542:=0
def tw12693279062311362033:=0
def tw3331905820009992766:=0
def tw16767093257655671789:=0
def tw13459870141877751850:=0
def tw8472193299051846882:=0
def tw10249758488299565874:=0
def tw7299634000157487701:=0
def tw7347964883656955402:=0
def tw267648009672412213:=0
def tw4994353062909751984:=0
def tw8579244494426404515:=0
def tw13209467603838558776:=0
def tw12360417357924736936:=0
def tw13910946061649859592:=0
def tw1574014606998817983:=0
def tw1890456259310166550:=0
def tw5582279884776916975:=0
def tw6997321188161037675:=0
def tw12133416730721924919:=0
def tw8441224890913135934:=0
def tw8911367943391920387:=0
def tw9345922320402471425:=0
def tw9728170177414333175:=0
def tw6783858795885169440:=0
def tw2353802555755135215:=0
def tw16689080690745200368:=0
def tw16381190574635177797:=0
def tw1205633726850526709:=0
def tw7181845688824749128:=0
def tw17494611743226368671:=0
def tw8918329378357533107:=0
def tw12869517414162282245:=0
def tw2365774061131769832:=0
end PySem.W.Fast
open PySem PySem.W PyProof.Rows
set_option maxRecDepth 100000 in
set_option maxHeartbeats 0 in
theorem PySem.Challenge.cw_halvedruns_s01_answers_holds : PySem.Challenge.rw_halvedruns_s01_answers.Holds := by
  w_on; k_headS; (case hw => exact ⟨[.list [.int 0]], by decide +kernel, by decide +kernel⟩)
  k_fillS
  refine L2.KH (r := PySem.Challenge.rw_halvedruns_s01_answers) (k := 12) (CX := L2.eQ) (ps := ["calls"]) (sp := HR.Nz) (by decide +kernel) rfl rfl ⟨rfl, by decide, by decide⟩ (fun w h Y => PySem.W.kIn_of Y) ?F ?S (fun _ _ _ _ z => z)
  case F =>
    intro w mg fa h Y KX G hmg
    obtain ⟨eK, lN, eG⟩ := HR.Hq KX G "Opening"
    obtain ⟨kz, ku, CJ, sP, sW⟩ := HR.Ha KX G lN "Opening.__init__" HR.sY ["self", "turns", "n"] (fun _ _ _ _ _ _ us hl => match us, hl with | [_, _, _], _ => rfl)
    obtain ⟨gI, gw, oY, nQ, ou⟩ := HR.ie KX G lN "is_open" "Opening.is_open" HR.ox ["self"] (fun _ _ _ _ _ _ us hl => match us, hl with | [_], _ => rfl)
    obtain ⟨aR, b9, ay⟩ := HR.Hq KX G "Dispute"
    obtain ⟨kh, lq, Cw, tj, sj⟩ := HR.Ha KX G b9 "Dispute.__init__" HR.sx ["self", "first", "second", "beginning", "turns"] (fun _ _ _ _ _ _ us hl => match us, hl with | [_, _, _, _, _], _ => rfl)
    obtain ⟨gF, gA, eL, nM, ej⟩ := HR.ie KX G b9 "is_open" "Dispute.is_open" HR.oS ["self"] (fun _ _ _ _ _ _ us hl => match us, hl with | [_], _ => rfl)
    obtain ⟨bI, bH, b8, eh, b7⟩ := HR.ie KX G b9 "is_down_to_one_turn" "Dispute.is_down_to_one_turn" HR.ed ["self"] (fun _ _ _ _ _ _ us hl => match us, hl with | [_], _ => rfl)
    obtain ⟨jB, jI, mI, rb, mK⟩ := HR.ie KX G b9 "other" "Dispute.other" HR.qU ["self", "host"] (fun _ _ _ _ _ _ us hl => match us, hl with | [_, _], _ => rfl)
    obtain ⟨jC, jz, rf, qV, qZ⟩ := HR.ie KX G b9 "halve" "Dispute.halve" HR.qH ["self", "first_said", "second_said"] (fun _ _ _ _ _ _ us hl => match us, hl with | [_, _, _], _ => rfl)
    obtain ⟨cp, cg, ic, ig, ip⟩ := HR.ie KX G b9 "ask_for_middle" "Dispute.ask_for_middle" HR.gS ["self"] (fun _ _ _ _ _ _ us hl => match us, hl with | [_], _ => rfl)
    obtain ⟨gU, qL, bK⟩ := HR.Hq KX G "Host"
    obtain ⟨qA, qy, KP, yp, x6⟩ := HR.Ha KX G qL "Host.__init__" HR.yn ["self", "stake"] (fun _ _ _ _ _ _ us hl => match us, hl with | [_, _], _ => rfl)
    obtain ⟨qe, qo, xT, x5, yT⟩ := HR.ie KX G qL "tell" "Host.tell" HR.zd ["self", "turn", "state"] (fun _ _ _ _ _ _ us hl => match us, hl with | [_, _, _], _ => rfl)
    obtain ⟨iW, iT, pj, pq, pH⟩ := HR.ie KX G qL "take_back" "Host.take_back" HR.pP ["self", "turn"] (fun _ _ _ _ _ _ us hl => match us, hl with | [_, _], _ => rfl)
    obtain ⟨ee, dU, dY, kW, d9⟩ := HR.ie KX G qL "how_much_told" "Host.how_much_told" HR.gO ["self"] (fun _ _ _ _ _ _ us hl => match us, hl with | [_], _ => rfl)
    obtain ⟨qr, qi, uD, yf, uo⟩ := HR.ie KX G qL "says" "Host.says" HR.yX ["self", "turn", "run"] (fun _ _ _ _ _ _ us hl => match us, hl with | [_, _, _], _ => rfl)
    obtain ⟨aG, bb, au⟩ := HR.Hq KX G "Affair"
    obtain ⟨mD, mr, EU, u7, uH⟩ := HR.Ha KX G bb "Affair.__init__" HR.pW ["self", "run", "turns", "k", "n", "stake"] (fun _ _ _ _ _ _ us hl => match us, hl with | [_, _, _, _, _, _], _ => rfl)
    obtain ⟨gP, gq, di, nL, cV⟩ := HR.ie KX G bb "has_host" "Affair.has_host" HR.oV ["self", "number"] (fun _ _ _ _ _ _ us hl => match us, hl with | [_, _], _ => rfl)
    obtain ⟨gH, gG, j0, nY, j1⟩ := HR.ie KX G bb "has_turn" "Affair.has_turn" HR.oZ ["self", "turn"] (fun _ _ _ _ _ _ us hl => match us, hl with | [_, _], _ => rfl)
    obtain ⟨bU, bT, bq, fL, bx⟩ := HR.ie KX G bb "has_host_and_turn" "Affair.has_host_and_turn" HR.fJ ["self", "number", "turn"] (fun _ _ _ _ _ _ us hl => match us, hl with | [_, _, _], _ => rfl)
    obtain ⟨dX, ef, gx, kJ, gQ⟩ := HR.ie KX G bb "has_dispute" "Affair.has_dispute" HR.kC ["self", "number"] (fun _ _ _ _ _ _ us hl => match us, hl with | [_, _], _ => rfl)
    obtain ⟨gN, gJ, jX, oG, j9⟩ := HR.ie KX G bb "has_pair" "Affair.has_pair" HR.oJ ["self", "number"] (fun _ _ _ _ _ _ us hl => match us, hl with | [_, _], _ => rfl)
    obtain ⟨eV, eR, bB, l6, bD⟩ := HR.ie KX G bb "dispute_at" "Affair.dispute_at" HR.l8 ["self", "number"] (fun _ _ _ _ _ _ us hl => match us, hl with | [_, _], _ => rfl)
    obtain ⟨gM, gn, jY, nF, j4⟩ := HR.ie KX G bb "hosts_in" "Affair.hosts_in" HR.jZ ["self"] (fun _ _ _ _ _ _ us hl => match us, hl with | [_], _ => rfl)
    obtain ⟨jJ, jG, gc, qR, gf⟩ := HR.ie KX G bb "is_out" "Affair.is_out" HR.rk ["self", "number"] (fun _ _ _ _ _ _ us hl => match us, hl with | [_, _], _ => rfl)
    obtain ⟨mH, mm, dS, vm, dP⟩ := HR.ie KX G bb "said" "Affair.said" HR.uU ["self", "number", "turn"] (fun _ _ _ _ _ _ us hl => match us, hl with | [_, _, _], _ => rfl)
    obtain ⟨cJ, cI, iD, iO, iJ⟩ := HR.ie KX G bb "how_much_heard" "Affair.how_much_heard" HR.eI ["self"] (fun _ _ _ _ _ _ us hl => match us, hl with | [_], _ => rfl)
    obtain ⟨cW, dk, fg, jk, fc⟩ := HR.ie KX G bb "open_disputes" "Affair.open_disputes" HR.fh ["self"] (fun _ _ _ _ _ _ us hl => match us, hl with | [_], _ => rfl)
    obtain ⟨b4, bY, b3, fZ, bZ⟩ := HR.ie KX G bb "open_disputes_of" "Affair.open_disputes_of" HR.dB ["self", "number"] (fun _ _ _ _ _ _ us hl => match us, hl with | [_, _], _ => rfl)
    obtain ⟨cE, cK, iF, iL, i3⟩ := HR.ie KX G bb "are_in_dispute" "Affair.are_in_dispute" HR.eF ["self", "x", "y"] (fun _ _ _ _ _ _ us hl => match us, hl with | [_, _, _], _ => rfl)
    obtain ⟨cT, cR, jr, jc, ja⟩ := HR.ie KX G bb "begin_dispute" "Affair.begin_dispute" HR.jo ["self", "first", "second"] (fun _ _ _ _ _ _ us hl => match us, hl with | [_, _, _], _ => rfl)
    obtain ⟨mz, mf, va, vv, uI⟩ := HR.ie KX G bb "hear" "Affair.hear" HR.vk ["self", "number", "turn", "state"] (fun _ _ _ _ _ _ us hl => match us, hl with | [_, _, _, _], _ => rfl)
    obtain ⟨iV, iZ, lR, pS, lC⟩ := HR.ie KX G bb "look_at" "Affair.look_at" HR.pG ["self", "dispute"] (fun _ _ _ _ _ _ us hl => match us, hl with | [_, _], _ => rfl)
    obtain ⟨gz, gk, oW, oR, om⟩ := HR.ie KX G bb "work_out" "Affair.work_out" HR.j3 ["self", "dispute"] (fun _ _ _ _ _ _ us hl => match us, hl with | [_, _], _ => rfl)
    obtain ⟨cS, cZ, jv, jb, jq⟩ := HR.ie KX G bb "put_out_twice" "Affair.put_out_twice" HR.jn ["self", "number"] (fun _ _ _ _ _ _ us hl => match us, hl with | [_, _], _ => rfl)
    obtain ⟨cG, cF, iC, iH, i5⟩ := HR.ie KX G bb "put_out_silent" "Affair.put_out_silent" HR.iX ["self", "dispute_number", "number"] (fun _ _ _ _ _ _ us hl => match us, hl with | [_, _, _], _ => rfl)
    obtain ⟨eg, dW, gC, lu, gK⟩ := HR.ie KX G bb "end_against" "Affair.end_against" HR.k6 ["self", "dispute", "how", "number"] (fun _ _ _ _ _ _ us hl => match us, hl with | [_, _, _, _], _ => rfl)
    obtain ⟨iI, iR, dI, pk, dH⟩ := HR.ie KX G bb "put_out" "Affair.put_out" HR.pD ["self", "numbers", "winner"] (fun _ _ _ _ _ _ us hl => match us, hl with | [_, _, _], _ => rfl)
    obtain ⟨cM, cH, i8, iA, iK⟩ := HR.ie KX G bb "leave_disputes" "Affair.leave_disputes" HR.eE ["self"] (fun _ _ _ _ _ _ us hl => match us, hl with | [_], _ => rfl)
    obtain ⟨lp, vz, dA⟩ := HR.Hq KX G "Word"
    obtain ⟨qf, qG, EH, zi, qd⟩ := HR.Ha KX G vz "Word.__init__" HR.xS ["self", "dispute", "host", "turn", "state"] (fun _ _ _ _ _ _ us hl => match us, hl with | [_, _, _, _, _], _ => rfl)
    obtain ⟨cQ, oU, bJ⟩ := HR.Hq KX G "Line"
    obtain ⟨qt, qz, Ip, xN, ux⟩ := HR.Ha KX G oU "Line.__init__" HR.xP ["self"] (fun _ _ _ _ _ _ us hl => match us, hl with | [_], _ => rfl)
    obtain ⟨la, lb, og, sH, nD⟩ := HR.ie KX G oU "is_full" "Line.is_full" HR.sI ["self"] (fun _ _ _ _ _ _ us hl => match us, hl with | [_], _ => rfl)
    obtain ⟨sk, sO, sV, Am, rZ⟩ := HR.ie KX G oU "put" "Line.put" HR.AL ["self", "word"] (fun _ _ _ _ _ _ us hl => match us, hl with | [_, _], _ => rfl)
    obtain ⟨jA, jF, qW, rl, qT⟩ := HR.ie KX G oU "let_come" "Line.let_come" HR.qK ["self", "number"] (fun _ _ _ _ _ _ us hl => match us, hl with | [_, _], _ => rfl)
    obtain ⟨mj, mq, u6, uJ, ve⟩ := HR.ie KX G oU "let_go" "Line.let_go" HR.uE ["self", "number"] (fun _ _ _ _ _ _ us hl => match us, hl with | [_, _], _ => rfl)
    obtain ⟨dC, dD, jU, jV, jT⟩ := HR.ie KX G oU "has_word_about" "Line.has_word_about" HR.fX ["self", "dispute", "host", "turn"] (fun _ _ _ _ _ _ us hl => match us, hl with | [_, _, _, _], _ => rfl)
    obtain ⟨pb, Bt, m7⟩ := HR.Hq KX G "Run"
    obtain ⟨sA, sR, NL, AI, Ad⟩ := HR.Ha KX G Bt "Run.__init__" HR.z6 ["self", "program", "first"] (fun _ _ _ _ _ _ us hl => match us, hl with | [_, _, _], _ => rfl)
    obtain ⟨kg, kq, oj, sU, oE⟩ := HR.ie KX G Bt "is_state" "Run.is_state" HR.sy ["self", "row"] (fun _ _ _ _ _ _ us hl => match us, hl with | [_, _], _ => rfl)
    obtain ⟨fH, fT, fu, mS, fW⟩ := HR.ie KX G Bt "state_behind" "Run.state_behind" HR.mQ ["self", "state"] (fun _ _ _ _ _ _ us hl => match us, hl with | [_, _], _ => rfl)
    obtain ⟨k9, kT, lh, sM, lz⟩ := HR.ie KX G Bt "state_at" "Run.state_at" HR.tq ["self", "turn"] (fun _ _ _ _ _ _ us hl => match us, hl with | [_, _], _ => rfl)
    obtain ⟨iz, zt, aP⟩ := HR.Hq KX G "Bench"
    obtain ⟨nN, oN, HU, wQ, wW⟩ := HR.Ha KX G zt "Bench.__init__" HR.wI ["self"] (fun _ _ _ _ _ _ us hl => match us, hl with | [_], _ => rfl)
    obtain ⟨gR, nR, dG⟩ := HR.Hq KX G "Reader"
    obtain ⟨mv, mx, E1, uG, vd⟩ := HR.Ha KX G nR "Reader.__init__" HR.u5 ["self", "calls"] (fun _ _ _ _ _ _ us hl => match us, hl with | [_, _], _ => rfl)
    obtain ⟨i0, iS, pz, pA, pB⟩ := HR.ie KX G nR "is_done" "Reader.is_done" HR.pC ["self"] (fun _ _ _ _ _ _ us hl => match us, hl with | [_], _ => rfl)
    obtain ⟨dZ, d7, gE, kQ, gh⟩ := HR.ie KX G nR "read_number" "Reader.read_number" HR.ly ["self"] (fun _ _ _ _ _ _ us hl => match us, hl with | [_], _ => rfl)
    obtain ⟨gL, gu, j6, oQ, j8⟩ := HR.ie KX G nR "read_row" "Reader.read_row" HR.nZ ["self", "length"] (fun _ _ _ _ _ _ us hl => match us, hl with | [_, _], _ => rfl)
    obtain ⟨qv, qB, qC, m5, qu, Z_no_asking⟩ := HR.cq KX G "no_asking" HR.ue ["hosts"] (fun _ _ _ _ _ _ us hl => match us, hl with | [_], _ => rfl)
    obtain ⟨kx, kE, dm, cu, df, Z_behind_count⟩ := HR.cq KX G "behind_count" HR.rV ["row"] (fun _ _ _ _ _ _ us hl => match us, hl with | [_], _ => rfl)
    obtain ⟨ql, qE, tS, qj, tT, Z_as_number⟩ := HR.cq KX G "as_number" HR.yE ["holds"] (fun _ _ _ _ _ _ us hl => match us, hl with | [_], _ => rfl)
    obtain ⟨lj, ni, yt, tU, yx, Z_call_line⟩ := HR.cq KX G "call_line" HR.za ["bench", "numbers", "rows"] (fun _ _ _ _ _ _ us hl => match us, hl with | [_, _, _], _ => rfl)
    obtain ⟨kb, nk, ze, ud, yL, Z_call_word⟩ := HR.cq KX G "call_word" HR.yH ["bench", "numbers", "rows"] (fun _ _ _ _ _ _ us hl => match us, hl with | [_, _, _], _ => rfl)
    obtain ⟨fD, iN, sC, nJ, rW, Z_call_dispute⟩ := HR.cq KX G "call_dispute" HR.sJ ["bench", "numbers", "rows"] (fun _ _ _ _ _ _ us hl => match us, hl with | [_, _, _], _ => rfl)
    obtain ⟨gV, jK, uW, pY, vp, Z_call_agreed⟩ := HR.cq KX G "call_agreed" HR.vo ["bench", "numbers", "rows"] (fun _ _ _ _ _ _ us hl => match us, hl with | [_, _, _], _ => rfl)
    obtain ⟨ji, lF, wX, rF, wV, Z_call_truth⟩ := HR.cq KX G "call_truth" HR.w9 ["bench", "numbers", "rows"] (fun _ _ _ _ _ _ us hl => match us, hl with | [_, _, _], _ => rfl)
    obtain ⟨fI, fP, i9, fR, jw, Z_state_or_nothing⟩ := HR.cq KX G "state_or_nothing" HR.mT ["turn", "state"] (fun _ _ _ _ _ _ us hl => match us, hl with | [_, _], _ => rfl)
    obtain ⟨jh, lU, wG, rN, wY, Z_call_heard⟩ := HR.cq KX G "call_heard" HR.wk ["bench", "numbers", "rows"] (fun _ _ _ _ _ _ us hl => match us, hl with | [_, _, _], _ => rfl)
    obtain ⟨kP, nq, yO, uB, yg, Z_call_says⟩ := HR.cq KX G "call_says" HR.zh ["bench", "numbers", "rows"] (fun _ _ _ _ _ _ us hl => match us, hl with | [_, _, _], _ => rfl)
    obtain ⟨kL, m9, y6, uu, x9, Z_call_host⟩ := HR.cq KX G "call_host" HR.xW ["bench", "numbers", "rows"] (fun _ _ _ _ _ _ us hl => match us, hl with | [_, _, _], _ => rfl)
    obtain ⟨gW, jN, vC, p8, vt, Z_call_affair⟩ := HR.cq KX G "call_affair" HR.uY ["bench", "numbers", "rows"] (fun _ _ _ _ _ _ us hl => match us, hl with | [_, _, _], _ => rfl)
    obtain ⟨hZ, jP, vh, p6, uZ, Z_call_counts⟩ := HR.cq KX G "call_counts" HR.uR ["bench", "numbers", "rows"] (fun _ _ _ _ _ _ us hl => match us, hl with | [_, _, _], _ => rfl)
    obtain ⟨kO, nA, yy, ur, zg, Z_call_work⟩ := HR.cq KX G "call_work" HR.xF ["bench", "numbers", "rows"] (fun _ _ _ _ _ _ us hl => match us, hl with | [_, _, _], _ => rfl)
    obtain ⟨iU, i7, pL, lM, pE, Z_answer_reading⟩ := HR.cq KX G "answer_reading" HR.pU ["bench", "call", "numbers", "rows"] (fun _ _ _ _ _ _ us hl => match us, hl with | [_, _, _, _], _ => rfl)
    obtain ⟨mC, md, mw, jM, mh, Z_are_numbers⟩ := HR.cq KX G "are_numbers" HR.p5 ["row"] (fun _ _ _ _ _ _ us hl => match us, hl with | [_], _ => rfl)
    obtain ⟨oz, nX, w6, rB, wN, Z_is_program⟩ := HR.cq KX G "is_program" HR.rH ["row"] (fun _ _ _ _ _ _ us hl => match us, hl with | [_], _ => rfl)
    obtain ⟨eZ, eS, lX, iy, l0, Z_are_first_numbers⟩ := HR.cq KX G "are_first_numbers" HR.lW ["row"] (fun _ _ _ _ _ _ us hl => match us, hl with | [_], _ => rfl)
    obtain ⟨qw, qm, xM, uk, yN, Z_orders_of⟩ := HR.cq KX G "orders_of" HR.uC ["row"] (fun _ _ _ _ _ _ us hl => match us, hl with | [_], _ => rfl)
    obtain ⟨qF, qx, yq, ub, xK, Z_put_value⟩ := HR.cq KX G "put_value" HR.y8 ["order", "numbers"] (fun _ _ _ _ _ _ us hl => match us, hl with | [_, _], _ => rfl)
    obtain ⟨jE, jH, qP, mL, qN, Z_numbers_after⟩ := HR.cq KX G "numbers_after" HR.rh ["order", "numbers"] (fun _ _ _ _ _ _ us hl => match us, hl with | [_, _], _ => rfl)
    obtain ⟨Bv, A8, He, Ea, HL, Z_jumps⟩ := HR.cq KX G "jumps" HR.Ib ["order", "numbers"] (fun _ _ _ _ _ _ us hl => match us, hl with | [_, _], _ => rfl)
    obtain ⟨jd, lK, wH, rC, wB, Z_call_clear⟩ := HR.cq KX G "call_clear" HR.wz ["bench", "numbers", "rows"] (fun _ _ _ _ _ _ us hl => match us, hl with | [_, _, _], _ => rfl)
    obtain ⟨mO, pM, Av, wL, z1, Z_call_new⟩ := HR.cq KX G "call_new" HR.zV ["bench", "numbers", "rows"] (fun _ _ _ _ _ _ us hl => match us, hl with | [_, _, _], _ => rfl)
    obtain ⟨Et, Fs, Hs, Ei, HV, Z_tell⟩ := HR.cq KX G "tell" HR.KC ["affair", "numbers", "state"] (fun _ _ _ _ _ _ us hl => match us, hl with | [_, _, _], _ => rfl)
    obtain ⟨mP, pI, Ak, wq, Aq, Z_call_lie⟩ := HR.cq KX G "call_lie" HR.z3 ["bench", "numbers", "rows"] (fun _ _ _ _ _ _ us hl => match us, hl with | [_, _, _], _ => rfl)
    obtain ⟨kX, m4, xQ, ui, y3, Z_call_mute⟩ := HR.cq KX G "call_mute" HR.y1 ["bench", "numbers", "rows"] (fun _ _ _ _ _ _ us hl => match us, hl with | [_, _, _], _ => rfl)
    obtain ⟨gY, jQ, vy, qc, uQ, Z_call_honest⟩ := HR.cq KX G "call_honest" HR.vb ["bench", "numbers", "rows"] (fun _ _ _ _ _ _ us hl => match us, hl with | [_, _, _], _ => rfl)
    obtain ⟨km, kH, si, nE, tm, Z_pair_refusal⟩ := HR.cq KX G "pair_refusal" HR.rY ["affair", "x", "y"] (fun _ _ _ _ _ _ us hl => match us, hl with | [_, _, _], _ => rfl)
    obtain ⟨kn, mZ, yI, uz, yz, Z_call_pair⟩ := HR.cq KX G "call_pair" HR.yV ["bench", "numbers", "rows"] (fun _ _ _ _ _ _ us hl => match us, hl with | [_, _, _], _ => rfl)
    obtain ⟨fS, fV, jf, fG, jj, Z_question_refusal⟩ := HR.cq KX G "question_refusal" HR.mR ["affair", "number", "host"] (fun _ _ _ _ _ _ us hl => match us, hl with | [_, _, _], _ => rfl)
    obtain ⟨mN, pO, AD, w8, AK, Z_call_say⟩ := HR.cq KX G "call_say" HR.Ac ["bench", "numbers", "rows"] (fun _ _ _ _ _ _ us hl => match us, hl with | [_, _, _], _ => rfl)
    obtain ⟨gy, gr, oO, j5, oK, Z_answer_question⟩ := HR.cq KX G "answer_question" HR.oC ["bench", "word"] (fun _ _ _ _ _ _ us hl => match us, hl with | [_, _], _ => rfl)
    obtain ⟨fA, iY, sQ, oF, tJ, Z_call_deliver⟩ := HR.cq KX G "call_deliver" HR.sZ ["bench", "numbers", "rows"] (fun _ _ _ _ _ _ us hl => match us, hl with | [_, _, _], _ => rfl)
    obtain ⟨kU, nB, yY, uq, yU, Z_call_lose⟩ := HR.cq KX G "call_lose" HR.yA ["bench", "numbers", "rows"] (fun _ _ _ _ _ _ us hl => match us, hl with | [_, _, _], _ => rfl)
    obtain ⟨gT, jO, vq, p9, uV, Z_call_double⟩ := HR.cq KX G "call_double" HR.uF ["bench", "numbers", "rows"] (fun _ _ _ _ _ _ us hl => match us, hl with | [_, _, _], _ => rfl)
    obtain ⟨kI, lB, tD, oq, rS, Z_hush_refusal⟩ := HR.cq KX G "hush_refusal" HR.tE ["bench", "number", "host"] (fun _ _ _ _ _ _ us hl => match us, hl with | [_, _, _], _ => rfl)
    obtain ⟨lg, nv, xZ, uc, yQ, Z_call_hush⟩ := HR.cq KX G "call_hush" HR.yC ["bench", "numbers", "rows"] (fun _ _ _ _ _ _ us hl => match us, hl with | [_, _, _], _ => rfl)
    obtain ⟨je, lT, wj, rD, wZ, Z_call_close⟩ := HR.cq KX G "call_close" HR.rO ["bench", "numbers", "rows"] (fun _ _ _ _ _ _ us hl => match us, hl with | [_, _, _], _ => rfl)
    obtain ⟨yc, x8, Er, Bd, Fm, Z_answer⟩ := HR.cq KX G "answer" HR.Ec ["bench", "call", "numbers", "rows"] (fun _ _ _ _ _ _ us hl => match us, hl with | [_, _, _, _], _ => rfl)
    obtain ⟨me, mi, vw, pX, uL, Z_answer_next⟩ := HR.cq KX G "answer_next" HR.p4 ["bench", "reader"] (fun _ _ _ _ _ _ us hl => match us, hl with | [_, _], _ => rfl)
    obtain ⟨vU, pT, CC, Ca, GR, Z_answers⟩ := HR.cq KX G "answers" HR.CA ["calls"] (fun _ _ _ _ _ _ us hl => match us, hl with | [_], _ => rfl)
    obtain ⟨rP, Im, D1⟩ := HR.NT (P := PySem.Challenge.rw_halvedruns_s01_answers.prog) (w := w) KX G
    obtain ⟨dz, qI, D2⟩ := HR.Pg (P := PySem.Challenge.rw_halvedruns_s01_answers.prog) (w := w) KX G
    obtain ⟨qp, FC, D3⟩ := HR.MD (P := PySem.Challenge.rw_halvedruns_s01_answers.prog) (w := w) KX G (t0 := HR.fB) (t1 := HR.fB) (t2 := HR.fB) (t3 := HR.fB) (t4 := HR.fB) (t5 := HR.fB) (t6 := HR.fB) (t7 := HR.fB) (t8 := HR.fB) (t9 := HR.fB) (t10 := HR.fB) (t11 := HR.fB) (t12 := HR.fB) (t13 := HR.fB) (t14 := HR.fB) (t15 := HR.fB) (t16 := HR.fB) (t17 := HR.fB) (t18 := HR.fB) (t19 := HR.fB) (t20 := HR.fB) (t21 := HR.fB) (t22 := HR.fB)
    obtain ⟨bL, jg, D4⟩ := HR.P9 KX G
    cases hmg.symm.trans CC
    have T : HR.Txt _ mg ⟨eK, aR, gU, aG, lp, cQ, pb, iz, gR, qv, qB, kz, ku, gI, gw, kh, lq, gF, gA, bI, bH, jB, jI, jC, jz, cp, cg, qA, qy, qe, qo, iW, iT, ee, dU, qr, qi, mD, mr, gP, gq, gH, gG, bU, bT, dX, ef, gN, gJ, eV, eR, gM, gn, jJ, jG, mH, mm, cJ, cI, cW, dk, b4, bY, cE, cK, cT, cR, mz, mf, iV, iZ, gz, gk, cS, cZ, cG, cF, eg, dW, iI, iR, cM, cH, qf, qG, qt, qz, la, lb, sk, sO, jA, jF, mj, mq, dC, dD, kx, kE, ql, qE, lj, ni, kb, nk, fD, iN, gV, jK, ji, lF, fI, fP, jh, lU, kP, nq, kL, m9, gW, jN, hZ, jP, kO, nA, iU, i7, mC, md, oz, nX, eZ, eS, qw, qm, qF, qx, jE, jH, Bv, A8, sA, sR, kg, kq, fH, fT, k9, kT, nN, oN, jd, lK, mO, pM, Et, Fs, mP, pI, kX, m4, gY, jQ, km, kH, kn, mZ, fS, fV, mN, pO, gy, gr, fA, iY, kU, nB, gT, jO, kI, lB, lg, nv, je, lT, yc, x8, mv, mx, i0, iS, dZ, d7, gL, gu, me, mi, fa, pT, dz, rP, bL, qp⟩ := ⟨eG, lN, CJ, HR.jm KX G lN, HR.jm KX G lN, HR.jm KX G lN, HR.jm KX G lN, ay, b9, Cw, HR.jm KX G b9, HR.jm KX G b9, HR.jm KX G b9, HR.jm KX G b9, HR.jm KX G b9, HR.jm KX G b9, HR.jm KX G b9, HR.jm KX G b9, HR.jm KX G b9, bK, qL, KP, HR.jm KX G qL, HR.jm KX G qL, HR.jm KX G qL, HR.jm KX G qL, au, bb, EU, HR.jm KX G bb, HR.jm KX G bb, HR.jm KX G bb, HR.jm KX G bb, HR.jm KX G bb, HR.jm KX G bb, HR.jm KX G bb, HR.jm KX G bb, dA, vz, EH, HR.jm KX G vz, HR.jm KX G vz, HR.jm KX G vz, HR.jm KX G vz, bJ, oU, Ip, HR.jm KX G oU, HR.jm KX G oU, HR.jm KX G oU, HR.jm KX G oU, m7, Bt, NL, HR.jm KX G Bt, HR.jm KX G Bt, aP, zt, HU, HR.jm KX G zt, HR.jm KX G zt, dG, nR, E1, HR.jm KX G nR, HR.jm KX G nR, m5, qu, qC, sP, sW, nQ, ou, oY, tj, sj, nM, ej, eL, eh, b7, b8, rb, mK, mI, qV, qZ, rf, ig, ip, ic, yp, x6, x5, yT, xT, pq, pH, pj, kW, d9, dY, yf, uo, uD, u7, uH, nL, cV, di, nY, j1, j0, fL, bx, bq, kJ, gQ, gx, oG, j9, jX, l6, bD, bB, nF, j4, jY, qR, gf, gc, vm, dP, dS, iO, iJ, iD, jk, fc, fg, fZ, bZ, b3, iL, i3, iF, jc, ja, jr, vv, uI, va, pS, lC, lR, oR, om, oW, jb, jq, jv, iH, i5, iC, lu, gK, gC, pk, dH, dI, iA, iK, i8, zi, qd, xN, ux, sH, nD, og, Am, rZ, sV, rl, qT, qW, uJ, ve, u6, jV, jT, jU, cu, df, dm, qj, tT, tS, tU, yx, yt, ud, yL, ze, nJ, rW, sC, pY, vp, uW, rF, wV, wX, fR, jw, i9, rN, wY, wG, uB, yg, yO, uu, x9, y6, p8, vt, vC, p6, uZ, vh, ur, zg, yy, lM, pE, pL, jM, mh, mw, rB, wN, w6, iy, l0, lX, uk, yN, xM, ub, xK, yq, mL, qN, qP, Ea, HL, He, AI, Ad, sU, oE, oj, mS, fW, fu, sM, lz, lh, wQ, wW, rC, wB, wH, wL, z1, Av, Ei, HV, Hs, wq, Aq, Ak, ui, y3, xQ, qc, uQ, vy, nE, tm, si, uz, yz, yI, fG, jj, jf, w8, AK, AD, j5, oK, oO, oF, tJ, sQ, uq, yU, yY, p9, uV, vq, oq, rS, tD, uc, yQ, xZ, rD, wZ, wj, Bd, Fm, Er, uG, vd, pA, pB, pz, kQ, gh, gE, oQ, j8, j6, pX, uL, vw, Ca, GR, CC, PySem.W.mg_none_of KX G (by k_is), PySem.W.mg_none_of KX G (by k_is), PySem.W.mg_none_of KX G (by k_is), PySem.W.mg_none_of KX G (by k_is), PySem.W.mg_none_of KX G (by k_is), PySem.W.mg_none_of KX G (by k_is), PySem.W.mg_none_of KX G (by k_is), PySem.W.mg_none_of KX G (by k_is), ⟨_, PySem.W.mg_of KX G (by k_is)⟩, ⟨_, PySem.W.mg_of KX G (by k_is)⟩, ⟨_, PySem.W.mg_of KX G (by k_is)⟩, ⟨_, PySem.W.mg_of KX G (by k_is)⟩, ⟨_, PySem.W.mg_of KX G (by k_is)⟩, ⟨_, PySem.W.mg_of KX G (by k_is)⟩, ⟨_, PySem.W.mg_of KX G (by k_is)⟩, ⟨_, PySem.W.mg_of KX G (by k_is)⟩, ⟨_, PySem.W.mg_of KX G (by k_is)⟩, ⟨_, PySem.W.mg_of KX G (by k_is)⟩, ⟨_, PySem.W.mg_of KX G (by k_is)⟩, ⟨_, PySem.W.mg_of KX G (by k_is)⟩, ⟨_, PySem.W.mg_of KX G (by k_is)⟩, ⟨_, PySem.W.mg_of KX G (by k_is)⟩, ⟨_, PySem.W.mg_of KX G (by k_is)⟩, ⟨_, PySem.W.mg_of KX G (by k_is)⟩, ⟨_, PySem.W.mg_of KX G (by k_is)⟩, ⟨_, PySem.W.mg_of KX G (by k_is)⟩, qI, ⟨_, PySem.W.mg_of KX G (by k_is)⟩, ⟨_, PySem.W.mg_of KX G (by k_is)⟩, ⟨_, PySem.W.mg_of KX G (by k_is)⟩, ⟨_, PySem.W.mg_of KX G (by k_is)⟩, ⟨_, PySem.W.mg_of KX G (by k_is)⟩, Im, jg, FC⟩
    exact ⟨pT, Z_answers, fun base _ _ => HR.QS T (D1 _ _ _ _ _ _ _ _ _ _ _ _ wH Av Ak xQ vy yI AD sQ yY vq xZ wj) (D2 _ _ _ _ _ _ _ _ _ _ _ yt ze sC uW wX wG yO y6 vC vh yy) D3 D4⟩
  case S =>
    intro K H xs a hO hwi hask hx
    cases hx with
    | cons h1 h2 =>
      cases h2
      cases h1 with
      | lst hs ha =>
        have e := L2.LZ a.1 _ ha
        subst e
        refine ⟨_, a.1, rfl, ?_, hask, fun H' p hp => .lst (L2.bc.of hp) (L2.LI _)⟩
        rcases hs with (hs | hs) | hs
        · rcases hO _ with z | ⟨ob, u, z⟩
          · rw [hs] at z; cases z
          · rw [hs] at z; cases z
        · exact .inl hs
        · exact .inr hs
#print axioms PySem.Challenge.cw_halvedruns_s01_answers_holds
