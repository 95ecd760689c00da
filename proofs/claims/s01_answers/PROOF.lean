import PyProof.Rows.All
import Wide.All
import OpenK.AllK
import Wide.FinOn
import PyProof.EqAt
import PyProof.EqKinds
import PyProof.TupleCall
import KE.BitLaws
import Open.SpecLaws
import KE.OsHead
import KE.OsGo
import KE.KDictList
import PySem.Challenge.RW_halvedruns_s01_answers
set_option Elab.async false
set_option linter.all false
set_option maxRecDepth 100000
set_option maxHeartbeats 2000000
open Vbapaj renaming Affair → Ux, hostAt → Uz, Run → UB, Dispute → UC, heardOf → UD, House → UG, step → UH, isOpen → UJ, weighed → UK, no → UO, Order → UP, STEPS → UQ, Word → U4, leftOnes → U6, putOut → Vc, hasPart → Vd, within → Vj, without → Vl, Bent → Vm, Answer → Vn, withHost → Vp, judged → Vr, withDispute → Vw, programOf → Vx, Call → Vy, comes → VC, turns → VH, onHost → VJ, saysOf → VL, turn → VQ, onAffair → VV, disputeAt → VY, verdictNumbers → V3, withAffair → V5, losers → We, together → Wf, wordAt → Wg, asked → Wh, told → Wy
open PySem.W renaming Frag → Uy, mg_of → UM, nsIn → UY, findIn → VD, fnOf → VP, keepIn → VS, emptyDict → V0, instObj → V6, mg_none_of → Wj, codeIn → WC, plainGet → WO
open List renaming length_map → UA, mem_singleton → UE, mem_cons → UL, mem_map → UR, map_cons → UT, filter_cons → UW, size_toArray → UX, mem_cons_self → UZ, length_cons → U0, map_append → U1, mem_cons_of_mem → U2, getElem?_eq_some_iff → U5, mem_range → U8, length_take → Va, length_set → Vb, getElem?_map → Ve, mem_of_getElem? → Vf, find?_cons → Vg, length_range → Vi, length_append → Vk, getElem?_eq_getElem → Vo, map → Vs, any_cons → Vv, length_filter_le → VA, take_length → VB, getD_eq_getElem?_getD → VE, map_map → VG, mem_filter → VM, getElem?_set_self → VN, nodup_cons → VO, map_congr_left → VR, getElem?_eq_none → VT, mem_append → VW, filter_append → VX, any_map → V1, sum_cons → V2, filter_nil → V4, mem_append_right → V8, lookup → V9, append_nil → Wa, map_nil → Wb, range' → Wd, getElem?_set_ne → Wk, replicate → Wl, getElem?_append_right → Wm, length_replicate → Wn, lookup_cons → Wq, any_eq_true → Ws, getElem?_range → Wt, find?_eq_none → Wx, getElem?_append_left → WB, length_drop → WD, all_cons → WE, all_eq_true → WG, append_assoc → WJ, range_succ → WK, getElem?_take_of_lt → WR, drop_eq_nil_of_le → WW, mem_of_find?_eq_some → WX, range_eq_range' → WY
open Nat renaming le_refl → UI, le_trans → US, ne_of_lt → U7, zero_le → U9, le_succ → Vh, lt_of_lt_of_le → Vq, not_lt_zero → Vt, lt_irrefl → Vz, zero_add → Wr, sub_self → Wv, min_eq_left → Ww, succ_le_succ → WL
open Bool renaming and_eq_true → UN, false_ne_true → U3, noConfusion → VF, true_and → VU, false_and → V7, or_eq_true → Wc
open PySem renaming boot_len → UU, mem_of_lookup → Vu, sizeLine → WI
open Int renaming toNat → VI, toNat_of_nonneg → VZ, toNat_natCast → Wo
open PyVbapaj renaming whole → Wi, shape → WM, answers → WQ
open PySem.F renaming plainAttrs_list → Wu, slot_dict_get → WH, slot_dict_pop → WT, entry_dict_get → WU, plainAttrs_dict → WV, slot_list_getattribute → WZ
open PyFlat renaming calls → Wz
open PyInside renaming lists → WA
open VbapajNeutral renaming step → WN
namespace L2
open PySem PySem.Spec PyProof.Rows
abbrev Key:=Sum Int Str
def zr:Key->Value->Bool
 | .inl k,v=>Value.isInt k v
 | .inr x,v=>Value.isStrOf x v
def TQ (w:World):Key->Int
 | .inl k=>hashInt k
 | .inr x=>hashStr w x
theorem fu:∀ {k:Key} {v:Value},zr k v=true->(∃ i t,k=Sum.inl i/\v=Value.int i t)∨(∃ x t,k=Sum.inr x/\v=Value.str x t)
 | .inl i,v,h=>by
  obtain ⟨t,e⟩:=Value.isInt_shape (k:=i) (v:=v) h
  exact .inl ⟨i,t,rfl,e⟩
 | .inr x,v,h=>by
  obtain ⟨t,e⟩:=Value.isStrOf_shape (x:=x) (v:=v) h
  exact .inr ⟨x,t,rfl,e⟩
theorem Ml (i:Int) (t:Tok):zr (.inl i) (.int i t)=true:=by simp [zr,Value.isInt]
theorem LV (x:Str) (t:Tok):zr (.inr x) (.str x t)=true:=by simp [zr,Value.isStrOf]
theorem RC (a b:Int):decide ((Sum.inl a:Key)=Sum.inl b)=(a == b):=by
 by_cases e:a=b
 ·subst e;simp
 ·have h:¬ (Sum.inl a:Key)=Sum.inl b:=λq=>e (Sum.inl.inj q)
  rw [decide_eq_false h]
  exact (beq_eq_false_iff_ne.mpr e).symm
theorem QR (a b:Str):decide ((Sum.inr a:Key)=Sum.inr b)=decide (a=b):=by
 by_cases e:a=b
 ·subst e;simp
 ·have h:¬ (Sum.inr a:Key)=Sum.inr b:=λq=>e (Sum.inr.inj q)
  rw [decide_eq_false h,decide_eq_false e]
theorem QO (a:Int) (b:Str):decide ((Sum.inl a:Key)=Sum.inr b)=false:=decide_eq_false (λq=>nomatch q)
theorem Rj (a:Str) (b:Int):decide ((Sum.inr a:Key)=Sum.inl b)=false:=decide_eq_false (λq=>nomatch q)
def aZ (prog:Program) (w:World):PySem.KeyKind prog w Key where
 is:=zr
 hash:=TQ w
 inj:=λv a b ha hb=>by
  rcases fu ha with ⟨i,t,rfl,rfl⟩ | ⟨x,t,rfl,rfl⟩
  ·rcases fu hb with ⟨j,u,rfl,e⟩ | ⟨y,u,rfl,e⟩
   ·injection e with e1 _;rw [e1]
   ·exact nomatch e
  ·rcases fu hb with ⟨j,u,rfl,e⟩ | ⟨y,u,rfl,e⟩
   ·exact nomatch e
   ·injection e with e1 _;rw [e1]
 byValue:=λk v h=>by
  rcases fu h with ⟨i,t,rfl,rfl⟩ | ⟨x,t,rfl,rfl⟩<;>rfl
 pyHash:=λhv h=>by
  rcases fu hv with ⟨i,t,rfl,rfl⟩ | ⟨x,t,rfl,rfl⟩
  ·exact wpAny_pyHash_int h
  ·exact wpAny_pyHash_str h
 eqBool:=λhu hv h=>by
  rcases fu hu with ⟨i,t,rfl,rfl⟩ | ⟨x,t,rfl,rfl⟩
  ·rcases fu hv with ⟨j,u,rfl,rfl⟩ | ⟨y,u,rfl,rfl⟩
   ·rw [RC] at h;exact wpAny_eqBool_int h
   ·rw [QO] at h;exact SeqAt.EqAt.int_str i t y u _ _ _ _ h
  ·rcases fu hv with ⟨j,u,rfl,rfl⟩ | ⟨y,u,rfl,rfl⟩
   ·rw [Rj] at h;exact SeqAt.EqAt.str_int x t j u _ _ _ _ h
   ·rw [QR] at h;exact wpAny_eqBool_str h
 «strs»:=λk x t v h=>by
  rcases fu h with ⟨i,u,rfl,e⟩ | ⟨y,u,rfl,e⟩
  ·exact nomatch e
  ·injection e with e1 _
   subst e1
   cases v<;>rfl
theorem CV (prog:Program) (w:World) (i:Int) (t:Tok):(aZ prog w).is (.inl i) (.int i t)=true:=Ml i t
theorem Ji (prog:Program) (w:World) (x:Str) (t:Tok):(aZ prog w).is (.inr x) (.str x t)=true:=LV x t
end L2
namespace L2
open PySem PySem.Spec PyProof.Rows
inductive V where
 | dH | bl (b:Bool) | int (i:Int) | str (x:Str) | Im (b:Array UInt8) | Te (b:UInt64) | ref (a:Addr) | ty (n:String)
 deriving DecidableEq
def RelV:V->Value->Prop
 | .dH,u=>u=Value.none
 | .bl b,u=>u=Value.bool b
 | .int i,u=>∃ t,u=Value.int i t
 | .str x,u=>∃ t,u=Value.str x t
 | .Im b,u=>∃ t,u=Value.bytes b t
 | .Te b,u=>∃ t,u=Value.float b t
 | .ref a,u=>u=Value.ref a
 | .ty n,u=>u=Value.type n
abbrev Vals:List V->List Value->Prop:=Paired RelV
theorem Vals.length {xs:List V} {us:List Value} (r:Vals xs us):xs.length=us.length:=Paired.length r
theorem Vals.get:∀ {xs:List V} {us:List Value} {i:Nat} {x:V},Vals xs us->xs[i]?=some x->∃ u,us[i]?=some u/\RelV x u
 | _,_,_,_,.nil,e=>by simp at e
 | _,_,0,_,.cons r _,e=>by simp at e;subst e;exact ⟨_,rfl,r⟩
 | _,_,i+1,x,.cons _ t,e=>by
  obtain ⟨u,h1,h2⟩:=Vals.get (i:=i) (x:=x) t (by simpa using e)
  exact ⟨u,by simpa using h1,h2⟩
theorem Vals.set {x:V} {u:Value} (r:RelV x u):∀ {xs:List V} {us:List Value} (i:Nat),Vals xs us->Vals (xs.set i x) (us.set i u)
 | _,_,_,.nil=>.nil
 | _,_,0,.cons _ t=>.cons r t
 | _,_,i+1,.cons q t=>.cons q (Vals.set r i t)
theorem Vals.append:∀ {xs ys:List V} {us ws:List Value},Vals xs us->Vals ys ws->Vals (xs++ys) (us++ws)
 | _,_,_,_,.nil,s=>s
 | _,_,_,_,.cons r t,s=>.cons r (Vals.append t s)
theorem Vals.take:∀ {xs:List V} {us:List Value} (n:Nat),Vals xs us->Vals (xs.take n) (us.take n)
 | _,_,0,_=>.nil
 | _,_,_+1,.nil=>.nil
 | _,_,n+1,.cons r t=>.cons r (Vals.take n t)
theorem Vals.drop:∀ {xs:List V} {us:List Value} (n:Nat),Vals xs us->Vals (xs.drop n) (us.drop n)
 | _,_,0,r=>r
 | _,_,_+1,.nil=>.nil
 | _,_,n+1,.cons _ t=>Vals.drop n t
theorem Vals.none_of:∀ {xs:List V} {us:List Value} {i:Nat},Vals xs us->xs[i]?=none->us[i]?=none:=λ{xs us i} r e=>by
 have h1:=r.length
 have h2:xs.length<=i:=List.getElem?_eq_none_iff.mp e
 exact List.getElem?_eq_none_iff.mpr (by omega)
def vv:Option V->Option Value->Prop
 | some v,some u=>RelV v u
 | none,none=>True
 | _,_=>False
def KV {κ:Type}:List (κ × V)->List (κ × Value)->Prop:=Paired λ(p:κ × V) (q:κ × Value)=>p.1=q.1/\RelV p.2 q.2
def kV:Key->V
 | .inl i=>.int i
 | .inr x=>.str x
inductive HO where
 | lst (xs:List V)
 | tup (xs:List V)
 | dK (kvs:List (Key × V)) | dT (kvs:List (List Key × V))
 | set (S:Int->Bool) (n:Nat)
 | ins (C dx:Addr) (fs:List (Str × V))
 | own (x:Addr)
 | xd (fs:List (Str × V))
 | met (f x:Addr)
 | rng (lo hi:Int)
 | frz (o:Obj) (u:HO)
 | tbl (ps:Array Value)
 | ext (φ:Heap->Prop)
abbrev Hp:=Addr->Option HO
def upd (H:Hp) (a:Addr) (o:HO):Hp:=λb=>if b=a then some o else H b
theorem ae {H:Hp} {a:Addr} {o:HO}:upd H a o a=some o:=by unfold upd;rw [if_pos rfl]
theorem ak {H:Hp} {a b:Addr} {o:HO} (h:b≠a):upd H a o b=H b:=by unfold upd;rw [if_neg h]
theorem b9 {H:Hp} {a:Addr} {o u:HO}:upd (upd H a o) a u=upd H a u:=by
 funext b;unfold upd;split<;>rfl
theorem aV {H:Hp} {a b:Addr} {o u:HO} (h:H a=some o) (h':H b=some u) (d:o≠u):a≠b:=by
 intro e;subst e;rw [h] at h';exact d (Option.some.inj h')
theorem aF {H:Hp} {a b:Addr} {o:HO} (h:H a=some o) (h':H b=none):a≠b:=by
 intro e;subst e;rw [h] at h';cases h'
section
variable (P:Program) (w:World)
def iH (H:Hp) (h:Heap) (a:Addr):HO->Prop
 | .lst xs=>xs.length<=sizeLine/\∃ (its:List Value) (n:Nat),Vals xs its/\h.get? a=some { cls:=.type "list",data:=.seq its.toArray n }
 | .tup xs=>xs.length<=sizeLine/\∃ its:List Value,Vals xs its/\IsTup h a its.toArray
 | .dK kvs=>kvs.length<=sizeLine/\(a == sysModules)=false/\∃ vs,KV kvs vs/\h.DictOf (aZ P w) a vs
 | .dT kvs=>kvs.length<=sizeLine/\(a == sysModules)=false/\∃ xs:List (List Key × Addr × Value),
   Paired (λ(p:List Key × V) (q:List Key × Addr × Value)=>p.1=q.1/\H q.2.1=some (.tup (p.1.map kV))/\RelV p.2 q.2.2) kvs xs /\
   ∃ o es ep,h.get? a=some o/\o.ExactDict/\o.data=.dict es ep/\es.toList=xs.map (entryOfKey (tupleKind (aZ P w)))/\(xs.map (·.1)).Nodup
 | .set S n=>h.SetOf (intKind P w) a S n
 | .ins C dx fs=>H dx=some (.own a)/\fs.length<=1000/\dx≠a/\h.get? a=some (V6 C dx) /\
   ∃ mA,h.Ns1 dx mA/\(∀ f,vv (fs.lookup f) (mA f))/\PySem.Within mA (fs.map (·.1))
 | .own _=>∃ o,h.get? a=some o
 | .xd fs=>∃ mA,h.Ns1 a mA/\∀ f,vv (fs.lookup f) (mA f)
 | .rng lo hi=>∃ t u v,h.get? a=some { cls:=.type "range",data:=.fields #[.int lo t,.int hi u,.int 1 v] }
 | .frz o u=>h.get? a=some o/\iH H h a u
 | .tbl ps=>h.get? a=some { cls:=.none,data:=.fields ps }
 | .met f x=>h.get? a=some (PySem.W.methodObj (.ref f) (.ref x))
 | .ext φ=>φ h/\(∃ o,h.get? a=some o)/\∀ h1 h2:Heap,φ h1->(∀ o,h1.get? a=some o->h2.get? a=some o)->φ h2
def xE (H:Hp) (h:Heap):Prop:=∀ a o,H a=some o->iH P w H h a o
end
section
variable {P:Program} {w:World} {H H':Hp} {h h':Heap} {a:Addr} {o:HO}
theorem iH.lt (x:iH P w H h a o):a < h.objs.size:=by
 cases o with
 | lst xs=>obtain ⟨_,_,_,_,e⟩:=x;exact Heap.lt_size e
 | tup xs=>obtain ⟨_,_,_,p⟩:=x;exact p.lt
 | dK kvs=>obtain ⟨_,_,_,_,o,_,_,e,_⟩:=x;exact Heap.lt_size e
 | dT kvs=>obtain ⟨_,_,_,_,o,_,_,e,_⟩:=x;exact Heap.lt_size e
 | set S n=>obtain ⟨o,_,_,_,e,_⟩:=x;exact Heap.lt_size e
 | ins C dx fs=>obtain ⟨_,_,_,e,_⟩:=x;exact Heap.lt_size e
 | own y=>obtain ⟨_,e⟩:=x;exact Heap.lt_size e
 | xd fs=>obtain ⟨_,⟨_,_,_,e,_⟩,_⟩:=x;exact Heap.lt_size e
 | rng lo hi=>obtain ⟨_,_,_,e⟩:=x;exact Heap.lt_size e
 | frz ob u=>obtain ⟨e,_⟩:=x;exact Heap.lt_size e
 | tbl ps=>exact Heap.lt_size (show h.get? a=some _ from x)
 | met f y=>exact Heap.lt_size (show h.get? a=some _ from x)
 | ext φ=>obtain ⟨_,⟨_,e⟩,_⟩:=x;exact Heap.lt_size e
theorem Paired.J8 {α β:Type} {F G:α->β->Prop}:∀ {l₁:List α} {l₂:List β},Paired F l₁ l₂->(∀ a b,F a b->G a b)->Paired G l₁ l₂
 | _,_,.nil,_=>.nil
 | _,_,.cons r t,f=>.cons (f _ _ r) (Paired.J8 t f)
theorem iH.qr (x:iH P w H h a o) (k:∀ b u,(b=a∨H b=some (.own a))->h.get? b=some u->h'.get? b=some u)
  (ho:∀ b,H b=some (.own a)->H' b=some (.own a)) (ht:∀ b xs,H b=some (.tup xs)->H' b=some (.tup xs)):iH P w H' h' a o:=by
 induction o with
 | lst xs=>obtain ⟨z,its,n,r,e⟩:=x;exact ⟨z,its,n,r,k _ _ (.inl rfl) e⟩
 | tup xs=>obtain ⟨z,its,r,ob,e,c⟩:=x;exact ⟨z,its,r,ob,k _ _ (.inl rfl) e,c⟩
 | dK kvs=>obtain ⟨z,y,vs,r,ob,es,ep,e,c⟩:=x;exact ⟨z,y,vs,r,ob,es,ep,k _ _ (.inl rfl) e,c⟩
 | dT kvs =>
  obtain ⟨z,y,xs,r,ob,es,ep,e,c⟩:=x
  exact ⟨z,y,xs,Paired.J8 r λp q z=>⟨z.1,ht _ _ z.2.1,z.2.2⟩,ob,es,ep,k _ _ (.inl rfl) e,c⟩
 | set S n=>obtain ⟨ob,es,ep,t,e,c⟩:=x;exact ⟨ob,es,ep,t,k _ _ (.inl rfl) e,c⟩
 | ins C dx fs =>
  obtain ⟨d,z,ne,e,mA,⟨od,es,ep,e2,c⟩,r⟩:=x
  exact ⟨ho _ d,z,ne,k _ _ (.inl rfl) e,mA,⟨od,es,ep,k _ _ (.inr d) e2,c⟩,r⟩
 | own y=>obtain ⟨ob,e⟩:=x;exact ⟨ob,k _ _ (.inl rfl) e⟩
 | xd fs=>obtain ⟨mA,⟨od,es,ep,e,c⟩,r⟩:=x;exact ⟨mA,⟨od,es,ep,k _ _ (.inl rfl) e,c⟩,r⟩
 | rng lo hi=>obtain ⟨t,u,v,e⟩:=x;exact ⟨t,u,v,k _ _ (.inl rfl) e⟩
 | frz ob u ih=>obtain ⟨e,q⟩:=x;exact ⟨k _ _ (.inl rfl) e,ih q⟩
 | tbl ps =>
  have e:h.get? a=some { cls:=.none,data:=.fields ps }:=x
  show h'.get? a=some { cls:=.none,data:=.fields ps }
  exact k a _ (.inl rfl) e
 | met f y =>
  have e:h.get? a=some (PySem.W.methodObj (.ref f) (.ref y)):=x
  show h'.get? a=some (PySem.W.methodObj (.ref f) (.ref y))
  exact k a _ (.inl rfl) e
 | ext φ=>obtain ⟨p,⟨o,e⟩,st⟩:=x;exact ⟨st _ _ p λo q=>k _ _ (.inl rfl) q,⟨o,k _ _ (.inl rfl) e⟩,st⟩
theorem xE.lt (x:xE P w H h) (e:H a=some o):a < h.objs.size:=(x a o e).lt
theorem xE.fresh (x:xE P w H h) (e:h.objs.size<=a):H a=none:=by
 cases q:H a with
 | none=>rfl
 | some u=>exact absurd (Vq (x.lt q) e) (Vz _)
theorem xE.kept (x:xE P w H h) (k:∀ b u,h.get? b=some u->h'.get? b=some u):xE P w H h':=λa o e =>
 (x a o e).qr (λb u _ q=>k b u q) (λ_ q=>q) λ_ _ q=>q
theorem xE.laid (x:xE P w H h) (k:∀ b u,h.get? b=some u->h'.get? b=some u) (hp:h.objs.size<=a) (new:iH P w (upd H a o) h' a o):xE P w (upd H a o) h':=λb u e=>by
 have hn:=x.fresh hp
 by_cases hb:b=a
 ·subst hb;rw [ae] at e;cases e;exact new
 ·rw [ak hb] at e
  exact (x b u e).qr (λc v _ q=>k c v q) (λc q=>by rw [ak (aF q hn)];exact q) λc xs q=>by rw [ak (aF q hn)];exact q
end
def Rd (H:Hp) (a:Addr) (u:HO):Prop:=H a=some u∨∃ o,H a=some (.frz o u)
theorem Rd.ok {P:Program} {w:World} {H:Hp} {h:Heap} {a:Addr} {u:HO} (r:Rd H a u) (x:xE P w H h):iH P w H h a u:=by
 rcases r with r | ⟨o,r⟩
 ·exact x a u r
 ·obtain ⟨_,q⟩:=x a _ r
  exact q
def Qc:Option HO->Prop
 | some (.lst _)=>True
 | some (.dK _)=>True
 | some (.dT _)=>True
 | some (.set _ _)=>True
 | some (.ins _ _ _)=>True
 | some (.ext _)=>True
 | _=>False
section
variable {P:Program} {w:World} {H:Hp} {h h':Heap} {x e:Addr} {o':HO}
theorem xE.write (ok:xE P w H h) (mu:Qc (H x)) (he:e=x∨H e=some (.own x)) (k:∀ b u,b≠e->h.get? b=some u->h'.get? b=some u) (heo:∃ u,h'.get? e=some u)
  (new:iH P w (upd H x o') h' x o'):xE P w (upd H x o') h':=λb u q=>by
 have nown:∀ c y,H c=some (.own y)->c≠x:=λc y r z=>by subst z;rw [r] at mu;exact mu
 have ntup:∀ c xs,H c=some (.tup xs)->c≠x:=λc xs r z=>by subst z;rw [r] at mu;exact mu
 by_cases hb:b=x
 ·subst hb;rw [ae] at q;cases q;exact new
 ·rw [ak hb] at q
  by_cases hbe:b=e
  ·have q':H b=some (.own x):=by
    rcases he with z | z
    ·exact absurd (hbe.trans z) hb
    ·rw [hbe];exact z
   rw [q] at q';cases q'
   obtain ⟨v,hv⟩:=heo
   exact ⟨v,by rw [hbe];exact hv⟩
  ·refine (ok b u q).qr (λc v hc r=>k c v ?_ r) (λc r=>by rw [ak (nown c b r)];exact r) λc xs r=>by rw [ak (ntup c xs r)];exact r
   rcases hc with rfl | hc
   ·exact hbe
   ·rintro rfl
    rcases he with z | z
    ·exact nown c b hc z
    ·rw [hc] at z;cases z;exact hb rfl
end
structure Un (fs ex:List Addr) (H H':Hp) (h h':Heap):Prop where
 keep:∀ b o,h.get? b=some o->H b=none->b ∉ fs->b ∉ ex->h'.get? b=some o
 slot:∀ b o,h.get? b=some o->H b=none->b∈fs->b ∉ ex->∃ sl,h'.get? b=some { o with slots:=sl }
 free:∀ b o,h.get? b=some o->H b=none->b ∉ ex->H' b=none
 there:∀ b o,h.get? b=some o->b ∉ ex->∃ o',h'.get? b=some o'
 Ar:∀ b xs,H b=some (.tup xs)->H' b=some (.tup xs)
 Ci:∀ b o u,H b=some (.frz o u)->H' b=some (.frz o u)
 Hx:∀ b ps,H b=some (.tbl ps)->∃ more,H' b=some (.tbl (ps++more))
section
variable {fs fs' ex ex':List Addr} {H H1 H2:Hp} {h h1 h2 h':Heap} {a x e:Addr} {o:HO}
theorem Un.any (u:Un fs ex H H1 h h1) {b:Addr} {ob:Obj} (q:h.get? b=some ob) (n:H b=none) (hx:b ∉ ex):∃ sl,h1.get? b=some { ob with slots:=sl }:=by
 by_cases hb:b∈fs
 ·exact u.slot b ob q n hb hx
 ·exact ⟨ob.slots,u.keep b ob q n hb hx⟩
theorem Un.kept (k:∀ b u,h.get? b=some u->h'.get? b=some u):Un fs ex H H h h' :=
 ⟨λb ob q _ _ _=>k b ob q,λb ob q _ _ _=>⟨ob.slots,k b ob q⟩,λ_ _ _ n _=>n,λb ob q _=>⟨ob,k b ob q⟩,λ_ _ q=>q,λ_ _ _ q=>q,λ_ ps q=>⟨#[],by rw [q];simp⟩⟩
theorem Un.refl:Un fs ex H H h h:=Un.kept λ_ _ q=>q
theorem Un.laid (k:∀ b u,h.get? b=some u->h'.get? b=some u) (hp:h.objs.size<=a) (hn:H a=none):Un fs ex H (upd H a o) h h' where
 keep:=λb u q _ _ _=>k b u q
 slot:=λb u q _ _ _=>⟨u.slots,k b u q⟩
 free:=λb u q n _=>by rw [ak (U7 (Vq (Heap.lt_size q) hp))];exact n
 there:=λb u q _=>⟨u,k b u q⟩
 Ar:=λb xs q=>by rw [ak (aF q hn)];exact q
 Ci:=λb u xs q=>by rw [ak (aF q hn)];exact q
 Hx:=λb ps q=>⟨#[],by rw [ak (aF q hn),q];simp⟩
theorem Un.write (mu:Qc (H x)) (he:e=x∨H e=some (.own x)) (k:∀ b u,b≠e->h.get? b=some u->h'.get? b=some u) (heo:∃ u,h'.get? e=some u):Un fs ex H (upd H x o) h h':=by
 have hx:∀ b,H b=none->b≠x:=λb n z=>by subst z;rw [n] at mu;exact mu
 have hb:∀ b,H b=none->b≠e:=λb n z=>by
  subst z
  rcases he with r | r
  ·exact hx b n r
  ·rw [n] at r;cases r
 have hm:∀ b u,H b=some u->¬ Qc (some u)->b≠x:=λb u q nm z=>by subst z;rw [q] at mu;exact nm mu
 refine ⟨λb u q n _ _=>k b u (hb b n) q,λb u q n _ _=>⟨u.slots,k b u (hb b n) q⟩,λb u q n _=>by rw [ak (hx b n)];exact n,λb u q _=>?_,
  λb xs q=>by rw [ak (hm b _ q λz=>z)];exact q,λb u xs q=>by rw [ak (hm b _ q λz=>z)];exact q,λb ps q=>⟨#[],by rw [ak (hm b _ q λz=>z),q];simp⟩⟩
 by_cases hbe:b=e
 ·subst hbe;exact heo
 ·exact ⟨u,k b u hbe q⟩
end
def Tn (h:Heap) (H:Hp):List Addr:=(List.range h.objs.size).filter λa=>(H a).isSome
def HP (h:Heap) (H:Hp):Heap:=PySem.W.hideAll h (Tn h H)
theorem Mw (h:Heap) (H:Hp):(HP h H).objs.size=h.objs.size:=PySem.W.hideAll_size _ _
theorem Nu {h:Heap} {H:Hp} {b:Addr} {o:Obj} (e:h.get? b=some o) (n:H b=none):(HP h H).get? b=some o :=
 PySem.W.hideAll_get _ e λhm=>by
  have q:(H b).isSome=true:=(VM.mp hm).2
  rw [n] at q;simp at q
theorem PB {h:Heap} {H:Hp} {b:Addr} {o:Obj} (e:(HP h H).get? b=some o):h.get? b=some o/\H b=none:=by
 have e':h.get? b=some o:=PySem.W.of_hideAll (Tn h H) e
 refine ⟨e',?_⟩
 cases q:H b with
 | none=>rfl
 | some x =>
  have hm:b∈Tn h H:=VM.mpr ⟨U8.mpr (Heap.lt_size e'),by simp [q]⟩
  have z:(HP h H).get? b=none:=PySem.W.hideAll_none (Tn h H) hm
  rw [z] at e;cases e
end L2
namespace L2
open PySem PySem.Spec PyProof.Rows
structure Mod (K:Uy) (mg:Str->Option Value) (base:Heap):Prop where
 O4:K.In base
 glob:base.Ns mainGlobals mg
 blt:∃ mb,base.Ns builtinsNs mb/\∀ x:Str,x≠"__name__"->mb x=bootBuiltins x
 nolimit:base.NoLimit
structure Cx where
 prog:Program
 w:World
 K:Uy
 mg:Str->Option Value
 base:Heap
 A:Around
 N:List Str
 F6:Shared
 Ru:Hp
 env:Env
 outer:List Env
 stack:List Env
 ex:List Addr
 fn:Str->Bool
 calm:Bool
 pn:List (Addr × Obj)
 xe:Value->Shared->Prop
def NT (l:List Env):List Addr:=l.filterMap (·.frame)
abbrev Cx.fs (X:Cx):List Addr:=NT X.outer
def RN (sc:Scope) (x:Str):Prop:=sc.names.lookup x=some .local∨sc.names.lookup x=some .cell∨sc.names.lookup x=some .free
def Loc (sc:Scope) (x:Str):Prop:=sc.names.lookup x=some .local∨sc.names.lookup x=some .cell
def Look (env:Env) (h:Heap) (m:Str->Option Value) (x:Str) (u:Value):Prop :=
 (env.kindOf x=some .local/\m x=some u)∨((env.kindOf x=some .cell∨env.kindOf x=some .free)/\∃ c,env.cells.lookup x=some c/\h.IsCell c (some u))
structure Cx.Ok (X:Cx):Prop where
 mod:Mod X.K X.mg X.base
 kind:X.env.scope.kind=.function
 glob:X.env.globals=mainGlobals
 blt:X.env.builtins=builtinsNs
 above:X.F6.heap.objs.size<=X.env.locals
 inj:∀ x y c,X.env.cells.lookup x=some c->X.env.cells.lookup y=some c->x=y
 has:∀ x,(X.env.kindOf x=some .cell∨X.env.kindOf x=some .free)->∃ c,X.env.cells.lookup x=some c
 SK:∀ x c,X.fn x=true->X.env.cells.lookup x=some c->X.F6.heap.objs.size<=c
 hd:X.calm=true->X.A.handled=none
 frames:X.A.frames=some X.stack
 Tg:X.stack=X.outer∨(X.stack=X.env::X.outer/\X.env.frame=some X.env.locals)
 Td:∀ b∈X.ex,b≠X.env.locals/\∀ x c,X.env.cells.lookup x=some c->c≠b
 bs:∀ b o,X.base.get? b=some o->X.F6.heap.get? b=some o/\X.Ru b=none
 Pf:X.base.objs.size<=X.F6.heap.objs.size
 Om:∀ b o,X.base.get? b=some o->b ∉ X.ex
 OE:∀ b∈X.ex,b ∉ X.fs
 Dv:X.F6.heap.FunFrames X.base X.outer
 Q8:∀ b∈X.fs,X.Ru b=none
structure Inv (X:Cx) (pins:List (Addr × Obj)) (σ:List (Option V)) (H:Hp) (s:Shared):Prop where
 ok:X.Ok
 os:s.os=X.F6.os
 bare:AllBare s.gens
 base:Un X.fs X.ex X.Ru H X.F6.heap s.heap
 loc:∃ m,s.heap.Ns X.env.locals m/\∀ (i:Nat) (x:Str) (v:V),X.N[i]?=some x->σ[i]?=some (some v)->RN X.env.scope x->∃ u,RelV v u/\Look X.env s.heap m x u
 cell:∀ x c,X.env.cells.lookup x=some c->∃ v,s.heap.IsCell c v
 free:H X.env.locals=none
 vL:∀ x c,X.env.cells.lookup x=some c->H c=none
 pin:∀ p∈X.pn++pins,s.heap.get? p.1=some p.2/\H p.1=none/\p.1≠X.env.locals/\p.1 ∉ X.fs/\∀ v,p.2.data≠.cell v
 dz:xE X.prog X.w H s.heap
 len:σ.length=X.N.length
section
variable {X:Cx} {pins:List (Addr × Obj)} {σ:List (Option V)} {H H':Hp} {s:Shared} {h':Heap}
theorem Cx.Ok.TC (ok:X.Ok) {b:Addr} {o:Obj} (e:X.base.get? b=some o):b ∉ X.fs:=λhb=>by
 have:=(ok.Dv.mem hb).1
 rw [e] at this;cases this
theorem Inv.bs (I:Inv X pins σ H s):∀ b o,X.base.get? b=some o->s.heap.get? b=some o/\H b=none:=λb o e =>
 ⟨I.base.keep b o (I.ok.bs b o e).1 (I.ok.bs b o e).2 (I.ok.TC e) (I.ok.Om b o e),I.base.free b o (I.ok.bs b o e).1 (I.ok.bs b o e).2 (I.ok.Om b o e)⟩
theorem Inv.bk (I:Inv X pins σ H s):∀ b o,X.base.get? b=some o->s.heap.get? b=some o:=λb o e=>(I.bs b o e).1
theorem Inv.mod (I:Inv X pins σ H s):Mod X.K X.mg X.base:=I.ok.mod
theorem Inv.Jy (I:Inv X pins σ H s):X.K.In s.heap:=I.ok.mod.O4.keeps I.bk
theorem Inv.lt (I:Inv X pins σ H s):X.env.locals < s.heap.objs.size:=let ⟨_,hn,_⟩:=I.loc;hn.lt
theorem Inv.sz (I:Inv X pins σ H s):X.F6.heap.objs.size<=s.heap.objs.size:=US I.ok.above (Nat.le_of_lt I.lt)
theorem Inv.TJ (I:Inv X pins σ H s) {a:Addr} (h:s.heap.objs.size<=a):a ∉ X.fs:=λhb=>by
 obtain ⟨_,o,ho,_⟩:=I.ok.Dv.mem hb
 exact absurd (Vq (Heap.lt_size ho) (US I.sz h)) (Vz _)
theorem Inv.Rc (I:Inv X pins σ H s):∀ x c,X.env.cells.lookup x=some c->c≠X.env.locals:=λx c e z=>by
 obtain ⟨v,o,ho,hd⟩:=I.cell x c e
 obtain ⟨m,⟨o',es,ep,ho',hd',_⟩,_⟩:=I.loc
 rw [z,ho'] at ho;cases ho;rw [hd'] at hd;cases hd
theorem Inv.Dv (I:Inv X pins σ H s):s.heap.FunFrames X.base X.outer:=by
 have all:∀ (l:List Env),(∀ b∈NT l,b∈X.fs)->X.F6.heap.FunFrames X.base l->s.heap.FunFrames X.base l:=by
  intro l
  induction l with
  | nil=>intro _ _;trivial
  | cons env r ih =>
   intro hs hl
   obtain ⟨hk,⟨L,o,hf,hn,ho,hd⟩,hr⟩:=hl
   have hL:L∈X.fs:=hs L (by unfold NT;rw [List.filterMap_cons,hf];exact UZ)
   obtain ⟨sl,e⟩:=I.base.slot L o ho (I.ok.Q8 L hL) hL λz=>I.ok.OE L z hL
   exact ⟨hk,⟨L,_,hf,hn,e,hd⟩,ih (λb hb=>hs b (by unfold NT;rw [List.filterMap_cons,hf];exact U2 _ hb)) hr⟩
 exact all X.outer (λ_ hb=>hb) I.ok.Dv
theorem Inv.stack (I:Inv X pins σ H s):s.heap.FunFrames X.base X.stack:=by
 rcases I.ok.Tg with e | ⟨e,hf⟩
 ·rw [e];exact I.Dv
 ·rw [e]
  obtain ⟨m,hn,_⟩:=I.loc
  refine .cons (by rw [I.ok.kind];decide) hf hn ?_ I.Dv
  exact Heap.get?_none_of_le (US I.ok.Pf I.ok.above)
theorem Inv.Kg (I:Inv X pins σ H s):∀ b∈NT X.stack,b∈X.env.locals::X.fs:=λb hb=>by
 rcases I.ok.Tg with e | ⟨e,hf⟩
 ·rw [e] at hb;exact U2 _ hb
 ·rw [e] at hb
  unfold NT at hb
  rw [List.filterMap_cons,hf] at hb
  exact hb
theorem Inv.KP (I:Inv X pins σ H s):∀ b∈NT X.stack,H b=none:=λb hb=>by
 rcases UL.mp (I.Kg b hb) with e | hb
 ·rw [e];exact I.free
 ·obtain ⟨_,o,ho,_⟩:=I.ok.Dv.mem hb
  exact I.base.free b o ho (I.ok.Q8 b hb) λz=>I.ok.OE b z hb
theorem Inv.step {g':Array GenState} {t':Nat} {d':Drawn} {ch:List Addr} (I:Inv X pins σ H s)
  (hch:∀ b∈ch,(b∈X.ex∨X.F6.heap.objs.size<=b)/\b≠X.env.locals/\(∀ x c,X.env.cells.lookup x=some c->c≠b)/\∀ p∈X.pn++pins,p.1≠b)
  (keep:∀ b o,b≠X.env.locals->b ∉ X.fs->b ∉ ch->s.heap.get? b=some o->H b=none->h'.get? b=some o)
  (slot:∀ b o,b≠X.env.locals->b∈X.fs->b ∉ ch->s.heap.get? b=some o->H b=none->∃ sl,h'.get? b=some { o with slots:=sl }) (free:∀ b o,b ∉ ch->s.heap.get? b=some o->H b=none->H' b=none)
  (there:∀ b o,b ∉ ch->s.heap.get? b=some o->∃ o',h'.get? b=some o')
  (Ar:∀ b xs,H b=some (.tup xs)->H' b=some (.tup xs)) (Ci:∀ b o u,H b=some (.frz o u)->H' b=some (.frz o u)) (Hx:∀ b ps,H b=some (.tbl ps)->∃ more,H' b=some (.tbl (ps++more)))
  (ns:∀ m,s.heap.Ns X.env.locals m->h'.Ns X.env.locals m) (dz:xE X.prog X.w H' h') (hg:AllBare g') :
  Inv X pins σ H' { s with heap:=h',gens:=g',drawn:=d',toks:=t' }:=by
 have neL:∀ b o,X.F6.heap.get? b=some o->b≠X.env.locals:=λb o e=>U7 (Vq (Heap.lt_size e) I.ok.above)
 have neC:∀ b o,X.F6.heap.get? b=some o->b ∉ X.ex->b ∉ ch:=λb o e hx hb=>by
  rcases (hch b hb).1 with z | z
  ·exact hx z
  ·exact absurd (Vq (Heap.lt_size e) z) (Vz _)
 have cellK:∀ x c,X.env.cells.lookup x=some c->∀ v,s.heap.IsCell c v->h'.IsCell c v:=λx c e v ⟨o,ho,hd⟩=>by
  have nch:c ∉ ch:=λz=>(hch c z).2.2.1 x c e rfl
  by_cases hc:c∈X.fs
  ·obtain ⟨sl,q⟩:=slot c o (I.Rc x c e) hc nch ho (I.vL x c e)
   exact ⟨_,q,hd⟩
  ·exact ⟨o,keep c o (I.Rc x c e) hc nch ho (I.vL x c e),hd⟩
 refine ⟨I.ok,I.os,hg,⟨λb o e n hb hx=>?_,λb o e n hb hx=>?_,λb o e n hx=>?_,λb o e hx=>?_,λb xs e=>Ar b xs (I.base.Ar b xs e),λb o xs e=>Ci b o xs (I.base.Ci b o xs e),λb ps e=>?_⟩,?_,λx c e=>?_,?_,λx c e=>?_,λp hp=>?_,dz,I.len⟩
 ·exact keep b o (neL b o e) hb (neC b o e hx) (I.base.keep b o e n hb hx) (I.base.free b o e n hx)
 ·obtain ⟨sl,e1⟩:=I.base.slot b o e n hb hx
  obtain ⟨sl',e2⟩:=slot b _ (neL b o e) hb (neC b o e hx) e1 (I.base.free b o e n hx)
  exact ⟨sl',e2⟩
 ·obtain ⟨o',e1⟩:=I.base.there b o e hx
  exact free b o' (neC b o e hx) e1 (I.base.free b o e n hx)
 ·obtain ⟨o',e1⟩:=I.base.there b o e hx
  exact there b o' (neC b o e hx) e1
 ·obtain ⟨m1,e1⟩:=I.base.Hx b ps e
  obtain ⟨m2,e2⟩:=Hx b _ e1
  exact ⟨m1++m2,by rw [e2,Array.append_assoc]⟩
 ·obtain ⟨m,hn,hl⟩:=I.loc
  refine ⟨m,ns m hn,λi x v e1 e2 e3=>?_⟩
  obtain ⟨u,r,l⟩:=hl i x v e1 e2 e3
  refine ⟨u,r,?_⟩
  rcases l with l | ⟨k,c,e,z⟩
  ·exact .inl l
  ·exact .inr ⟨k,c,e,cellK x c e _ z⟩
 ·obtain ⟨v,z⟩:=I.cell x c e
  exact ⟨v,cellK x c e v z⟩
 ·obtain ⟨m,⟨o,_,_,ho,_⟩,_⟩:=I.loc
  exact free _ o (λz=>(hch _ z).2.1 rfl) ho I.free
 ·obtain ⟨v,o,ho,hd⟩:=I.cell x c e
  exact free c o (λz=>(hch c z).2.2.1 x c e rfl) ho (I.vL x c e)
 ·obtain ⟨e,n,ne,nf,d⟩:=I.pin p hp
  have nch:p.1 ∉ ch:=λz=>(hch p.1 z).2.2.2 p hp rfl
  exact ⟨keep p.1 p.2 ne nf nch e n,free p.1 p.2 nch e n,ne,nf,d⟩
theorem Inv.un {t':Nat} (I:Inv X pins σ H s) (u:Un X.fs [] H H' s.heap h') (dz:xE X.prog X.w H' h'):Inv X pins σ H' { s with heap:=h',toks:=t' }:=by
 obtain ⟨m,⟨o,es,ep,ho,r⟩,_⟩:=id I.loc
 obtain ⟨sl,hL⟩:=u.any ho I.free (by simp)
 exact I.step (g':=s.gens) (d':=s.drawn) (ch:=[]) (λ_ z=>nomatch z) (λb o _ hb _ e n=>u.keep b o e n hb (by simp)) (λb o _ hb _ e n=>u.slot b o e n hb (by simp)) (λb o _ e n=>u.free b o e n (by simp)) (λb o _ e=>u.there b o e (by simp)) u.Ar u.Ci u.Hx (λm' hm=>by
  obtain ⟨o',es',ep',ho',r'⟩:=hm
  rw [ho] at ho';cases ho'
  exact ⟨_,es',ep',hL,r'⟩) dz I.bare
theorem Inv.call {g':Array GenState} {t':Nat} {d':Drawn} {ch:List Addr} (I:Inv X pins σ H s) (u:Un (NT X.stack) ch H H' s.heap h') (dz:xE X.prog X.w H' h') (hg:AllBare g')
  (hch:∀ b∈ch,(b∈X.ex∨X.F6.heap.objs.size<=b)/\b≠X.env.locals/\(∀ x c,X.env.cells.lookup x=some c->c≠b)/\∀ p∈X.pn++pins,p.1≠b) :
  Inv X pins σ H' { s with heap:=h',gens:=g',drawn:=d',toks:=t' }:=by
 obtain ⟨m,⟨o,es,ep,ho,r⟩,_⟩:=id I.loc
 obtain ⟨sl,hL⟩:=u.any ho I.free λz=>(hch _ z).2.1 rfl
 exact I.step (ch:=ch) hch (λb o hL hb hc e n=>u.keep b o e n (λz=>(UL.mp (I.Kg b z)).elim hL hb) hc) (λb o _ _ hc e n=>u.any e n hc) (λb o hc e n=>u.free b o e n hc) (λb o hc e=>u.there b o e hc) u.Ar u.Ci u.Hx (λm' hm=>by
  obtain ⟨o',es',ep',ho',r'⟩:=hm
  rw [ho] at ho';cases ho'
  exact ⟨_,es',ep',hL,r'⟩) dz hg
theorem Inv.turned {t':Nat} {it:Addr} (I:Inv X pins σ H s) (k:∀ b o,b≠it->s.heap.get? b=some o->h'.get? b=some o) (hn:H it=none) (hL:it≠X.env.locals)
  (h1:it∈X.ex∨X.F6.heap.objs.size<=it) (h2:∀ x c,X.env.cells.lookup x=some c->c≠it) (h3:∀ p∈X.pn++pins,p.1≠it):Inv X pins σ H { s with heap:=h',toks:=t' }:=by
 have nit:∀ b u,H b=some u->b≠it:=λb u e z=>by rw [z,hn] at e;cases e
 refine I.step (g':=s.gens) (d':=s.drawn) (ch:=[it]) (λb hb=>?_) (λb o _ _ hc e _=>k b o (λz=>hc (by simp [z])) e) (λb o _ _ hc e _=>⟨o.slots,k b o (λz=>hc (by simp [z])) e⟩) (λ_ _ _ _ n=>n)
  (λb o hc e=>⟨o,k b o (λz=>hc (by simp [z])) e⟩) (λ_ _ e=>e) (λ_ _ _ e=>e) (λb ps e=>⟨#[],by rw [e];simp⟩) (λm hm=>?_) (λb u e=>?_) I.bare
 ·have e:b=it:=by simpa using hb
  subst e
  exact ⟨h1,hL,h2,h3⟩
 ·obtain ⟨o,es,ep,ho,r⟩:=hm
  exact ⟨o,es,ep,k _ o (Ne.symm hL) ho,r⟩
 ·refine (I.dz b u e).qr (λc v hc q=>k c v ?_ q) (λ_ q=>q) λ_ _ q=>q
  rcases hc with z | z
  ·rw [z];exact nit b u e
  ·exact nit c _ z
theorem Inv.tok (I:Inv X pins σ H s) (t:Nat):Inv X pins σ H { s with toks:=t }:=I.un (h':=s.heap) (t':=t) Un.refl I.dz
theorem Inv.kept {t':Nat} (I:Inv X pins σ H s) (k:∀ b u,s.heap.get? b=some u->h'.get? b=some u):Inv X pins σ H { s with heap:=h',toks:=t' }:=I.un (Un.kept k) (I.dz.kept k)
theorem Inv.laid {a:Addr} {o:HO} {t':Nat} (I:Inv X pins σ H s) (k:∀ b u,s.heap.get? b=some u->h'.get? b=some u) (hp:s.heap.objs.size<=a) (new:iH X.prog X.w (upd H a o) h' a o) :
  Inv X pins σ (upd H a o) { s with heap:=h',toks:=t' }:=I.un (Un.laid k hp (I.dz.fresh hp)) (I.dz.laid k hp new)
theorem Inv.write {x e:Addr} {o:HO} {t':Nat} (I:Inv X pins σ H s) (mu:Qc (H x)) (he:e=x∨H e=some (.own x)) (k:∀ b u,b≠e->s.heap.get? b=some u->h'.get? b=some u) (heo:∃ u,h'.get? e=some u)
  (new:iH X.prog X.w (upd H x o) h' x o):Inv X pins σ (upd H x o) { s with heap:=h',toks:=t' }:=I.un (Un.write mu he k heo) (I.dz.write mu he k heo new)
theorem Inv.weak {σ':List (Option V)} (I:Inv X pins σ H s) (hl:σ'.length=σ.length) (w:∀ (i:Nat) v,σ'[i]?=some (some v)->σ[i]?=some (some v)):Inv X pins σ' H s :=
 ⟨I.ok,I.os,I.bare,I.base,let ⟨m,hn,hl'⟩:=I.loc;⟨m,hn,λi x v e1 e2 e3=>hl' i x v e1 (w i v e2) e3⟩,I.cell,I.free,I.vL,I.pin,I.dz,hl.trans I.len⟩
theorem Inv.LC {pins':List (Addr × Obj)} (I:Inv X pins σ H s) (h:∀ p∈pins',s.heap.get? p.1=some p.2/\H p.1=none/\p.1≠X.env.locals/\p.1 ∉ X.fs/\∀ v,p.2.data≠.cell v):Inv X pins' σ H s :=
 ⟨I.ok,I.os,I.bare,I.base,I.loc,I.cell,I.free,I.vL,λp hp=>(VW.mp hp).elim (λz=>I.pin p (List.mem_append_left _ z)) (h p),I.dz,I.len⟩
theorem E7 {N:List Str} (hN:N.Nodup) {i j:Nat} {x:Str} (a:N[i]?=some x) (b:N[j]?=some x):i=j:=by
 obtain ⟨h1,e1⟩:=U5.mp a
 obtain ⟨h2,e2⟩:=U5.mp b
 exact (List.getElem_inj hN).mp (e1.trans e2.symm)
theorem Gm {M:Model} {A:Around} {E:Value->Shared->Prop} {i:Nat} {x:Str} {v:V} {u:Value} {Q:Unit->Shared->Prop} (I:Inv X pins σ H s) (hN:X.N.Nodup) (hi:X.N[i]?=some x) (hx:Loc X.env.scope x) (r:RelV v u)
  (h:∀ s',Inv X pins (σ.set i (some v)) H s'->(∃ a,Heap.SameBut a s.heap s'.heap/\(a=X.env.locals∨X.env.cells.lookup x=some a))->Q () s') (hf:X.fn x=true∨X.env.scope.names.lookup x=some .local:=by first | exact .inl rfl | exact .inr rfl | assumption):wpAny M A (storeName X.env x u) Q E s:=by
 obtain ⟨m,hn,hl⟩:=id I.loc
 have hcls:(X.env.scope.kind == .class || (X.env.scope.kind == .module&&X.env.locals != X.env.globals))=false:=by rw [I.ok.kind];rfl
 have hiσ:i < σ.length:=by rw [I.len];exact (U5.mp hi).1
 have Rc:=I.Rc
 have tracked:∀ {a:Addr} {h':Heap},(∃ o,s.heap.get? a=some o/\H a=none)->Heap.SameBut a s.heap h'->xE X.prog X.w H h':=λ{a h'} ha hs b ob e=>by
  obtain ⟨_,_,hfree⟩:=ha
  refine (I.dz b ob e).qr (λc w' hc q=>(hs.2 c ?_).trans q) (λ_ q=>q) λ_ _ q=>q
  rintro rfl
  rcases hc with rfl | hc
  ·rw [hfree] at e;cases e
  ·rw [hfree] at hc;cases hc
 rcases hx with hk | hk
 ·refine wpAny_storeName_local hk hn (λh' hn' hs=>?_) hcls
  obtain ⟨oL,_,_,hoL,_⟩:=id hn
  refine h _ ⟨I.ok,I.os,I.bare,⟨λb o e n hb hx=>?_,λb o e n hb hx=>?_,I.base.free,λb o e hx=>?_,I.base.Ar,I.base.Ci,I.base.Hx⟩,⟨_,hn',λj y v' e1 e2 e3=>?_⟩,λy c e=>?_,I.free,I.vL,λp hp=>?_,tracked ⟨oL,hoL,I.free⟩ hs,by simpa using I.len⟩ ⟨_,hs,.inl rfl⟩
  ·exact (hs.2 b (U7 (Vq (Heap.lt_size e) I.ok.above))).trans (I.base.keep b o e n hb hx)
  ·obtain ⟨sl,e1⟩:=I.base.slot b o e n hb hx
   exact ⟨sl,(hs.2 b (U7 (Vq (Heap.lt_size e) I.ok.above))).trans e1⟩
  ·obtain ⟨o',e1⟩:=I.base.there b o e hx
   exact ⟨o',(hs.2 b (U7 (Vq (Heap.lt_size e) I.ok.above))).trans e1⟩
  ·by_cases hj:j=i
   ·subst hj
    rw [hi] at e1;cases e1
    rw [VN hiσ] at e2
    cases e2
    exact ⟨u,r,.inl ⟨hk,by simp⟩⟩
   ·rw [Wk (Ne.symm hj)] at e2
    obtain ⟨u',r',q⟩:=hl j y v' e1 e2 e3
    refine ⟨u',r',?_⟩
    rcases q with ⟨k,e⟩ | ⟨k,c,e,z⟩
    ·refine .inl ⟨k,?_⟩
     have:y≠x:=λe=>hj (E7 hN e1 (e ▸ hi))
     simp [this,e]
    ·exact .inr ⟨k,c,e,z.sameBut hs (Rc y c e)⟩
  ·obtain ⟨w',z⟩:=I.cell y c e
   exact ⟨w',z.sameBut hs (Rc y c e)⟩
  ·obtain ⟨e,n,ne,nf,d⟩:=I.pin p hp
   exact ⟨(hs.2 p.1 ne).trans e,n,ne,nf,d⟩
 ·have hfn:X.fn x=true:=by
   rcases hf with z | z
   ·exact z
   ·rw [z] at hk;cases hk
  obtain ⟨c,hc⟩:=I.ok.has x (.inl hk)
  obtain ⟨w',z⟩:=I.cell x c hc
  refine wpAny_storeName_cell I.ok.kind hk hc z (λh' hc' hs=>?_)
  obtain ⟨oc,hoc,hocd⟩:=id z
  refine h { s with heap:=h' } ⟨I.ok,I.os,I.bare,⟨λb o e n hb hx=>?_,λb o e n hb hx=>?_,I.base.free,λb o e hx=>?_,I.base.Ar,I.base.Ci,I.base.Hx⟩,⟨m,hn.sameBut hs (Ne.symm (Rc x c hc)),λj y v' e1 e2 e3=>?_⟩,λy c' e=>?_,I.free,I.vL,λp hp=>?_,tracked ⟨oc,hoc,I.vL x c hc⟩ hs,by simpa using I.len⟩ ⟨c,hs,.inr hc⟩
  ·exact (hs.2 b (U7 (Vq (Heap.lt_size e) (I.ok.SK x c hfn hc)))).trans (I.base.keep b o e n hb hx)
  ·obtain ⟨sl,e1⟩:=I.base.slot b o e n hb hx
   exact ⟨sl,(hs.2 b (U7 (Vq (Heap.lt_size e) (I.ok.SK x c hfn hc)))).trans e1⟩
  ·obtain ⟨o',e1⟩:=I.base.there b o e hx
   exact ⟨o',(hs.2 b (U7 (Vq (Heap.lt_size e) (I.ok.SK x c hfn hc)))).trans e1⟩
  ·by_cases hj:j=i
   ·subst hj
    rw [hi] at e1;cases e1
    rw [VN hiσ] at e2
    cases e2
    exact ⟨u,r,.inr ⟨.inl hk,c,hc,hc'⟩⟩
   ·rw [Wk (Ne.symm hj)] at e2
    obtain ⟨u',r',q⟩:=hl j y v' e1 e2 e3
    refine ⟨u',r',?_⟩
    rcases q with q | ⟨k,c',e,z'⟩
    ·exact .inl q
    ·refine .inr ⟨k,c',e,z'.sameBut hs ?_⟩
     rintro rfl
     exact hj (E7 hN e1 (I.ok.inj _ _ _ e hc ▸ hi))
  ·by_cases hcc:c'=c
   ·subst hcc;exact ⟨_,hc'⟩
   ·obtain ⟨w2,z2⟩:=I.cell y c' e
    exact ⟨w2,z2.sameBut hs hcc⟩
  ·obtain ⟨e,n,ne,nf,d⟩:=I.pin p hp
   refine ⟨(hs.2 p.1 ?_).trans e,n,ne,nf,d⟩
   intro q
   rw [q,hoc] at e
   have q':oc=p.2:=Option.some.inj e
   exact d w' (by rw [<- q'];exact hocd)
theorem Jw {M:Model} {A:Around} {E:Value->Shared->Prop} {i:Nat} {x:Str} {v:V} {u:Value} {Q:Unit->Shared->Prop} (I:Inv X pins σ H s) (hN:X.N.Nodup) (hi:X.N[i]?=some x) (hx:Loc X.env.scope x) (r:RelV v u)
  (h:∀ s',Inv X pins (σ.set i (some v)) H s'->Q () s') (hf:X.fn x=true∨X.env.scope.names.lookup x=some .local:=by first | exact .inl rfl | exact .inr rfl | assumption):wpAny M A (storeName X.env x u) Q E s :=
 Gm I hN hi hx r (λs' I' _=>h s' I') hf
theorem Inv.SA {s':Shared} {ch:List Addr} (I:Inv X pins σ H s) (ho:s'.os=s.os) (u:Un (NT X.stack) ch H H' s.heap s'.heap) (dz:xE X.prog X.w H' s'.heap) (hg:AllBare s'.gens)
  (hch:∀ b∈ch,(b∈X.ex∨X.F6.heap.objs.size<=b)/\b≠X.env.locals/\(∀ x c,X.env.cells.lookup x=some c->c≠b)/\∀ p∈X.pn++pins,p.1≠b):Inv X pins σ H' s':=by
 obtain ⟨h',g',d',t',o'⟩:=s'
 have e:o'=s.os:=ho
 subst e
 exact I.call (g':=g') (t':=t') (d':=d') u dz hg hch
end
abbrev XK:=Value->Option Addr->Hp->Prop
abbrev St:=List (Option V)
abbrev VK:=V->Hp->Prop
abbrev TE:=St->Hp->VK->Prop
abbrev TT:=St->Hp->(Bool->Hp->Prop)->Prop
abbrev TA:=St->Hp->(List V->Hp->Prop)->Prop
structure Ends where
 nx:St->Hp->Prop
 rt:VK
 bk:St->Hp->Prop:=λ_ _=>False
 ct:St->Hp->Prop:=λ_ _=>False
abbrev TS:=Ends->St->Hp->Prop
def EP (X:Cx) (pins:List (Addr × Obj)) (σ:St) (Q:VK) (u:Value) (s':Shared):Prop:=∃ v H',Inv X pins σ H' s'/\RelV v u/\Q v H'
def TP (X:Cx) (pins:List (Addr × Obj)) (σ:St) (Q:Bool->Hp->Prop) (b:Bool) (s':Shared):Prop:=∃ H',Inv X pins σ H' s'/\Q b H'
def AP (X:Cx) (pins:List (Addr × Obj)) (σ:St) (Q:List V->Hp->Prop) (us:List Value) (s':Shared):Prop:=∃ vs H',Inv X pins σ H' s'/\Vals vs us/\Q vs H'
def SP (X:Cx) (pins:List (Addr × Obj)) (D:Ends) (f:Flow) (s':Shared):Prop :=
 match f with
 | .next=>∃ σ' H',Inv X pins σ' H' s'/\D.nx σ' H'
 | .brk=>∃ σ' H',Inv X pins σ' H' s'/\D.bk σ' H'
 | .cont=>∃ σ' H',Inv X pins σ' H' s'/\D.ct σ' H'
 | .ret u=>∃ v σ' H',Inv X pins σ' H' s'/\RelV v u/\D.rt v H'
def PE (X:Cx) (e:Expr) (t:TE):Prop :=
 ∀ (pins:List (Addr × Obj)) (s:Shared) (σ:St) (H:Hp) (Q:VK),Inv X pins σ H s->t σ H Q->wpAny (model X.prog X.w) X.A (eval e X.env) (EP X pins σ Q) X.xe s
def PT (X:Cx) (e:Expr) (t:TT):Prop :=
 ∀ (pins:List (Addr × Obj)) (s:Shared) (σ:St) (H:Hp) (Q:Bool->Hp->Prop),Inv X pins σ H s->t σ H Q->wpAny (model X.prog X.w) X.A (isTrue e X.env (eval e X.env)) (TP X pins σ Q) X.xe s
def PW (X:Cx) (e:Expr) (t:TT):Prop :=
 ∀ (whole:Sem Value) (pins:List (Addr × Obj)) (s:Shared) (σ:St) (H:Hp) (Q:Bool->Hp->Prop),Inv X pins σ H s->t σ H Q->wpAny (model X.prog X.w) X.A (isTrue e X.env whole) (TP X pins σ Q) X.xe s
theorem PW.pt {X:Cx} {e:Expr} {t:TT} (h:PW X e t):PT X e t:=h _
def PA (X:Cx) (es:List Expr) (t:TA):Prop :=
 ∀ (pos:Pos) (pins:List (Addr × Obj)) (s:Shared) (σ:St) (H:Hp) (Q:List V->Hp->Prop),Inv X pins σ H s->t σ H Q->wpAny (model X.prog X.w) X.A (spliced (backTo pos (starEach es X.env))) (AP X pins σ Q) X.xe s
def PS (X:Cx) (st:Stmt) (t:TS):Prop :=
 ∀ (pins:List (Addr × Obj)) (s:Shared) (σ:St) (H:Hp) (D:Ends),Inv X pins σ H s->t D σ H->wpAny (model X.prog X.w) X.A (exec st X.env) (SP X pins D) X.xe s
def MN (X:Cx) (st:List Stmt) (t:TS):Prop :=
 ∀ (pins:List (Addr × Obj)) (s:Shared) (σ:St) (H:Hp) (D:Ends),Inv X pins σ H s->t D σ H->wpAny (model X.prog X.w) X.A (execs st X.env) (SP X pins D) X.xe s
theorem dP {α:Type} {t:Sem α} {Q Q':α->Shared->Prop} {M:Model} {A:Around} {E:Value->Shared->Prop} {s:Shared} (h:wpAny M A t Q E s) (hQ:∀ a s,Q a s->Q' a s):wpAny M A t Q' E s:=wpAny_mono h hQ λ_ _ x=>x
end L2
namespace L2
open PySem PySem.Spec PyProof.Rows
section
variable {X:Cx}
def PH (i:Nat):TE:=λσ H Q=>∃ v,σ[i]?=some (some v)/\Q v H
def tC (v:V):TE:=λ_ H Q=>Q v H
theorem Nb {i:Nat} {x:Str} {pos:Pos} (hN:X.N[i]?=some x) (hv:RN X.env.scope x) (hd:(x == ("__debug__":Str))=false:=by decide) (hcd:(x == ("__classdict__":Str))=false:=by decide):PE X (.Name x pos) (PH i):=by
 intro pins s σ H Q I h
 obtain ⟨v,e,h⟩:=h
 obtain ⟨m,hn,hl⟩:=I.loc
 obtain ⟨u,r,l⟩:=hl i x v hN e hv
 have fin:EP X pins σ Q u s:=⟨v,H,I,r,h⟩
 rcases l with ⟨hk,hm⟩ | ⟨hk,c,hc,hcell⟩
 ·exact wpAny_Name (wpAny_loadName_local I.ok.kind hk hn hm fin) hd
 ·rcases hk with hk | hk
  ·exact wpAny_Name (wpAny_loadName_cell I.ok.kind hk hc hcell fin) hd
  ·exact wpAny_Name (wpAny_loadName_free I.ok.kind hk hc hcell fin hcd) hd
theorem ax {i j pos}:PE X (.Constant (.int i) j pos) (tC (.int i)):=λ_ _ _ H _ I h=>wpAny_Constant_int ⟨.int i,H,I.tok _,⟨_,rfl⟩,h⟩
theorem Fo {b j pos}:PE X (.Constant (.bool b) j pos) (tC (.bl b)):=λ_ _ _ H _ I h=>Constant_bool ⟨.bl b,H,I,rfl,h⟩
theorem ib {j pos}:PE X (.Constant .none j pos) (tC .dH):=λ_ _ _ H _ I h=>Constant_none ⟨.dH,H,I,rfl,h⟩
def Gl (X:Cx) (x:Str):Prop:=X.env.kindOf x=some .globalImplicit
theorem DC {E:Value->Shared->Prop} {pins:List (Addr × Obj)} {s:Shared} {σ:St} {H:Hp} {x:Str} {u:Value} {pos:Pos} {Q:Value->Shared->Prop} (I:Inv X pins σ H s) (hg:Gl X x) (hm:X.mg x=some u) (h:Q u s)
  (hd:(x == ("__debug__":Str))=false:=by decide):wpAny (model X.prog X.w) X.A (eval (.Name x pos) X.env) Q E s :=
 Calls.Name_function_global I.ok.kind hg (Calls.loadGlobal_global (by rw [I.ok.glob];exact I.mod.glob.keeps I.bk) hm h) hd
theorem HC {E:Value->Shared->Prop} {pins:List (Addr × Obj)} {s:Shared} {σ:St} {H:Hp} {x:Str} {u:Value} {pos:Pos} {Q:Value->Shared->Prop} (I:Inv X pins σ H s) (hg:Gl X x) (hm:X.mg x=none) (hv:bootBuiltins x=some u) (h:Q u s)
  (hn:x≠"__name__":=by decide) (hd:(x == ("__debug__":Str))=false:=by decide):wpAny (model X.prog X.w) X.A (eval (.Name x pos) X.env) Q E s:=by
 obtain ⟨mb,h1,h2⟩:=I.mod.blt
 exact Calls.Name_function_global I.ok.kind hg (Calls.loadGlobal_builtin (by rw [I.ok.glob];exact I.mod.glob.keeps I.bk) hm (by rw [I.ok.blt];exact h1.keeps I.bk) ((h2 x hn).trans hv) h) hd
theorem AW {x:Str} {v:V} {u:Value} {pos:Pos} (hg:Gl X x) (hm:X.mg x=some u) (r:RelV v u) (hd:(x == ("__debug__":Str))=false:=by decide):PE X (.Name x pos) (tC v) :=
 λ_ _ _ H _ I h=>DC I hg hm ⟨v,H,I,r,h⟩ hd
variable {a b:Expr} {ta tb:TE} {pos:Pos}
def PC (X:Cx) (op:CmpOp) (a b:Expr) (t:TE):Prop :=
 ∀ (pins:List (Addr × Obj)) (s:Shared) (σ:St) (H:Hp) (Q:VK),Inv X pins σ H s->t σ H Q ->
  wpAny (model X.prog X.w) X.A (eval a X.env) (λv s₁=>wpAny (model X.prog X.w) X.A (eval b X.env) (λu s₂=>wpAny (model X.prog X.w) X.A (compareOp op v u) (EP X pins σ Q) X.xe s₂) X.xe s₁) X.xe s
def tB (t:TE):TT:=λσ H Q=>t σ H λx H1=>∃ c,x=.bl c/\Q c H1
theorem D5 {op:CmpOp} {t:TE} (h:PC X op a b t) (h1:behindInMarks op b=false:=by first | exact nobehind _ (by decide) (by decide) | rfl):PT X (.Compare a [op] [b] pos) (tB t):=by
 intro pins s σ H Q I hw
 refine wpAny_isTrue_Compare1 (dP (h pins s σ H _ I hw) λv s1 h1=>dP h1 λu s2 h2=>dP h2 λc s3 ⟨x,H1,I1,r1,q1⟩=>?_) h1
 obtain ⟨d,rfl,q⟩:=q1
 cases r1
 exact wpAny_truthy_bool ⟨H1,I1,q⟩
theorem bJ {e:Expr} {t:TE} (h:PE X e t) (he:∀ whole,isTrue e X.env whole=(do let v <- whole;standAt e.pos;holding [v] (truthy v)):=by intro _;rfl):PT X e (tB t):=by
 intro pins s σ H Q I hw
 refine isTrue_plain (dP (h pins s σ H _ I hw) λv s1 ⟨x,H1,I1,r1,q1⟩=>?_) (he _)
 obtain ⟨d,rfl,q⟩:=q1
 cases r1
 exact wpAny_truthy_bool ⟨H1,I1,q⟩
variable {tA tB':TT} {rest:List Expr}
def TZ (t u:TT):TT:=λσ H Q=>t σ H λc H1=>if c=true then u σ H1 Q else Q false H1
def Uu (t u:TT):TT:=λσ H Q=>t σ H λc H1=>if c=true then Q true H1 else u σ H1 Q
def SD (t:TT):TT:=λσ H Q=>t σ H λc H1=>Q (!c) H1
theorem zf (ha:PT X a tA):PW X (.BoolOp .And [a] pos) tA:=by
 intro wh pins s σ H Q I h
 refine isTrue_and (dP (ha pins s σ H Q I h) λc s1 e=>?_)
 cases c with
 | true=>exact isTrue_and_nil e
 | false=>exact e
theorem BM (ha:PT X a tA):PW X (.BoolOp .Or [a] pos) tA:=by
 intro wh pins s σ H Q I h
 refine isTrue_or (dP (ha pins s σ H Q I h) λc s1 e=>?_)
 cases c with
 | false=>exact isTrue_or_nil e
 | true=>exact e
theorem ya (ha:PT X a tA) (hb:PW X (.BoolOp .And (b::rest) pos) tB'):PW X (.BoolOp .And (a::b::rest) pos) (TZ tA tB'):=by
 intro wh pins s σ H Q I h
 refine isTrue_and (dP (ha pins s σ H _ I h) λc s1 ⟨H1,I1,q1⟩=>?_)
 cases c with
 | true=>exact hb wh pins s1 σ H1 Q I1 q1
 | false=>exact ⟨H1,I1,q1⟩
theorem Gz (ha:PT X a tA) (hb:PW X (.BoolOp .Or (b::rest) pos) tB'):PW X (.BoolOp .Or (a::b::rest) pos) (Uu tA tB'):=by
 intro wh pins s σ H Q I h
 refine isTrue_or (dP (ha pins s σ H _ I h) λc s1 ⟨H1,I1,q1⟩=>?_)
 cases c with
 | true=>exact ⟨H1,I1,q1⟩
 | false=>exact hb wh pins s1 σ H1 Q I1 q1
theorem ie (ha:PT X a tA):PT X (.UnaryOp .Not a pos) (SD tA):=by
 intro pins s σ H Q I h
 exact isTrue_not (ha pins s σ H (λc H1=>Q (!c) H1) I h)
def Ss (ta tb:TE):TE:=λσ H Q=>ta σ H λx H1=>∃ c,x=.bl c/\if c=true then tb σ H1 Q else Q (.bl false) H1
theorem BK {op} {t:TE} (h:PE X a t):PE X (.BoolOp op [a] pos) t:=λpins s σ H Q I hw=>BoolOp_one (h pins s σ H Q I hw)
theorem BV (ha:PE X a ta) (hb:PE X (.BoolOp .And (b::rest) pos) tb):PE X (.BoolOp .And (a::b::rest) pos) (Ss ta tb):=by
 intro pins s σ H Q I h
 refine BoolOp_and (dP (ha pins s σ H _ I h) λv s1 ⟨x,H1,I1,r1,q1⟩=>?_)
 obtain ⟨c,rfl,q1⟩:=q1
 cases r1
 refine wpAny_truthy_bool ?_
 cases c with
 | true=>exact hb pins s1 σ H1 Q I1 q1
 | false=>exact ⟨.bl false,H1,I1,rfl,q1⟩
def Ul (t:TT) (ta tb:TE):TE:=λσ H Q=>t σ H λc H1=>if c=true then ta σ H1 Q else tb σ H1 Q
theorem ox {c:Expr} (hc:PT X c tA) (ha:PE X a ta) (hb:PE X b tb):PE X (.IfExp c a b pos) (Ul tA ta tb):=by
 intro pins s σ H Q I h
 refine wpAny_IfExp (dP (hc pins s σ H _ I h) λd s1 ⟨H1,I1,q1⟩=>?_)
 cases d with
 | true=>exact ha pins s1 σ H1 Q I1 q1
 | false=>exact hb pins s1 σ H1 Q I1 q1
end
end L2
namespace L2
open PySem PySem.Spec PyProof.Rows
def bf (K:Uy) (H:Hp) (a:Addr) (xs:List V):Prop :=
 Rd H a (.lst xs) ∨
  ∃ (o:Obj) (its:Array Value) (n:Nat),K.lookup a=some o/\o.cls=.type "list"/\o.dict=none/\o.data=.seq its n/\its.size<=sizeLine/\Vals xs its.toList
def gc (K:Uy) (H:Hp) (a:Addr) (xs:List V):Prop :=
 Rd H a (.tup xs) ∨
  ∃ (o:Obj) (its:Array Value) (n:Nat),K.lookup a=some o/\o.cls=.type "tuple"/\o.data=.seq its n/\its.size<=sizeLine/\Vals xs its.toList
def T3:Value->Option V
 | .none=>some .dH
 | .bool b=>some (.bl b)
 | .int i _=>some (.int i)
 | .str x _=>some (.str x)
 | .bytes b _=>some (.Im b)
 | .float b _=>some (.Te b)
 | .ref a=>some (.ref a)
 | .type n=>some (.ty n)
 | _=>none
theorem RelV.abs {x:V} {u:Value} (r:RelV x u):T3 u=some x:=by
 cases x with
 | dH=>cases r;rfl
 | bl _=>cases r;rfl
 | int _=>obtain ⟨t,rfl⟩:=r;rfl
 | str _=>obtain ⟨t,rfl⟩:=r;rfl
 | Im _=>obtain ⟨t,rfl⟩:=r;rfl
 | Te _=>obtain ⟨t,rfl⟩:=r;rfl
 | ref _=>cases r;rfl
 | ty _=>cases r;rfl
theorem RelV.inj {x y:V} {u:Value} (r:RelV x u) (q:RelV y u):x=y:=Option.some.inj (r.abs.symm.trans q.abs)
theorem Vals.inj:∀ {xs ys:List V} {us:List Value},Vals xs us->Vals ys us->xs=ys
 | _,_,_,.nil,.nil=>rfl
 | _,_,_,.cons r t,.cons r' t'=>by rw [r.inj r',Vals.inj t t']
section
variable {X:Cx} {pins:List (Addr × Obj)} {σ:St} {H:Hp} {s:Shared} {a:Addr} {xs ys:List V}
theorem bf.of {K:Uy} (h:H a=some (.lst xs)):bf K H a xs:=.inl (.inl h)
theorem gc.of {K:Uy} (h:H a=some (.tup xs)):gc K H a xs:=.inl (.inl h)
theorem Inv.list (I:Inv X pins σ H s) (h:bf X.K H a xs):∃ its:List Value,Vals xs its/\PlainL s.heap a its.toArray/\xs.length<=sizeLine:=by
 rcases h with h | ⟨o,its,n,hk,hc,hd,hs,hz,r⟩
 ·obtain ⟨z,its,n,r,e⟩:=h.ok I.dz
  exact ⟨its,r,⟨_,n,e,rfl,rfl,rfl⟩,z⟩
 ·refine ⟨its.toList,r,⟨o,n,I.Jy a o hk,hc,hd,by simpa using hs⟩,?_⟩
  have e:=r.length
  simp only [Array.length_toList] at e
  omega
theorem Inv.tuple (I:Inv X pins σ H s) (h:gc X.K H a xs):∃ its:List Value,Vals xs its/\IsTup s.heap a its.toArray/\xs.length<=sizeLine:=by
 rcases h with h | ⟨o,its,n,hk,hc,hs,hz,r⟩
 ·obtain ⟨z,its,r,p⟩:=h.ok I.dz
  exact ⟨its,r,p,z⟩
 ·refine ⟨its.toList,r,⟨o,I.Jy a o hk,hc,n,by simpa using hs⟩,?_⟩
  have e:=r.length
  simp only [Array.length_toList] at e
  omega
theorem Inv.Oj (I:Inv X pins σ H s) (h:bf X.K H a xs) (h':bf X.K H a ys):xs=ys:=by
 obtain ⟨its,r,⟨o,n,e,_,_,d⟩,_⟩:=I.list h
 obtain ⟨its',r',⟨o',n',e',_,_,d'⟩,_⟩:=I.list h'
 rw [e] at e';cases e'
 rw [d] at d'
 injection d' with d1 _
 have:its=its':=by simpa using congrArg Array.toList d1
 subst this
 exact r.inj r'
theorem Inv.Mf (I:Inv X pins σ H s) (h:gc X.K H a xs) (h':gc X.K H a ys):xs=ys:=by
 obtain ⟨its,r,⟨o,e,_,n,d⟩,_⟩:=I.tuple h
 obtain ⟨its',r',⟨o',e',_,n',d'⟩,_⟩:=I.tuple h'
 rw [e] at e';cases e'
 rw [d] at d'
 injection d' with d1 _
 have:its=its':=by simpa using congrArg Array.toList d1
 subst this
 exact r.inj r'
end
abbrev Cx.FO (X:Cx) (E:Value->Shared->Prop):Cx:={ X with xe:=E }
abbrev Cx.Tc (X:Cx):Cx:=X.FO λ_ _=>False
theorem Cx.Ok.FO {X:Cx} (ok:X.Ok) (E:Value->Shared->Prop):(X.FO E).Ok :=
 ⟨ok.mod,ok.kind,ok.glob,ok.blt,ok.above,ok.inj,ok.has,ok.SK,ok.hd,ok.frames,ok.Tg,ok.Td,ok.bs,ok.Pf,ok.Om,ok.OE,ok.Dv,ok.Q8⟩
theorem Cx.Ok.yH {X:Cx} {E:Value->Shared->Prop} (ok:(X.FO E).Ok):X.Ok :=
 ⟨ok.mod,ok.kind,ok.glob,ok.blt,ok.above,ok.inj,ok.has,ok.SK,ok.hd,ok.frames,ok.Tg,ok.Td,ok.bs,ok.Pf,ok.Om,ok.OE,ok.Dv,ok.Q8⟩
section
variable {X:Cx} {pins:List (Addr × Obj)} {σ:St} {H:Hp} {s:Shared} {E:Value->Shared->Prop}
theorem Inv.FO (I:Inv X pins σ H s) (E:Value->Shared->Prop):Inv (X.FO E) pins σ H s:=⟨I.ok.FO E,I.os,I.bare,I.base,I.loc,I.cell,I.free,I.vL,I.pin,I.dz,I.len⟩
theorem Inv.yH (I:Inv (X.FO E) pins σ H s):Inv X pins σ H s:=⟨I.ok.yH,I.os,I.bare,I.base,I.loc,I.cell,I.free,I.vL,I.pin,I.dz,I.len⟩
theorem SP.yH {D:Ends} {f:Flow} {s':Shared} (h:SP (X.FO E) pins D f s'):SP X pins D f s':=by
 cases f with
 | next=>obtain ⟨σ',H',I,q⟩:=h;exact ⟨σ',H',I.yH,q⟩
 | brk=>obtain ⟨σ',H',I,q⟩:=h;exact ⟨σ',H',I.yH,q⟩
 | cont=>obtain ⟨σ',H',I,q⟩:=h;exact ⟨σ',H',I.yH,q⟩
 | ret u=>obtain ⟨v,σ',H',I,r,q⟩:=h;exact ⟨v,σ',H',I.yH,r,q⟩
theorem MN.Tc {st:List Stmt} {t:TS} (h:MN X.Tc st t):MN X st t:=λpins s σ H D I hw =>
 wpAny_mono (h pins s σ H D (I.FO _) hw) (λ_ _ q=>q.yH) λ_ _ z=>False.elim z
end
section
variable {X:Cx} {st:Stmt} {rest:List Stmt} {t u:TS} {e:Expr} {te:TE} {pos:Pos}
def Qj:TS:=λD σ H=>D.nx σ H
def TU (t u:TS):TS:=λD σ H=>t { D with nx:=u D } σ H
theorem aQ:MN X [] Qj:=λ_ _ σ H _ I h=>wpAny_execs_nil ⟨σ,H,I,h⟩
theorem ah (h1:PS X st t) (h2:MN X rest u):MN X (st::rest) (TU t u):=by
 intro pins s σ H D I h
 refine wpAny_execs_cons (dP (h1 pins s σ H { D with nx:=u D } I h) λf s1 q=>?_)
 cases f with
 | next =>
  obtain ⟨σ',H',I',q⟩:=q
  exact h2 pins s1 σ' H' D I' q
 | ret v=>exact q
 | brk=>exact q
 | cont=>exact q
theorem ao (h1:PS X st t):MN X [st] t:=by
 intro pins s σ H D I h
 refine wpAny_execs_cons (dP (h1 pins s σ H D I h) λf s1 q=>?_)
 cases f with
 | next=>exact wpAny_execs_nil q
 | ret v=>exact q
 | brk=>exact q
 | cont=>exact q
theorem Inv.quiet {pins:List (Addr × Obj)} {σ:St} {H:Hp} {s:Shared} (I:Inv X pins σ H s):interactive X.env=false:=by simp [interactive,I.ok.kind]
def P7 (te:TE):TS:=λD σ H=>te σ H λ_ H1=>D.nx σ H1
theorem bU (he:PE X e te) (hs:swapsWith e none pos.line X.env=pure false:=by rfl):PS X (.Expr e pos) (P7 te):=by
 intro pins s σ H D I h
 exact wpAny_Expr_any (dP (he pins s σ H _ I h) λv s1 ⟨x,H1,I1,r1,q1⟩=>⟨σ,H1,I1,q1⟩) I.quiet hs
def TF (te:TE):TS:=λD σ H=>te σ H D.rt
theorem aE (he:PE X e te):PS X (.Return (some e) pos) (TF te):=by
 intro pins s σ H D I h
 exact wpAny_Return_some (dP (he pins s σ H _ I h) λv s1 ⟨x,H1,I1,r1,q1⟩=>⟨x,σ,H1,I1,r1,q1⟩)
def SF:TS:=λD _ H=>D.rt .dH H
theorem GQ:PS X (.Return none pos) SF:=λ_ _ σ H _ I h=>wpAny_Return_none ⟨.dH,σ,H,I,rfl,h⟩
def SJ (c:TT) (t u:TS):TS:=λD σ H=>c σ H λb H1=>if b=true then t D σ H1 else u D σ H1
theorem bj {c:Expr} {a b:List Stmt} {tc:TT} (hc:PT X c tc) (ha:MN X a t) (hb:MN X b u):PS X (.If c a b pos) (SJ tc t u):=by
 intro pins s σ H D I h
 refine wpAny_If (dP (hc pins s σ H _ I h) λd s1 ⟨H1,I1,q1⟩=>?_)
 cases d with
 | true=>exact ha pins s1 σ H1 D I1 q1
 | false=>exact hb pins s1 σ H1 D I1 q1
end
abbrev TG:=V->St->Hp->(St->Hp->Prop)->Prop
def PG (X:Cx) (target:Expr) (t:TG):Prop :=
 ∀ (pins:List (Addr × Obj)) (s:Shared) (σ:St) (H:Hp) (v:V) (u:Value) (Q:St->Hp->Prop),Inv X pins σ H s->RelV v u->t v σ H Q ->
  wpAny (model X.prog X.w) X.A (assign target X.env u) (λ_ s'=>∃ σ' H',Inv X pins σ' H' s'/\Q σ' H') X.xe s
abbrev Q6:=V->V->V->Hp->(Hp->Prop)->Prop
def RS (X:Cx) (t:Q6):Prop :=
 ∀ (pins:List (Addr × Obj)) (s:Shared) (σ:St) (H:Hp) (o i v:V) (ov iv u:Value) (Q:Hp->Prop),Inv X pins σ H s->RelV o ov->RelV i iv->RelV v u->t o i v H Q ->
  wpAny (model X.prog X.w) X.A (setItem ov iv u) (λ_ s'=>∃ H',Inv X pins σ H' s'/\Q H') X.xe s
section
variable {X:Cx} {pos:Pos}
def KJ (i:Nat):TG:=λv σ H Q=>Q (σ.set i (some v)) H
theorem fq {i:Nat} {x:Str} (hN:X.N.Nodup) (hi:X.N[i]?=some x) (hx:Loc X.env.scope x) (hf:X.fn x=true∨X.env.scope.names.lookup x=some .local:=by first | exact .inl rfl | exact .inr rfl | assumption):PG X (.Name x pos) (KJ i):=by
 intro pins s σ H v u Q I r h
 exact wpAny_assign_Name (Jw I hN hi hx r (λs' I'=>⟨_,H,I',h⟩) hf)
def Tr (to ti:TE) (t:Q6):TG:=λv σ H Q=>to σ H λo H1=>ti σ H1 λi H2=>t o i v H2 λH3=>Q σ H3
theorem JT {o i:Expr} {to ti:TE} {t:Q6} (ho:PE X o to) (hi:PE X i ti) (hs:RS X t)
  (ha:∀ v,assign (.Subscript o i pos) X.env v=(do
   let ov <- holding [v] (eval o X.env)
   let iv <- holding [v,ov] (eval i X.env)
   standAt pos
   holding [v,ov,iv] (setItem ov iv v)
   release [v,ov,iv] []):=by intro _;rfl):PG X (.Subscript o i pos) (Tr to ti t):=by
 intro pins s σ H v u Q I r h
 rw [ha]
 refine wpAny_bind (wpAny_holding (dP (ho pins s σ H _ I h) λov s1 ⟨x,H1,I1,r1,q1⟩=>?_))
 refine wpAny_bind (wpAny_holding (dP (hi pins s1 σ H1 _ I1 q1) λiv s2 ⟨y,H2,I2,r2,q2⟩=>?_))
 refine wpAny_bind (wpAny_standAt (wpAny_bind (wpAny_holding (dP (hs pins s2 σ H2 x y v ov iv u _ I2 r1 r2 r q2) λ_ s3 ⟨H3,I3,q3⟩=>?_))))
 exact wpAny_release ⟨σ,H3,I3,q3⟩
def QS (te:TE) (g:TG):TS:=λD σ H=>te σ H λx H1=>g x σ H1 D.nx
theorem Kn {tg e:Expr} {te:TE} {g:TG} (he:PE X e te) (hg:PG X tg g) (hs:swapsWithSole [tg] e pos.line X.env=pure false:=by rfl) (hw:swappedStores [tg] e X.env=pure none:=by rfl)
  (h1:(assignEach [tg] X.env).map (·.2)=[assign tg X.env]:=by rfl):PS X (.Assign [tg] e pos) (QS te g):=by
 intro pins s σ H D I h
 refine wpAny_Assign_stores (dP (he pins s σ H _ I h) λv s1 ⟨x,H1,I1,r1,q1⟩=>?_) hs hw
 rw [h1]
 exact dP (hg pins s1 σ H1 x v _ I1 r1 q1) λ_ s2 q=>q
theorem aP {i:Nat} {x:Str} {e:Expr} {te:TE} {pos':Pos} (hN:X.N.Nodup) (hi:X.N[i]?=some x) (hx:Loc X.env.scope x) (he:PE X e te) (hs:swapsWith e (some (.Name x pos')) pos.line X.env=pure false:=by rfl) (hf:X.fn x=true∨X.env.scope.names.lookup x=some .local:=by first | exact .inl rfl | exact .inr rfl | assumption) :
  PS X (.Assign [.Name x pos'] e pos) (QS te (KJ i)):=by
 intro pins s σ H D I h
 refine wpAny_Assign_Name (dP (he pins s σ H _ I h) λv s1 ⟨y,H1,I1,r1,q1⟩=>?_) hs
 exact Jw I1 hN hi hx r1 (λs2 I2=>⟨_,H1,I2,q1⟩) hf
end
section
variable {X:Cx} {pos:Pos}
def Nr (c:TT) (tb:TS):TS:=λD σ H=>∃ W:Nat->St->Hp->Prop,(∃ m,W m σ H)/\∀ m σ H,W m σ H ->
 c σ H λb H1=>if b=true then ∃ N:St->Hp->Prop,(∀ σ' H',N σ' H'->∃ m',m' < m/\W m' σ' H')/\tb { D with nx:=N,ct:=N,bk:=D.nx } σ H1 else D.nx σ H1
theorem EJ {c:Expr} {body:List Stmt} {tc:TT} {tb:TS} (hp:PassesOwn (model X.prog X.w) X.A X.env X.xe) (hc:PT X c tc) (hb:MN X body tb):PS X (.While c body [] pos) (Nr tc tb):=by
 intro pins s σ H D I h
 obtain ⟨W,⟨m0,w0⟩,turn⟩:=h
 refine wpAny_While (codeAny_whileLoop (λn s'=>∃ σ' H',Inv X pins σ' H' s'/\W n σ' H') ?_ m0 ⟨σ,H,I,w0⟩)
 rintro n s1 ⟨σ1,H1,I1,w1⟩
 refine wpAny_passesOwn hp (dP (hc pins s1 σ1 H1 _ I1 (turn n σ1 H1 w1)) λb s2 ⟨H2,I2,q2⟩=>?_)
 cases b with
 | true =>
  obtain ⟨N,hN,q2⟩:=q2
  rw [if_pos rfl]
  refine wpAny_passesOwn hp (dP (hb pins s2 σ1 H2 _ I2 q2) λf s3 q3=>?_)
  cases f with
  | next =>
   obtain ⟨σ3,H3,I3,n3⟩:=q3
   obtain ⟨m',hm,w3⟩:=hN σ3 H3 n3
   exact ⟨m',hm,σ3,H3,I3,w3⟩
  | cont =>
   obtain ⟨σ3,H3,I3,n3⟩:=q3
   obtain ⟨m',hm,w3⟩:=hN σ3 H3 n3
   exact ⟨m',hm,σ3,H3,I3,w3⟩
  | brk=>exact q3
  | ret v=>exact q3
 | false =>
  rw [if_neg U3]
  exact wpAny_execs_nil ⟨σ1,H2,I2,q2⟩
end
structure It where
 go:Nat->Hp->Prop
 O5:Nat->Hp->V->Hp->Prop
 stop:Nat->Hp->Prop
def Fy (X:Cx) (pins:List (Addr × Obj)) (H:Hp) (b:Addr):Prop :=
 H b=none/\b≠X.env.locals/\b ∉ X.fs/\(b∈X.ex∨X.F6.heap.objs.size<=b)/\(∀ x c,X.env.cells.lookup x=some c->c≠b)/\∀ p∈X.pn++pins,p.1≠b
theorem Inv.OW {X:Cx} {pins:List (Addr × Obj)} {σ:St} {H H':Hp} {s:Shared} {b:Addr} (I:Inv X pins σ H s) (hb:s.heap.objs.size<=b) (hn:H' b=none):Fy X pins H' b:=by
 refine ⟨hn,Nat.ne_of_gt (Vq I.lt hb),I.TJ hb,.inr (US I.sz hb),λx c e z=>?_,λp hp z=>?_⟩
 ·obtain ⟨v,q⟩:=I.cell x c e
  exact absurd (Vq q.lt (by rw [z];exact hb)) (Vz _)
 ·exact absurd (Vq (Heap.lt_size (I.pin p hp).1) (by rw [z];exact hb)) (Vz _)
structure Turn (P:Program) (w:World) (K:Uy) (tg:Expr) (J:It) (fp:List Addr) (it:Addr) (tn:Nat->Heap->Prop):Prop where
 mem:it∈fp
 obj:∀ i h,tn i h->∀ b∈fp,∃ o,h.get? b=some o/\∀ v,o.data≠.cell v
 keep:∀ i h h',tn i h->(∀ b∈fp,∀ o,h.get? b=some o->h'.get? b=some o)->tn i h'
 item:∀ (X:Cx),X.prog=P->X.w=w->X.K=K->X.calm=true->∀ (i:Nat) (pins:List (Addr × Obj)) (s:Shared) (σ:St) (H:Hp) (E:Value->Shared->Prop),Inv X pins σ H s->(∀ b∈fp,Fy X pins H b)->tn i s.heap->J.go i H ->
  wpAny (model P w) X.A (pyNext (.ref it)) (λr s1=>∃ u,r=some u /\
   wpAny (model P w) X.A (letOwnedTupleGo tg (.ref it) u) (λ_ s2=>∃ x H',Inv X pins σ H' s2/\RelV x u/\J.O5 i H x H'/\tn (i+1) s2.heap/\∀ b∈fp,H' b=none) E s1) E s
 done:∀ (X:Cx),X.prog=P->X.w=w->X.K=K->X.calm=true->∀ (i:Nat) (pins:List (Addr × Obj)) (s:Shared) (σ:St) (H:Hp) (E:Value->Shared->Prop),Inv X pins σ H s->(∀ b∈fp,Fy X pins H b)->tn i s.heap->J.stop i H ->
  wpAny (model P w) X.A (pyNext (.ref it)) (λr s1=>r=none/\Inv X pins σ H s1) E s
 self:∀ (A:Around) (i:Nat) (s:Shared) (Q:Value->Shared->Prop) (E:Value->Shared->Prop),tn i s.heap->Q (.ref it) s->wpAny (model P w) A (pyIter (.ref it)) Q E s
abbrev TI:=St->Hp->(It->Hp->Prop)->Prop
def Th (X:Cx) (pins:List (Addr × Obj)) (σ:St) (tg:Expr) (R:It->Hp->Prop) (itv:Value) (s2:Shared):Prop :=
 ∃ (it:Addr) (fp:List Addr) (tn:Nat->Heap->Prop) (J:It) (H':Hp),itv=.ref it/\Inv X pins σ H' s2/\Turn X.prog X.w X.K tg J fp it tn/\tn 0 s2.heap/\(∀ b∈fp,Fy X pins H' b)/\R J H'
def PI (X:Cx) (tg iter:Expr) (wi:TI):Prop :=
 ∀ (pins:List (Addr × Obj)) (s:Shared) (σ:St) (H:Hp) (R:It->Hp->Prop),Inv X pins σ H s->wi σ H R ->
  wpAny (model X.prog X.w) X.A (eval iter X.env) (λv s1=>wpAny (model X.prog X.w) X.A (pyIter v) (Th X pins σ tg R) X.xe s1) X.xe s
theorem JH {M:Model} {A:Around} {E:Value->Shared->Prop} {s:Shared} {tg:Expr} {it:Addr} {u:Value} {o:Obj} {n:String} {vs:Array Value} {Q:Unit->Shared->Prop} (ho:s.heap.get? it=some o) (hc:o.cls=.type n) (hd:o.data=.fields vs)
    (hn:["enumerate","zip","dict_itemiterator","dict_reverseitemiterator","odict_iterator","itertools.zip_longest","itertools.pairwise"].contains n=false) (hQ:Q () s):wpAny M A (letOwnedTupleGo tg (.ref it) u) Q E s:=by
  unfold letOwnedTupleGo
  cases tg<;>first
    | exact wpAny_pure hQ
    | (cases u<;>first
        | exact wpAny_pure hQ
        | (refine wpAny_bind (wpAny_load ho ?_)
           rw [hc,hd]
           show wpAny M A (if (["enumerate","zip","dict_itemiterator","dict_reverseitemiterator","odict_iterator","itertools.zip_longest","itertools.pairwise"].contains n&&vs[0]? == some (rawInt _))=true then _ else _) Q E s
           rw [if_neg (by intro h;rw [hn,V7] at h;cases h)]
           exact wpAny_pure hQ))
def P5 (K:Uy) (a:Addr):It :=
 ⟨λi H=>∃ xs x,bf K H a xs/\xs[i]?=some x,λi H x H'=>H'=H/\∀ xs,bf K H a xs->xs[i]?=some x,λi H=>∃ xs,bf K H a xs/\xs.length<=i⟩
def RR (K:Uy) (a:Addr):It :=
 ⟨λi H=>∃ xs x,gc K H a xs/\xs[i]?=some x,λi H x H'=>H'=H/\∀ xs,gc K H a xs->xs[i]?=some x,λi H=>∃ xs,gc K H a xs/\xs.length<=i⟩
def Pj (lo:Int) (n:Nat):It:=⟨λi _=>i < n,λi H x H'=>H'=H/\x=.int (lo+i),λi _=>n<=i⟩
theorem M3 {P:Program} {w:World} {K:Uy} {tg:Expr} (a it:Addr):Turn P w K tg (P5 K a) [it] it (λi h=>h.IsListIter it a i) where
 mem:=by simp
 obj:=λi h st b hb=>by
  have e:b=it:=by simpa using hb
  subst e
  obtain ⟨o,e,c,d⟩:=st
  exact ⟨o,e,λv z=>by rw [d] at z;cases z⟩
 keep:=λi h h' st k=>st.at λo e=>k it (by simp) o e
 item:=by
  intro X hP hw hK hc i pins s σ H E I hf st hg
  subst hP hw hK
  obtain ⟨xs,x,hq,hx⟩:=hg
  obtain ⟨its,rv,p,hz⟩:=I.list hq
  obtain ⟨u,hu,ru⟩:=rv.get hx
  obtain ⟨f0,f1,f2,f3,f4,f5⟩:=hf it (by simp)
  refine wpAny_pyNext_list_item st p.isList (x:=u) (by simpa using hu) λh' st' sb=>?_
  have I1:Inv X pins σ H { s with heap:=h' }:=I.turned (t':=s.toks) (λb o hb e=>(sb.2 b hb).trans e) f0 f1 f3 f4 f5
  obtain ⟨o,e,c,d⟩:=id st'
  exact ⟨u,rfl,JH (s:={ s with heap:=h' }) e c d (by decide) ⟨x,H,I1,ru,⟨rfl,λys hy=>by rw [I.Oj hy hq];exact hx⟩,st',λb hb=>(hf b hb).1⟩⟩
 done:=by
  intro X hP hw hK hc i pins s σ H E I hf st hg
  subst hP hw hK
  obtain ⟨xs,hq,hx⟩:=hg
  obtain ⟨its,rv,p,hz⟩:=I.list hq
  obtain ⟨f0,f1,f2,f3,f4,f5⟩:=hf it (by simp)
  have hl:=rv.length
  exact wpAny_pyNext_list_end (I.ok.hd hc) st p.isList (by simp;omega) λh' eb=>⟨rfl,I.turned (t':=s.toks) (λb o hb e=>eb b o hb e) f0 f1 f3 f4 f5⟩
 self:=λ_ _ _ _ _ st h=>wpAny_pyIter_listiter st h
theorem Kr {P:Program} {w:World} {K:Uy} {tg:Expr} (a it:Addr):Turn P w K tg (RR K a) [it] it (λi h=>h.IsTupleIter it a i) where
 mem:=by simp
 obj:=λi h st b hb=>by
  have e:b=it:=by simpa using hb
  subst e
  obtain ⟨o,e,c,d⟩:=st
  exact ⟨o,e,λv z=>by rw [d] at z;cases z⟩
 keep:=λi h h' st k=>st.at λo e=>k it (by simp) o e
 item:=by
  intro X hP hw hK hc i pins s σ H E I hf st hg
  subst hP hw hK
  obtain ⟨xs,x,hq,hx⟩:=hg
  obtain ⟨its,rv,p,hz⟩:=I.tuple hq
  obtain ⟨u,hu,ru⟩:=rv.get hx
  obtain ⟨f0,f1,f2,f3,f4,f5⟩:=hf it (by simp)
  refine wpAny_pyNext_tuple_item st (show s.heap.IsTuple a its.toArray from p) (x:=u) (by simpa using hu) λh' st' sb=>?_
  have I1:Inv X pins σ H { s with heap:=h' }:=I.turned (t':=s.toks) (λb o hb e=>(sb.2 b hb).trans e) f0 f1 f3 f4 f5
  obtain ⟨o,e,c,d⟩:=id st'
  exact ⟨u,rfl,JH (s:={ s with heap:=h' }) e c d (by decide) ⟨x,H,I1,ru,⟨rfl,λys hy=>by rw [I.Mf hy hq];exact hx⟩,st',λb hb=>(hf b hb).1⟩⟩
 done:=by
  intro X hP hw hK hc i pins s σ H E I hf st hg
  subst hP hw hK
  obtain ⟨xs,hq,hx⟩:=hg
  obtain ⟨its,rv,p,hz⟩:=I.tuple hq
  obtain ⟨f0,f1,f2,f3,f4,f5⟩:=hf it (by simp)
  have hl:=rv.length
  exact wpAny_pyNext_tuple_end (I.ok.hd hc) st (show s.heap.IsTuple a its.toArray from p) (by simp;omega) λh' eb=>⟨rfl,I.turned (t':=s.toks) (λb o hb e=>eb b o hb e) f0 f1 f3 f4 f5⟩
 self:=λ_ _ _ _ _ st h=>wpAny_pyIter_tupleiter st h
theorem Ka {P:Program} {w:World} {K:Uy} {tg:Expr} (it:Addr) (lo:Int) (n:Nat):Turn P w K tg (Pj lo n) [it] it (λi h=>IsRangeIter h it (lo+(i:Nat) * 1) ((n:Int) - (i:Nat)) 1) where
 mem:=by simp
 obj:=λi h st b hb=>by
  have e:b=it:=by simpa using hb
  subst e
  exact ⟨_,st,λv z=>by
   have z':Data.fields _=Data.cell v:=z
   cases z'⟩
 keep:=λi h h' st k=>k it (by simp) _ st
 item:=by
  intro X hP hw hK hc i pins s σ H E I hf st hg
  subst hP hw hK
  obtain ⟨f0,f1,f2,f3,f4,f5⟩:=hf it (by simp)
  have W:=Walks.range (prog:=X.prog) (w:=X.w) (I.ok.hd hc) it lo 1 n
  refine W.item i s _ _ hg st λv h' tk hv st' kk=>?_
  obtain ⟨t,rfl⟩:=hv
  have I1:Inv X pins σ H { s with heap:=h',toks:=tk }:=I.turned (λb o hb e=>kk b o (by simpa using hb) e) f0 f1 f3 f4 f5
  refine ⟨_,rfl,JH (s:={ s with heap:=h',toks:=tk }) (n:="range_iterator") st' rfl rfl (by decide) ⟨.int (lo+i),H,I1,⟨t,?_⟩,⟨rfl,rfl⟩,st',λb hb=>(hf b hb).1⟩⟩
  rw [Int.mul_one]
 done:=by
  intro X hP hw hK hc i pins s σ H E I hf st hg
  subst hP hw hK
  obtain ⟨f0,f1,f2,f3,f4,f5⟩:=hf it (by simp)
  exact wpAny_pyNext_range_end (I.ok.hd hc) st (by have:n<=i:=hg;omega) λh' eb=>⟨rfl,I.turned (t':=s.toks) (λb o hb e=>eb b o hb e) f0 f1 f3 f4 f5⟩
 self:=λ_ _ _ _ _ st h=>wpAny_pyIter_rangeiter st h
end L2
namespace L2
open PySem PySem.Spec PyProof.Rows
section
variable {X:Cx} {tg:Expr}
def Qk (K:Uy) (tl:TE):TI:=λσ H R=>tl σ H λx H1=>∃ a,x=.ref a/\(∃ xs,bf K H1 a xs)/\R (P5 K a) H1
def Si (K:Uy) (tl:TE):TI:=λσ H R=>tl σ H λx H1=>∃ a,x=.ref a/\(∃ xs,gc K H1 a xs)/\R (RR K a) H1
theorem Pk {l:Expr} {tl:TE} (hl:PE X l tl):PI X tg l (Qk X.K tl):=by
 intro pins s σ H R I h
 refine dP (hl pins s σ H _ I h) λv s1 ⟨x,H1,I1,r1,q1⟩=>?_
 obtain ⟨a,e,⟨xs,hq⟩,q⟩:=q1
 subst e
 cases r1
 obtain ⟨its,rv,p,hz⟩:=I1.list hq
 refine wpAny_pyIter_list p.isList ?_
 refine ⟨s1.heap.objs.size,[s1.heap.objs.size],_,_,H1,rfl,I1.kept (t':=s1.toks) λb o e=>Heap.get?_push_of_some _ e,M3 a _,⟨_,Heap.get?_push_size _ rfl,rfl,rfl⟩,λb hb=>?_,q⟩
 have e:b=s1.heap.objs.size:=by simpa using hb
 subst e
 exact I1.OW (UI _) (I1.dz.fresh (UI _))
theorem QK {l:Expr} {tl:TE} (hl:PE X l tl):PI X tg l (Si X.K tl):=by
 intro pins s σ H R I h
 refine dP (hl pins s σ H _ I h) λv s1 ⟨x,H1,I1,r1,q1⟩=>?_
 obtain ⟨a,e,⟨xs,hq⟩,q⟩:=q1
 subst e
 cases r1
 obtain ⟨its,rv,p,hz⟩:=I1.tuple hq
 refine wpAny_pyIter_tuple (show s1.heap.IsTuple a its.toArray from p) ?_
 refine ⟨s1.heap.objs.size,[s1.heap.objs.size],_,_,H1,rfl,I1.kept (t':=s1.toks) λb o e=>Heap.get?_push_of_some _ e,Kr a _,⟨_,Heap.get?_push_size _ rfl,rfl,rfl⟩,λb hb=>?_,q⟩
 have e:b=s1.heap.objs.size:=by simpa using hb
 subst e
 exact I1.OW (UI _) (I1.dz.fresh (UI _))
theorem Nm {pins:List (Addr × Obj)} {σ:St} {H:Hp} {s:Shared} {R:It->Hp->Prop} {E:Value->Shared->Prop} {lo hi:Int} {t u v:Tok} {tk:Nat} (I:Inv X pins σ H s) (h1:-(2 ^ 62)<=lo) (h2:lo < 2 ^ 62) (h3:-(2 ^ 62)<=hi) (h4:hi < 2 ^ 62)
  (q:R (Pj lo (hi - lo).toNat) H):wpAny (model X.prog X.w) X.A (pyIter (.ref s.heap.objs.size)) (Th X pins σ tg R) E { s with heap:=s.heap.push { cls:=.type "range",data:=.fields #[.int lo t,.int hi u,.int 1 v] },toks:=tk }:=by
 refine wpAny_pyIter_range (IsRange.new ..) (small_one h1 h2 h3 h4) ?_
 have I1:Inv X pins σ H { s with heap:=s.heap.push { cls:=.type "range",data:=.fields #[.int lo t,.int hi u,.int 1 v] },toks:=tk }:=I.kept λb o e=>Heap.get?_push_of_some _ e
 refine ⟨(s.heap.push { cls:=.type "range",data:=.fields #[.int lo t,.int hi u,.int 1 v] }).objs.size,[(s.heap.push { cls:=.type "range",data:=.fields #[.int lo t,.int hi u,.int 1 v] }).objs.size],_,_,H,rfl,
  I1.kept (t':=tk) λb o e=>Heap.get?_push_of_some _ e,Ka _ lo (hi - lo).toNat,?_,λb hb=>?_,q⟩
 ·have e1:lo+((0:Nat):Int) * 1=lo:=by simp
  have e2:(((hi - lo).toNat:Nat):Int) - ((0:Nat):Int)=Builtin.Range.rangeSize lo hi 1:=by rw [rangeSize_one];split<;>omega
  show IsRangeIter _ _ (lo+((0:Nat):Int) * 1) ((((hi - lo).toNat:Nat):Int) - ((0:Nat):Int)) 1
  rw [e1,e2]
  exact Heap.get?_push_size _ rfl
 ·have e:b=(s.heap.push { cls:=.type "range",data:=.fields #[.int lo t,.int hi u,.int 1 v] }).objs.size:=by simpa using hb
  subst e
  exact I1.OW (UI _) (I1.dz.fresh (UI _))
def SV (ta:TA):TI:=λσ H R=>ta σ H λvs H1=>∃ j:Int,vs=[.int j]/\-(2 ^ 62)<=j/\j < 2 ^ 62/\R (Pj 0 j.toNat) H1
theorem FV {a:Expr} {ta:TA} {p pos:Pos} (hg:Gl X "range") (hm:X.mg "range"=none) (ha:PA X [a] ta) (hs:starEach [a] X.env=[(false,eval a X.env)]:=by rfl):PI X tg (.Call (.Name "range" p) [a] [] pos) (SV ta):=by
 intro pins s σ H R I h
 refine Call_ (HC I hg hm boot_range (PyProof.Rows.callWith_type1 (dP (ha pos pins s σ H _ I h) λus s1 ⟨vs,H1,I1,r1,q1⟩=>?_) hs rfl))
 obtain ⟨j,e,q1,q2,q⟩:=q1
 subst e
 cases r1 with
 | cons r rr =>
  cases rr
  obtain ⟨t,rfl⟩:=r
  exact call_range_1 (Nm I1 (by omega) (by omega) q1 q2 (by simpa using q))
def Tu (wi:TI) (g:TG) (tb:TS):TS:=λD σ H=>wi σ H λJ H1=>∃ W:Nat->Nat->St->Hp->Prop,(∃ m,W 0 m σ H1)/\∀ i m σ H,W i m σ H ->
 (J.stop i H/\D.nx σ H)∨(J.go i H/\∃ N:St->Hp->Prop,(∀ σ' H',N σ' H'->∃ m',m' < m/\W (i+1) m' σ' H')/\∀ x H',J.O5 i H x H'->g x σ H' λσ2 H2=>tb { D with nx:=N,ct:=N,bk:=D.nx } σ2 H2)
def EV (fp:List Addr) (h:Heap):List (Addr × Obj):=fp.filterMap λb=>(h.get? b).map λo=>(b,o)
theorem z1 {fp:List Addr} {h:Heap} {b:Addr} {o:Obj} (hb:b∈fp) (e:h.get? b=some o):(b,o)∈EV fp h:=List.mem_filterMap.mpr ⟨b,hb,by rw [e];rfl⟩
theorem Mh {fp:List Addr} {h:Heap} {p:Addr × Obj} (hp:p∈EV fp h):p.1∈fp/\h.get? p.1=some p.2:=by
 obtain ⟨b,hb,e⟩:=List.mem_filterMap.mp hp
 cases q:h.get? b with
 | none=>rw [q] at e;cases e
 | some o =>
  rw [q] at e
  have e':(b,o)=p:=Option.some.inj e
  subst e'
  exact ⟨hb,q⟩
theorem Inv.pinned {pins:List (Addr × Obj)} {σ:St} {H:Hp} {s:Shared} {fp:List Addr} (I:Inv X pins σ H s) (hf:∀ b∈fp,Fy X pins H b) (ho:∀ b∈fp,∃ o,s.heap.get? b=some o/\∀ v,o.data≠.cell v):Inv X (pins++EV fp s.heap) σ H s :=
 I.LC λp hp=>(VW.mp hp).elim (λz=>I.pin p (V8 _ z)) λz=>by
  obtain ⟨hb,e⟩:=Mh z
  obtain ⟨f0,f1,f2,_⟩:=hf p.1 hb
  obtain ⟨o,e',d⟩:=ho p.1 hb
  rw [e] at e';cases e'
  exact ⟨e,f0,f1,f2,d⟩
theorem Inv.AZ {pins pl:List (Addr × Obj)} {σ:St} {H:Hp} {s:Shared} (I:Inv X (pins++pl) σ H s):Inv X pins σ H s:=I.LC λp hp=>I.pin p (V8 _ (List.mem_append_left _ hp))
theorem JU {iter:Expr} {body:List Stmt} {wi:TI} {g:TG} {tb:TS} {pos:Pos} (hp:PassesOwn (model X.prog X.w) X.A X.env X.xe) (hc:X.calm=true) (hi:PI X tg iter wi) (hg:PG X tg g) (hb:MN X body tb)
  (hs:∀ x,foldedSetIterable iter X.env x=pure x:=by intro _;rfl):PS X (.For tg iter body [] pos) (Tu wi g tb):=by
 intro pins s σ H D I h
 refine wpAny_For (dP (hi pins s σ H _ I h) λv s1 h1=>dP h1 λitv s2 h2=>?_) hs
 obtain ⟨it,fp,tn,J,H2,e,I2,T,st2,f2,W,⟨m0,w0⟩,turn⟩:=h2
 subst e
 have stat:∀ {H':Hp},(∀ b∈fp,H' b=none)->∀ b∈fp,Fy X pins H' b:=λhn b hb=>⟨hn b hb,(f2 b hb).2⟩
 refine codeAny_forLoop_any (λn s'=>∃ i σ' H',Inv X pins σ' H' s'/\tn i s'.heap/\(∀ b∈fp,H' b=none)/\W i n σ' H') ?_ m0 ⟨0,σ,H2,I2,st2,λb hb=>(f2 b hb).1,w0⟩
 rintro n s3 ⟨i,σ3,H3,I3,st3,fr3,w3⟩
 rcases turn i n σ3 H3 w3 with ⟨stop,qn⟩ | ⟨go,N,hN,step⟩
 ·refine wpAny_passesOwn hp (dP (T.done X rfl rfl rfl hc i pins s3 σ3 H3 X.xe I3 (stat fr3) st3 stop) λr s4 ⟨hr,I4⟩=>?_)
  subst hr
  exact wpAny_execs_nil ⟨σ3,H3,I4,qn⟩
 ·refine wpAny_passesOwn hp (dP (T.item X rfl rfl rfl hc i pins s3 σ3 H3 X.xe I3 (stat fr3) st3 go) λr s4 ⟨u,hr,h4⟩=>?_)
  subst hr
  refine wpAny_passesOwn hp (dP h4 λ_ s5 ⟨x,H5,I5,r5,y5,st5,fr5⟩=>?_)
  have I5':=I5.pinned (stat fr5) (T.obj _ _ st5)
  refine wpAny_passesOwn hp (dP (hg _ s5 σ3 H5 x u _ I5' r5 (step x H5 y5)) λ_ s6 ⟨σ6,H6,I6,q6⟩=>?_)
  refine wpAny_passesOwn hp (dP (hb _ s6 σ6 H6 _ I6 q6) λf s7 q7=>?_)
  have again:∀ {σ7:St} {H7:Hp},Inv X (pins++EV fp s5.heap) σ7 H7 s7->N σ7 H7->∃ m,m < n/\∃ i σ' H',Inv X pins σ' H' s7/\tn i s7.heap/\(∀ b∈fp,H' b=none)/\W i m σ' H':=λ{σ7 H7} I7 n7=>by
   obtain ⟨m',hm,w7⟩:=hN σ7 H7 n7
   refine ⟨m',hm,i+1,σ7,H7,I7.AZ,T.keep _ _ _ st5 λb hb o e=>(I7.pin (b,o) (V8 _ (V8 _ (z1 hb e)))).1,λb hb=>?_,w7⟩
   obtain ⟨o,e,d⟩:=T.obj _ _ st5 b hb
   exact (I7.pin (b,o) (V8 _ (V8 _ (z1 hb e)))).2.1
  cases f with
  | next=>obtain ⟨σ7,H7,I7,n7⟩:=q7;exact again I7 n7
  | cont=>obtain ⟨σ7,H7,I7,n7⟩:=q7;exact again I7 n7
  | brk=>obtain ⟨σ7,H7,I7,q7⟩:=q7;exact ⟨σ7,H7,I7.AZ,q7⟩
  | ret v=>obtain ⟨x7,σ7,H7,I7,r7,q7⟩:=q7;exact ⟨x7,σ7,H7,I7.AZ,r7,q7⟩
end
theorem Ea {K:Uy} {a:Addr} {xs:List V} {g:TG} {tb:TS} {D:Ends} {σ:St} {H:Hp} (Pv:Nat->St->Hp->Prop) (h0:Pv 0 σ H) (hl:∀ i σ H,i<=xs.length->Pv i σ H->bf K H a xs)
  (hs:∀ i x σ H,xs[i]?=some x->Pv i σ H->g x σ H λσ2 H2=>tb { D with nx:=Pv (i+1),ct:=Pv (i+1),bk:=D.nx } σ2 H2) (hd:∀ σ H,Pv xs.length σ H->D.nx σ H) :
  ∃ W:Nat->Nat->St->Hp->Prop,(∃ m,W 0 m σ H)/\∀ i m σ H,W i m σ H ->
   ((P5 K a).stop i H/\D.nx σ H)∨((P5 K a).go i H/\∃ N:St->Hp->Prop,(∀ σ' H',N σ' H'->∃ m',m' < m/\W (i+1) m' σ' H')/\∀ x H',(P5 K a).O5 i H x H'->g x σ H' λσ2 H2=>tb { D with nx:=N,ct:=N,bk:=D.nx } σ2 H2):=by
 refine ⟨λi m σ H=>m=xs.length - i/\i<=xs.length/\Pv i σ H,⟨xs.length,by simp,U9 _,h0⟩,?_⟩
 rintro i m σ H ⟨rfl,hi,p⟩
 have q:=hl i σ H hi p
 by_cases hlt:i < xs.length
 ·refine .inr ⟨⟨xs,xs[i],q,by simp [hlt]⟩,Pv (i+1),λσ' H' p'=>⟨xs.length - (i+1),by omega,rfl,hlt,p'⟩,λx H' y=>?_⟩
  obtain ⟨e,y⟩:=y
  subst e
  exact hs i x σ _ (y xs q) p
 ·have e:i=xs.length:=by omega
  subst e
  exact .inl ⟨⟨xs,q,UI _⟩,hd σ H p⟩
theorem RM {lo:Int} {n:Nat} {g:TG} {tb:TS} {D:Ends} {σ:St} {H:Hp} (Pv:Nat->St->Hp->Prop) (h0:Pv 0 σ H)
  (hs:∀ i σ H,i < n->Pv i σ H->g (.int (lo+i)) σ H λσ2 H2=>tb { D with nx:=Pv (i+1),ct:=Pv (i+1),bk:=D.nx } σ2 H2) (hd:∀ σ H,Pv n σ H->D.nx σ H) :
  ∃ W:Nat->Nat->St->Hp->Prop,(∃ m,W 0 m σ H)/\∀ i m σ H,W i m σ H ->
   ((Pj lo n).stop i H/\D.nx σ H)∨((Pj lo n).go i H/\∃ N:St->Hp->Prop,(∀ σ' H',N σ' H'->∃ m',m' < m/\W (i+1) m' σ' H')/\∀ x H',(Pj lo n).O5 i H x H'->g x σ H' λσ2 H2=>tb { D with nx:=N,ct:=N,bk:=D.nx } σ2 H2):=by
 refine ⟨λi m σ H=>m=n - i/\i<=n/\Pv i σ H,⟨n,by simp,U9 _,h0⟩,?_⟩
 rintro i m σ H ⟨rfl,hi,p⟩
 by_cases hlt:i < n
 ·refine .inr ⟨hlt,Pv (i+1),λσ' H' p'=>⟨n - (i+1),by omega,rfl,hlt,p'⟩,λx H' y=>?_⟩
  obtain ⟨e,y⟩:=y
  subst e y
  exact hs i σ _ hlt p
 ·have e:i=n:=by omega
  subst e
  exact .inl ⟨UI _,hd σ H p⟩
theorem Iv {c:TT} {tb:TS} {D:Ends} {σ:St} {H:Hp} (Pv:St->Hp->Prop) (μ:St->Hp->Nat) (h0:Pv σ H)
  (hs:∀ σ H,Pv σ H->c σ H λb H1=>if b=true then tb { D with nx:=λσ' H'=>Pv σ' H'/\μ σ' H' < μ σ H,ct:=λσ' H'=>Pv σ' H'/\μ σ' H' < μ σ H,bk:=D.nx } σ H1 else D.nx σ H1)
  (mono:∀ σ H Q Q',(∀ b H1,Q b H1->Q' b H1)->c σ H Q->c σ H Q'):Nr c tb D σ H:=by
 refine ⟨λm σ H=>m=μ σ H/\Pv σ H,⟨_,rfl,h0⟩,?_⟩
 rintro m σ H ⟨rfl,p⟩
 refine mono σ H _ _ (λb H1 q=>?_) (hs σ H p)
 cases b with
 | true=>exact ⟨_,λσ' H' ⟨p',l⟩=>⟨_,l,rfl,p'⟩,q⟩
 | false=>exact q
end L2
namespace L2
open PySem PySem.Spec PyProof.Rows
abbrev R2:=V->V->Hp->VK->Prop
def zi (X:Cx) (f:Value->Value->Sem Value) (r:R2):Prop :=
 ∀ (pins:List (Addr × Obj)) (s:Shared) (σ:St) (H:Hp) (x y:V) (v u:Value) (Q:VK),Inv X pins σ H s->RelV x v->RelV y u->r x y H Q ->
  wpAny (model X.prog X.w) X.A (f v u) (EP X pins σ Q) X.xe s
def T7 (X:Cx) (f:Value->Sem Value) (r:V->Hp->VK->Prop):Prop :=
 ∀ (pins:List (Addr × Obj)) (s:Shared) (σ:St) (H:Hp) (x:V) (v:Value) (Q:VK),Inv X pins σ H s->RelV x v->r x H Q ->
  wpAny (model X.prog X.w) X.A (f v) (EP X pins σ Q) X.xe s
def mZ (X:Cx) (f:Value) (r:List V->Hp->VK->Prop):Prop :=
 ∀ (pins:List (Addr × Obj)) (s:Shared) (σ:St) (H:Hp) (xs:List V) (us:List Value) (Q:VK),Inv X pins σ H s->Vals xs us->r xs H Q ->
  wpAny (model X.prog X.w) X.A (call f us) (EP X pins σ Q) X.xe s
def Ub (X:Cx) (r:V->Hp->(Bool->Hp->Prop)->Prop):Prop :=
 ∀ (pins:List (Addr × Obj)) (s:Shared) (σ:St) (H:Hp) (x:V) (v:Value) (Q:Bool->Hp->Prop),Inv X pins σ H s->RelV x v->r x H Q ->
  wpAny (model X.prog X.w) X.A (truthy v) (TP X pins σ Q) X.xe s
def Ti (r:R2) (ta tb:TE):TE:=λσ H Q=>ta σ H λx H1=>tb σ H1 λy H2=>r x y H2 Q
def Um (r:V->Hp->VK->Prop) (ta:TE):TE:=λσ H Q=>ta σ H λx H1=>r x H1 Q
def rI (C:Int->Int->Prop) (g:Int->Int->V):R2:=λx y H Q=>∃ i j,x=.int i/\y=.int j/\C i j/\Q (g i j) H
def NK (g:Int->Int->V):R2:=λx y H Q=>∃ i j,x=.int i/\y=.int j/\Q (g i j) H
def rU (g:Int->V):V->Hp->VK->Prop:=λx H Q=>∃ i,x=.int i/\Q (g i) H
section
variable {X:Cx} {a b c:Expr} {ta tb tc:TE} {pos:Pos}
theorem Rn (ha:PE X a ta) (hb:PE X b tb) {pins:List (Addr × Obj)} {s:Shared} {σ:St} {H:Hp} {R:V->V->Hp->Prop} (I:Inv X pins σ H s)
  (h:ta σ H λx H1=>tb σ H1 λy H2=>R x y H2) {Q:Value->Shared->Prop} {f:Value->Value->Sem Value}
  (hf:∀ v u s2 x y H2,Inv X pins σ H2 s2->RelV x v->RelV y u->R x y H2->wpAny (model X.prog X.w) X.A (f v u) Q X.xe s2) :
  wpAny (model X.prog X.w) X.A (eval a X.env) (λv s₁=>wpAny (model X.prog X.w) X.A (eval b X.env) (λu s₂=>wpAny (model X.prog X.w) X.A (f v u) Q X.xe s₂) X.xe s₁) X.xe s:=by
 refine dP (ha pins s σ H _ I h) λv s1 ⟨x,H1,I1,r1,q1⟩=>?_
 refine dP (hb pins s1 σ H1 _ I1 q1) λu s2 ⟨y,H2,I2,r2,q2⟩=>?_
 exact hf v u s2 x y H2 I2 r1 r2 q2
theorem b8 {op:Operator} {r:R2} (ho:zi X (binaryOp op) r) (ha:PE X a ta) (hb:PE X b tb):PE X (.BinOp a op b pos) (Ti r ta tb):=by
 intro pins s σ H Q I h
 exact wpAny_BinOp (Rn ha hb I h λv u s2 x y H2 I2 rx ry q=>ho pins s2 σ H2 x y v u Q I2 rx ry q)
theorem Qp {op:UnaryOp} {r:V->Hp->VK->Prop} (ho:T7 X (unaryOp op) r) (ha:PE X a ta):PE X (.UnaryOp op a pos) (Um r ta):=by
 intro pins s σ H Q I h
 exact UnaryOp_ (dP (ha pins s σ H _ I h) λv s1 ⟨x,H1,I1,r1,q1⟩=>ho pins s1 σ H1 x v Q I1 r1 q1)
theorem Uc {f:Value->Value->Sem Value} {C:Int->Int->Prop} {g:Int->Int->Int}
  (rule:∀ (i j:Int) (t u:Tok) (s:Shared) (Q:Value->Shared->Prop) (E:Value->Shared->Prop),C i j->Q (.int (g i j) s.toks) { s with toks:=s.toks+1 }->wpAny (model X.prog X.w) X.A (f (.int i t) (.int j u)) Q E s) :
  zi X f (rI C λi j=>.int (g i j)):=by
 intro pins s σ H x y v u Q I rx ry h
 obtain ⟨i,j,rfl,rfl,hc,q⟩:=h
 obtain ⟨t,rfl⟩:=rx
 obtain ⟨t',rfl⟩:=ry
 exact rule i j t t' s _ _ hc ⟨.int (g i j),H,I.tok _,⟨_,rfl⟩,q⟩
theorem S9 {f:Value->Value->Sem Value} {g:Int->Int->Int}
  (rule:∀ (i j:Int) (t u:Tok) (s:Shared) (Q:Value->Shared->Prop) (E:Value->Shared->Prop),Q (.int (g i j) s.toks) { s with toks:=s.toks+1 }->wpAny (model X.prog X.w) X.A (f (.int i t) (.int j u)) Q E s) :
  zi X f (NK λi j=>.int (g i j)):=by
 intro pins s σ H x y v u Q I rx ry h
 obtain ⟨i,j,rfl,rfl,q⟩:=h
 obtain ⟨t,rfl⟩:=rx
 obtain ⟨t',rfl⟩:=ry
 exact rule i j t t' s _ _ ⟨.int (g i j),H,I.tok _,⟨_,rfl⟩,q⟩
theorem QL {f:Value->Value->Sem Value} {g:Int->Int->Bool}
  (rule:∀ (i j:Int) (t u:Tok) (s:Shared) (Q:Value->Shared->Prop) (E:Value->Shared->Prop),Q (.bool (g i j)) s->wpAny (model X.prog X.w) X.A (f (.int i t) (.int j u)) Q E s) :
  zi X f (NK λi j=>.bl (g i j)):=by
 intro pins s σ H x y v u Q I rx ry h
 obtain ⟨i,j,rfl,rfl,q⟩:=h
 obtain ⟨t,rfl⟩:=rx
 obtain ⟨t',rfl⟩:=ry
 exact rule i j t t' s _ _ ⟨.bl (g i j),H,I,rfl,q⟩
def TH (i j:Int):Prop:=0 < j/\j < 1073741824
def QB (i j:Int):Prop:=(-(2 ^ 64) < i/\i < 2 ^ 64)∨(-(2 ^ 64) < j/\j < 2 ^ 64)
theorem QB.ok {i j:Int} (h:QB i j):IntMulOk i j:=by
 rcases h with ⟨h1,h2⟩ | ⟨h1,h2⟩
 ·exact .of_left (intBits_le_64 h1 h2)
 ·exact .of_right (intBits_le_64 h1 h2)
theorem zO:zi X (binaryOp .Add) (NK λi j=>.int (i+j)):=S9 λ_ _ _ _ _ _ _ q=>add_int q
theorem GH:zi X (binaryOp .Sub) (NK λi j=>.int (i - j)):=S9 λ_ _ _ _ _ _ _ q=>sub_int q
theorem QD:zi X (binaryOp .Mult) (rI QB λi j=>.int (i * j)):=Uc λ_ _ _ _ _ _ _ hc q=>mul_int q hc.ok
theorem AH:zi X (binaryOp .FloorDiv) (rI TH λi j=>.int (i / j)):=Uc λi j _ _ _ _ _ hc q=>by
 have h1:(0:Int) < j:=hc.1
 have h2:j < 1073741824:=hc.2
 exact floordiv_int (by omega) (by rw [Int.fdiv_eq_ediv_of_nonneg i (by omega)];exact q) (.inl (PyProof.noPylong_small (by omega)))
theorem rL:zi X (binaryOp .Mod) (rI (λ_ j=>0 < j) λi j=>.int (i % j)):=Uc λi j _ _ _ _ _ hc q=>by
 have h1:(0:Int) < j:=hc
 exact mod_int' (by omega) (by rw [Int.fmod_eq_emod_of_nonneg i (by omega)];exact q)
theorem Ur {f:Value->Sem Value} {g:Int->Int}
  (rule:∀ (i:Int) (t:Tok) (s:Shared) (Q:Value->Shared->Prop) (E:Value->Shared->Prop),Q (.int (g i) s.toks) { s with toks:=s.toks+1 }->wpAny (model X.prog X.w) X.A (f (.int i t)) Q E s) :
  T7 X f (rU λi=>.int (g i)):=by
 intro pins s σ H x v Q I rx h
 obtain ⟨i,rfl,q⟩:=h
 obtain ⟨t,rfl⟩:=rx
 exact rule i t s _ _ ⟨.int (g i),H,I.tok _,⟨_,rfl⟩,q⟩
theorem Nd:T7 X (unaryOp .USub) (rU λi=>.int (-i)):=Ur λ_ _ _ _ _ q=>neg_int q
end
def SN:V->V->Bool
 | .dH,.dH=>true | .dH,.int _=>true | .int _,.dH=>true | .dH,.bl _=>true | .bl _,.dH=>true | .dH,.str _=>true | .str _,.dH=>true
 | .int _,.int _=>true | .bl _,.bl _=>true | .str _,.str _=>true | .Im _,.Im _=>true
 | .int _,.str _=>true | .str _,.int _=>true | .bl _,.str _=>true | .str _,.bl _=>true
 | _,_=>false
def Us:R2:=λx y H Q=>SN x y=true/\Q (.bl (decide (x=y))) H
def Uq:R2:=λx y H Q=>SN x y=true/\Q (.bl (!decide (x=y))) H
theorem KO {i j:Int}:decide (V.int i=V.int j)=(i == j):=by
 rw [Bool.eq_iff_iff]
 simp
theorem Nt {i j:Bool}:decide (V.bl i=V.bl j)=(i == j):=by
 rw [Bool.eq_iff_iff]
 simp
theorem K6 {i j:Str}:decide (V.str i=V.str j)=(i == j):=by
 rw [Bool.eq_iff_iff]
 simp
theorem Lz {i j:Array UInt8}:decide (V.Im i=V.Im j)=(i.toList == j.toList):=by
 rw [Bool.eq_iff_iff]
 cases i
 cases j
 simp
section
variable {X:Cx} {a b c:Expr} {ta tb tc:TE} {pos:Pos}
theorem cq {pins:List (Addr × Obj)} {σ:St} {H:Hp} {s:Shared} {Q:VK} {k k':Bool} (I:Inv X pins σ H s) (q:Q (.bl k) H) (e:k=k'):EP X pins σ Q (.bool k') s:=by
 subst e
 exact ⟨.bl k,H,I,rfl,q⟩
theorem uf:zi X (compareOp .Eq) Us:=by
 intro pins s σ H x y v u Q I rx ry h
 obtain ⟨hs,q⟩:=h
 cases x with
 | dH =>
  cases rx
  cases y with
  | dH=>cases ry;exact PySem.EqNone.eq_none_none (cq I q (by simp))
  | bl j=>cases ry;exact PySem.EqNone.eq_none_bool (cq I q (by simp))
  | int j=>obtain ⟨t',rfl⟩:=ry;exact PySem.EqNone.eq_none_int (cq I q (by simp))
  | str j=>obtain ⟨t',rfl⟩:=ry;exact PySem.EqNone.eq_none_str (cq I q (by simp))
  | _=>exact absurd (show false=true from hs) U3
 | bl i =>
  cases rx
  cases y with
  | dH=>cases ry;exact PySem.EqNone.eq_bool_none (cq I q (by simp))
  | bl j=>cases ry;exact eq_bool (cq I q Nt)
  | str j=>obtain ⟨t',rfl⟩:=ry;exact PySem.EqMixed.eq_bool_str (cq I q (by simp))
  | _=>exact absurd (show false=true from hs) U3
 | int i =>
  obtain ⟨t,rfl⟩:=rx
  cases y with
  | dH=>cases ry;exact PySem.EqNone.eq_int_none (cq I q (by simp))
  | int j=>obtain ⟨t',rfl⟩:=ry;exact eq_int (cq I q KO)
  | str j=>obtain ⟨t',rfl⟩:=ry;exact PySem.EqMixed.eq_int_str (cq I q (by simp))
  | _=>exact absurd (show false=true from hs) U3
 | str i =>
  obtain ⟨t,rfl⟩:=rx
  cases y with
  | dH=>cases ry;exact PySem.EqNone.eq_str_none (cq I q (by simp))
  | bl j=>cases ry;exact PySem.EqMixed.eq_str_bool (cq I q (by simp))
  | int j=>obtain ⟨t',rfl⟩:=ry;exact PySem.EqMixed.eq_str_int (cq I q (by simp))
  | str j=>obtain ⟨t',rfl⟩:=ry;exact eq_str (cq I q K6)
  | _=>exact absurd (show false=true from hs) U3
 | Im i =>
  obtain ⟨t,rfl⟩:=rx
  cases y with
  | Im j=>obtain ⟨t',rfl⟩:=ry;exact PySem.W.eq_bytes (cq I q Lz)
  | _=>exact absurd (show false=true from hs) U3
 | _=>cases y<;>exact absurd (show false=true from hs) U3
theorem D6:zi X (compareOp .NotEq) Uq:=by
 intro pins s σ H x y v u Q I rx ry h
 obtain ⟨hs,q⟩:=h
 cases x with
 | dH =>
  cases rx
  cases y with
  | dH=>cases ry;exact PySem.EqNone.ne_none_none (cq I q (by simp))
  | bl j=>cases ry;exact PySem.EqNone.ne_none_bool (cq I q (by simp))
  | int j=>obtain ⟨t',rfl⟩:=ry;exact PySem.EqNone.ne_none_int (cq I q (by simp))
  | str j=>obtain ⟨t',rfl⟩:=ry;exact PySem.EqNone.ne_none_str (cq I q (by simp))
  | _=>exact absurd (show false=true from hs) U3
 | bl i =>
  cases rx
  cases y with
  | dH=>cases ry;exact PySem.EqNone.ne_bool_none (cq I q (by simp))
  | bl j=>cases ry;exact ne_bool (cq I q (congrArg not Nt))
  | str j=>obtain ⟨t',rfl⟩:=ry;exact PySem.EqMixed.ne_bool_str (cq I q (by simp))
  | _=>exact absurd (show false=true from hs) U3
 | int i =>
  obtain ⟨t,rfl⟩:=rx
  cases y with
  | dH=>cases ry;exact PySem.EqNone.ne_int_none (cq I q (by simp))
  | int j=>obtain ⟨t',rfl⟩:=ry;exact ne_int (cq I q (congrArg not KO))
  | str j=>obtain ⟨t',rfl⟩:=ry;exact PySem.EqMixed.ne_int_str (cq I q (by simp))
  | _=>exact absurd (show false=true from hs) U3
 | str i =>
  obtain ⟨t,rfl⟩:=rx
  cases y with
  | dH=>cases ry;exact PySem.EqNone.ne_str_none (cq I q (by simp))
  | bl j=>cases ry;exact PySem.EqMixed.ne_str_bool (cq I q (by simp))
  | int j=>obtain ⟨t',rfl⟩:=ry;exact PySem.EqMixed.ne_str_int (cq I q (by simp))
  | str j=>obtain ⟨t',rfl⟩:=ry;exact ne_str (cq I q (congrArg not K6))
  | _=>exact absurd (show false=true from hs) U3
 | Im i =>
  obtain ⟨t,rfl⟩:=rx
  cases y with
  | Im j=>obtain ⟨t',rfl⟩:=ry;exact PySem.W.ne_bytes (cq I q (congrArg not Lz))
  | _=>exact absurd (show false=true from hs) U3
 | _=>cases y<;>exact absurd (show false=true from hs) U3
theorem Jm:zi X (compareOp .Lt) (NK λi j=>.bl (decide (i < j))):=QL λ_ _ _ _ _ _ _ q=>lt_int q
theorem ku:zi X (compareOp .LtE) (NK λi j=>.bl (decide (i<=j))):=QL λ_ _ _ _ _ _ _ q=>le_int q
theorem K5:zi X (compareOp .GtE) (NK λi j=>.bl (decide (j<=i))):=QL λ_ _ _ _ _ _ _ q=>ge_int q
theorem uq:zi X (compareOp .Is) (λx y H Q=>y=.dH/\Q (.bl (decide (x=.dH))) H):=by
 intro pins s σ H x y v u Q I rx ry h
 obtain ⟨rfl,q⟩:=h
 cases ry
 refine is_none_gen (cq I q ?_)
 cases x<;>first
  | (cases rx;rfl)
  | (obtain ⟨t,rfl⟩:=rx;rfl)
theorem LG:zi X (compareOp .IsNot) (λx y H Q=>y=.dH/\Q (.bl (!decide (x=.dH))) H):=by
 intro pins s σ H x y v u Q I rx ry h
 obtain ⟨rfl,q⟩:=h
 cases ry
 refine isnot_none_gen (cq I q ?_)
 cases x<;>first
  | (cases rx;rfl)
  | (obtain ⟨t,rfl⟩:=rx;rfl)
theorem bo (b:Expr) {op:CmpOp} (h:op≠.In:=by decide) (h2:op≠.NotIn:=by decide):behindInMarks op b=false:=by
 have e1:(op == CmpOp.In)=false:=by cases op<;>first | rfl | exact absurd rfl h
 have e2:(op == CmpOp.NotIn)=false:=by cases op<;>first | rfl | exact absurd rfl h2
 cases b<;>simp [behindInMarks,e1,e2]
theorem nU {op:CmpOp} {r:R2} (ho:zi X (compareOp op) r) (ha:PE X a ta) (hb:PE X b tb) (hm:behindInMarks op b=false):PE X (.Compare a [op] [b] pos) (Ti r ta tb):=by
 intro pins s σ H Q I h
 exact wpAny_Compare1 (Rn ha hb I h λv u s2 x y H2 I2 rx ry q=>ho pins s2 σ H2 x y v u Q I2 rx ry q) hm
def Qa (t:TE):TT:=λσ H Q=>t σ H λx H'=>∃ k,x=.bl k/\Q k H'
theorem a9 {op:CmpOp} {r:R2} (ho:zi X (compareOp op) r) (ha:PE X a ta) (hb:PE X b tb) (hm:behindInMarks op b=false):PT X (.Compare a [op] [b] pos) (Qa (Ti r ta tb)):=by
 intro pins s σ H Q I h
 refine wpAny_isTrue_Compare1 (dP (ha pins s σ H _ I h) λv s1 ⟨x,H1,I1,r1,q1⟩=>dP (hb pins s1 σ H1 _ I1 q1) λu s2 ⟨y,H2,I2,r2,q2⟩ =>
  dP (ho pins s2 σ H2 x y v u _ I2 r1 r2 q2) λc s3 ⟨z,H3,I3,r3,k,e,q3⟩=>?_) hm
 subst e
 cases r3
 exact wpAny_truthy_bool ⟨H3,I3,q3⟩
def NF (r r':R2) (ta tb tc:TE):TE:=λσ H Q=>ta σ H λx H1=>tb σ H1 λy H2=>r x y H2 λz H3=>∃ k,z=.bl k /\
 (if k=true then tc σ H3 λw' H4=>r' y w' H4 Q else Q (.bl false) H3)
theorem vJ {op op':CmpOp} {r r':R2} (ho:zi X (compareOp op) r) (ho':zi X (compareOp op') r') (ha:PE X a ta) (hb:PE X b tb) (hc:PE X c tc)
  (hm:lastMarks [op,op'] [b,c]=false:=by with_unfolding_all rfl):PE X (.Compare a [op,op'] [b,c] pos) (NF r r' ta tb tc):=by
 intro pins s σ H Q I h
 refine Compare_chain (dP (ha pins s σ H _ I h) λv s1 ⟨x,H1,I1,r1,q1⟩=>chain_link (dP (hb pins s1 σ H1 _ I1 q1) λu s2 ⟨y,H2,I2,r2,q2⟩ =>
  dP (ho pins s2 σ H2 x y v u _ I2 r1 r2 q2) λd s3 ⟨z,H3,I3,r3,k,e,q3⟩=>?_)) hm
 subst e
 cases r3
 refine wpAny_truthy_bool ?_
 cases k with
 | false=>exact ite_ff ⟨.bl false,H3,I3,rfl,q3⟩
 | true=>exact ite_tt (chain_last (dP (hc pins s3 σ H3 _ I3 q3) λw' s4 ⟨z',H4,I4,r4,q4⟩=>ho' pins s4 σ H4 y z' u w' Q I4 r2 r4 q4))
theorem xM {op op':CmpOp} {r r':R2} (ho:zi X (compareOp op) r) (ho':zi X (compareOp op') r') (ha:PE X a ta) (hb:PE X b tb) (hc:PE X c tc)
  (hm:lastMarks [op,op'] [b,c]=false:=by with_unfolding_all rfl):PT X (.Compare a [op,op'] [b,c] pos) (Qa (NF r r' ta tb tc)):=by
 intro pins s σ H Q I h
 refine isTrue_chain (dP (ha pins s σ H _ I h) λv s1 ⟨x,H1,I1,r1,q1⟩=>test_link (dP (hb pins s1 σ H1 _ I1 q1) λu s2 ⟨y,H2,I2,r2,q2⟩ =>
  dP (ho pins s2 σ H2 x y v u _ I2 r1 r2 q2) λd s3 ⟨z,H3,I3,r3,k,e,q3⟩=>?_)) hm
 subst e
 cases r3
 refine wpAny_truthy_bool ?_
 cases k with
 | false =>
  obtain ⟨k',e',q'⟩:=q3
  cases e'
  exact ite_ff ⟨H3,I3,q'⟩
 | true =>
  refine ite_tt (test_last (dP (hc pins s3 σ H3 _ I3 q3) λw' s4 ⟨z',H4,I4,r4,q4⟩=>dP (ho' pins s4 σ H4 y z' u w' _ I4 r2 r4 q4) λd' s5 ⟨z2,H5,I5,r5,k2,e2,q5⟩=>?_))
  subst e2
  cases r5
  exact wpAny_truthy_bool ⟨H5,I5,q5⟩
def Q3 (K:Uy) (x:V) (H:Hp) (k:Bool):Prop :=
 match x with
 | .dH=>k=false
 | .bl b=>k=b
 | .int i=>k=(i != 0)
 | .str y=>y.length<=sizeLine/\k=((y.length:Int) != 0)
 | .Im y=>y.size<=sizeLine/\k=((y.size:Int) != 0)
 | .ref p=>(∃ xs,bf K H p xs/\k=!xs.isEmpty)∨(∃ xs,gc K H p xs/\k=!xs.isEmpty)∨∃ kvs,H p=some (.dK kvs)/\k=!kvs.isEmpty
 | _=>False
theorem JZ {κ:Type} {kvs:List (κ × V)} {vs:List (κ × Value)} (r:KV kvs vs):(!vs.isEmpty)=!kvs.isEmpty:=by
 cases r<;>rfl
theorem Ei {xs:List V} {its:List Value} (r:Vals xs its):(!its.toArray.isEmpty)=!xs.isEmpty:=by
 cases r<;>simp
theorem ES:(sizeLine:Nat) < 2 ^ 63:=by rw [sizeLine_eq];decide
theorem QH:Ub X (λx H Q=>∃ k,Q3 X.K x H k/\Q k H):=by
 intro pins s σ H x v Q I rx h
 obtain ⟨k,e,q⟩:=h
 have hl:=ES
 have hs:sizeLine=16777216:=sizeLine_eq
 cases x with
 | dH =>
  cases rx
  have e':k=false:=e
  subst e'
  exact truthy_none ⟨H,I,q⟩
 | bl b =>
  cases rx
  have e':k=b:=e
  subst e'
  exact wpAny_truthy_bool ⟨H,I,q⟩
 | int i =>
  obtain ⟨t,rfl⟩:=rx
  have e':k=(i != 0):=e
  subst e'
  exact PySem.P.truthy_int ⟨H,I,q⟩
 | str y =>
  obtain ⟨t,rfl⟩:=rx
  obtain ⟨hy,e'⟩:y.length<=sizeLine/\k=((y.length:Int) != 0):=e
  subst e'
  exact PySem.P.truthy_str (by omega) ⟨H,I.tok _,q⟩
 | Im y =>
  obtain ⟨t,rfl⟩:=rx
  obtain ⟨hy,e'⟩:y.size<=sizeLine/\k=((y.size:Int) != 0):=e
  subst e'
  exact PySem.W.truthy_bytes (by omega) ⟨H,I.tok _,q⟩
 | ref p =>
  cases rx
  have e':(∃ xs,bf X.K H p xs/\k=!xs.isEmpty)∨(∃ xs,gc X.K H p xs/\k=!xs.isEmpty)∨∃ kvs,H p=some (.dK kvs)/\k=!kvs.isEmpty:=e
  rcases e' with ⟨xs,hx,e'⟩ | ⟨xs,hx,e'⟩ | ⟨kvs,hx,e'⟩
  ·subst e'
   obtain ⟨its,r,pl,hz⟩:=I.list hx
   have hlen:=r.length
   exact wpAny_truthy_list pl.isList (by simp only [UX];omega) ⟨H,I.tok _,by rw [Ei r];exact q⟩
  ·subst e'
   obtain ⟨its,r,pl,hz⟩:=I.tuple hx
   have hlen:=r.length
   exact truthy_tuple pl (by simp only [UX];omega) ⟨H,I.tok _,by rw [Ei r];exact q⟩
  ·subst e'
   obtain ⟨hz,hS,vs,r,m⟩:kvs.length<=sizeLine/\(p == sysModules)=false/\∃ vs,KV kvs vs/\s.heap.DictOf (aZ X.prog X.w) p vs:=I.dz p _ hx
   have hlen:kvs.length=vs.length:=Paired.length r
   exact wpAny_truthy_dict hS m (by omega) ⟨H,I.tok _,by rw [JZ r];exact q⟩
 | _=>exact (show False from e).elim
theorem NL (ha:PE X a ta) (he:∀ whole,isTrue a X.env whole=(do let v <- whole;standAt a.pos;holding [v] (truthy v))) :
  PT X a (λσ H Q=>ta σ H λx H'=>∃ k,Q3 X.K x H' k/\Q k H'):=by
 intro pins s σ H Q I h
 exact isTrue_plain (dP (ha pins s σ H _ I h) λv s1 ⟨x,H1,I1,r1,q1⟩=>QH pins s1 σ H1 x v Q I1 r1 q1) (he _)
theorem vals1 {x:V} {us:List Value} (r:Vals [x] us):∃ u,us=[u]/\RelV x u:=by
 cases r with
 | cons r1 r2=>cases r2;exact ⟨_,rfl,r1⟩
theorem vals2 {x y:V} {us:List Value} (r:Vals [x,y] us):∃ u w',us=[u,w']/\RelV x u/\RelV y w':=by
 cases r with
 | cons r1 r2 =>
  cases r2 with
  | cons r3 r4=>cases r4;exact ⟨_,_,rfl,r1,r3⟩
end
end L2
namespace L2
open PySem PySem.Spec PyProof.Rows
structure Ku (h:Heap) (x dx C:Addr) (mA:Str->Option Value):Prop where
 obj:h.get? x=some (V6 C dx)
 ns:h.Ns1 dx mA
 ne:dx≠x
theorem LZ {h:Heap} {dx:Addr} {mA:Str->Option Value} (n:h.Ns1 dx mA):∃ od,h.get? dx=some od/\∀ name,PySem.W.lookIn name od=some (mA name):=by
 obtain ⟨o,es,ep,ho,hd,hk,_,hm⟩:=n
 refine ⟨o,ho,λname=>?_⟩
 have e:=hm name
 unfold nsFind findBy at e
 rw [<- Array.find?_toList] at e
 unfold PySem.W.lookIn
 rw [hd]
 dsimp only
 split
 ·rename_i y q
  rw [q] at e
  exact congrArg some e
 ·rename_i q
  rw [q] at e
  have a:es.toList.any (·.refKey)=false:=by
   rw [List.any_eq_false]
   intro y hy
   obtain ⟨z,t,hkey⟩:=hk y (Array.mem_toList_iff.mp hy)
   simp [DictEntry.refKey,hkey]
  have a':¬ es.toList.any (·.refKey)=true:=by rw [a];exact U3
  rw [if_neg a']
  exact congrArg some e
theorem Ku.look {h:Heap} {x dx C:Addr} {mA:Str->Option Value} (I:Ku h x dx C mA):∃ od,PySem.W.InstAt h x (V6 C dx) C (some od)/\∀ name,PySem.W.lookIn name od=some (mA name) :=
 let ⟨od,ho,hl⟩:=LZ I.ns
 ⟨od,⟨I.obj,rfl,rfl,ho⟩,hl⟩
section
variable {prog:Program} {w:World} {A:Around} {E:Value->Shared->Prop} {s:Shared} {K:Uy} {x dx C f:Addr} {mA:Str->Option Value} {name:Str} {v:Value}
theorem get_map {expr:Bool} {Q:Value->Shared->Prop} (X:K.In s.heap) (I:Ku s.heap x dx C mA) (hg:WO K C name=true) (hh:PySem.W.hasDictIn K C=true)
  (ha:VD K (.ref C) name=some none) (hv:mA name=some v) (hv':PySem.W.handedIn v=true) (h:Q v { s with toks:=s.toks+1 }) :
  wpAny (model prog w) A (getAttr (.ref x) name expr) Q E s:=by
 obtain ⟨od,J,hl⟩:=I.look
 exact PySem.W.get_value X J (PySem.W.plainGet_of hg).1 (PySem.W.findObj_own hh ha rfl (by rw [hl,hv])) hv' h
theorem Ng {pl:Sem Bool} {Q:Value × List Value->Shared->Prop} (X:K.In s.heap) (I:Ku s.heap x dx C mA) (hg:WO K C name=true)
  (hf:VD K (.ref C) name=some (some (.ref f))) (ht:PySem.W.isFn K (.ref f)=true) (hv:mA name=none) (h:Q (.ref f,[.ref x]) s) :
  wpAny (model prog w) A (getMethod (.ref x) name pl) Q E s:=by
 obtain ⟨od,J,hl⟩:=I.look
 exact PySem.W.method_fn X J (PySem.W.plainGet_of hg).1 (PySem.W.plainGet_of hg).2 hf (beq_iff_eq.mp ht) (by show (PySem.W.lookIn name od).map (·.isSome)=some false;rw [hl,hv];rfl) h
theorem Pb {ns:List Str} {Q:Unit->Shared->Prop} (X:K.In s.heap) (I:Ku s.heap x dx C mA)
  (hs:VD K (.ref C) "__setattr__"=some (some (.builtin "object.__setattr__"))) (hp:PySem.W.plainOver K C=true) (ht:PySem.W.takerIn K C name=some none) (hh:PySem.W.hasDictIn K C=true)
  (hw:PySem.Within mA ns) (hsz:ns.length<=sizeLine)
  (h:∀ h',Ku h' x dx C (λy=>if y=name then some v else mA y)->Heap.SameBut dx s.heap h'->Q () { s with heap:=h',toks:=s.toks+2 }) :
  wpAny (model prog w) A (setAttr (.ref x) name v) Q E s:=by
 obtain ⟨od,J,hl⟩:=I.look
 refine PySem.W.set_plain X J hs (PySem.W.osa_open (s:={ s with toks:=s.toks+1 }) (r:=none) X J hp ht λb=>?_)
 obtain ⟨cd,hc,hd'⟩:=PySem.W.any_some hh
 have hx:s.heap.get? x=some ⟨.ref C,some dx,.plain,#[]⟩:=I.obj
 refine wpAny_bind (wpAny_pure (wpAny_bind (wpAny_bind (wpAny_loadPart hx (wpAny_bind (PySem.W.Looks.here (s:={ s with toks:=s.toks+1 }) (PySem.W.looks_clsIn X hc) ?_))))))
 rw [hd']
 refine wpAny_pure (a:=some dx) (wpAny_bind (wpAny_pure (wpAny_bind ?_)))
 refine wpAny_nsSet1 (s:={ s with toks:=s.toks+1 }) I.ns λh' hn2 hs2=>?_
 obtain ⟨oD,esD,epD,hoD,hdD,hcD⟩:=hn2.count (PySem.Within.cons name v hw)
 refine wpAny_bind (wpAny_lookBehind hoD (by rw [hdD];exact pastItsLine_dict (US hcD (by rw [U0];omega))) ?_)
 exact wpAny_pure (h _ ⟨(hs2.2 _ (Ne.symm I.ne)).trans I.obj,hn2,I.ne⟩ hs2)
theorem NQ {R:Result->Shared->Prop} {vs:List Value} {kw:List (Str × Value)} (X:K.In s.heap) (hm:PySem.W.makesIn K C=true)
  (hi:VD K (.ref C) "__init__"=some (some (.ref f))) (hf:PySem.W.typeIn K (.ref f)=some (.type "function"))
  (h:codeAny (model prog w) (A.under (.builtin "type.__call__" ⟨.ref C::vs,kw⟩)) (.call (.ref f) ⟨.ref (s.heap.objs.size+1)::vs,kw⟩) (PySem.W.InitBack (s.heap.objs.size+1) R)
   { s with heap:=(s.heap.push V0).push (V6 C s.heap.objs.size) }) :
  codeAny (model prog w) A (.call (.ref C) ⟨vs,kw⟩) R s:=by
 obtain ⟨hh,g,d,t,os⟩:=s
 exact PySem.W.make_core (PySem.W.makes_of X hm) (PySem.W.looks_findIn X hi) (λself=>PySem.W.bind_fn X self hf) (.inl rfl) h
end
def a6 (f:Str) (v:V):List (Str × V)->List (Str × V)
 | []=>[(f,v)]
 | (g,x)::r=>if g=f then (g,v)::r else (g,x)::a6 f v r
theorem CF (f g:Str) (v:V):∀ fs:List (Str × V),(a6 f v fs).lookup g=if g=f then some v else fs.lookup g
 | []=>by
  show V9 g [(f,v)]=_
  by_cases h:g=f
  ·have hb:(g == f)=true:=beq_iff_eq.mpr h
   simp only [V9,hb,if_pos h]
  ·have hb:(g == f)=false:=beq_eq_false_iff_ne.mpr h
   simp only [V9,hb,if_neg h]
 | (k,x)::r=>by
  have ih:=CF f g v r
  rw [show a6 f v ((k,x)::r)=(if k=f then (k,v)::r else (k,x)::a6 f v r) from rfl]
  by_cases hk:k=f
  ·rw [if_pos hk]
   by_cases h:g=k
   ·have hb:(g == k)=true:=beq_iff_eq.mpr h
    simp only [V9,hb,if_pos (h.trans hk)]
   ·have hb:(g == k)=false:=beq_eq_false_iff_ne.mpr h
    simp only [V9,hb,if_neg (λe:g=f=>h (e.trans hk.symm))]
  ·rw [if_neg hk]
   by_cases h:g=k
   ·have hb:(g == k)=true:=beq_iff_eq.mpr h
    simp only [V9,hb,if_neg (λe:g=f=>hk (h.symm.trans e))]
   ·have hb:(g == k)=false:=beq_eq_false_iff_ne.mpr h
    simp only [V9,hb]
    exact ih
theorem BS (f:Str) (v:V):∀ fs:List (Str × V),f∈(a6 f v fs).map (·.1)/\∀ g,g∈fs.map (·.1)->g∈(a6 f v fs).map (·.1)
 | []=>⟨by simp [a6],λg h=>by simp at h⟩
 | (k,x)::r=>by
  obtain ⟨i1,i2⟩:=BS f v r
  rw [show a6 f v ((k,x)::r)=(if k=f then (k,v)::r else (k,x)::a6 f v r) from rfl]
  by_cases hk:k=f
  ·rw [if_pos hk]
   subst hk
   exact ⟨by simp,λg h=>by simpa using h⟩
  ·rw [if_neg hk]
   refine ⟨?_,λg h=>?_⟩
   ·rw [UT]
    exact U2 _ i1
   ·rw [UT] at h ⊢
    rcases UL.mp h with e | e
    ·exact UL.mpr (.inl e)
    ·exact U2 _ (i2 g e)
theorem CL (f:Str) (v:V):∀ fs:List (Str × V),(a6 f v fs).length<=fs.length+1
 | []=>by simp [a6]
 | (k,x)::r=>by
  have ih:=CL f v r
  rw [show a6 f v ((k,x)::r)=(if k=f then (k,v)::r else (k,x)::a6 f v r) from rfl]
  by_cases hk:k=f
  ·rw [if_pos hk,U0,U0];omega
  ·rw [if_neg hk,U0,U0];omega
theorem vv.some_of {v:V} {o:Option Value} (r:vv (some v) o):∃ u,o=some u/\RelV v u:=by
 cases o with
 | none=>exact (show False from r).elim
 | some u=>exact ⟨u,rfl,r⟩
theorem vv.none_of {o:Option Value} (r:vv none o):o=none:=by
 cases o with
 | none=>rfl
 | some u=>exact (show False from r).elim
theorem LY {v:V} {u:Value} (r:RelV v u):PySem.W.handedIn u=true:=by
 cases v with
 | dH=>cases (show u=Value.none from r);rfl
 | bl b=>cases (show u=Value.bool b from r);rfl
 | int i=>obtain ⟨t,e⟩:=(show ∃ t,u=Value.int i t from r);cases e;rfl
 | str x=>obtain ⟨t,e⟩:=(show ∃ t,u=Value.str x t from r);cases e;rfl
 | Im b=>obtain ⟨t,e⟩:=(show ∃ t,u=Value.bytes b t from r);cases e;rfl
 | Te b=>obtain ⟨t,e⟩:=(show ∃ t,u=Value.float b t from r);cases e;rfl
 | ref a=>cases (show u=Value.ref a from r);rfl
 | ty n=>cases (show u=Value.type n from r);rfl
section
variable {P:Program} {w:World} {H H':Hp} {h h':Heap} {a C dx:Addr} {fs fs':List (Str × V)}
theorem HW (dz:xE P w H h) (e:H a=some (.ins C dx fs)):∃ mA,Ku h a dx C mA/\(∀ f,vv (fs.lookup f) (mA f))/\PySem.Within mA (fs.map (·.1))/\fs.length<=1000/\H dx=some (.own a):=by
 obtain ⟨d,z,ne,ob,mA,n,r,q⟩:=(show iH P w H h a (.ins C dx fs) from dz a _ e)
 exact ⟨mA,⟨ob,n,ne⟩,r,q,z,d⟩
end
structure Fs (K:Uy) (C:Addr):Prop where
 pg:WO K C Str.empty=true
 hd:PySem.W.hasDictIn K C=true
 po:PySem.W.plainOver K C=true
 sa:VD K (.ref C) "__setattr__"=some (some (.builtin "object.__setattr__"))
theorem Fs.get {K:Uy} {C:Addr} (c:Fs K C) (f:Str):WO K C f=true:=c.pg
def bg (K:Uy) (C:Addr) (f:Str):Prop:=VD K (.ref C) f=some none
theorem bg.SG {K:Uy} {C:Addr} {f:Str} (n:bg K C f):PySem.W.takerIn K C f=some none:=by
 unfold PySem.W.takerIn
 rw [show VD K (.ref C) f=some none from n]
 rfl
structure Meth (K:Uy) (C:Addr) (m:Str) (f:Addr):Prop where
 at_:VD K (.ref C) m=some (some (.ref f))
 fn:PySem.W.isFn K (.ref f)=true
 kp:VS K (.ref f)=true
section
variable {X:Cx} {pins:List (Addr × Obj)} {σ:St} {H:Hp} {s:Shared} {a C dx:Addr} {fs:List (Str × V)} {f:Str} {v:V} {A:Around} {E:Value->Shared->Prop}
theorem Fg {b:Bool} {Q:Value->Shared->Prop} (I:Inv X pins σ H s) (e:H a=some (.ins C dx fs)) (c:Fs X.K C) (n:bg X.K C f) (l:fs.lookup f=some v)
  (h:∀ u s',Inv X pins σ H s'->RelV v u->Q u s'):wpAny (model X.prog X.w) A (getAttr (.ref a) f b) Q E s:=by
 obtain ⟨mA,O,r,_,_,_⟩:=HW I.dz e
 obtain ⟨u,hu,ru⟩:=vv.some_of (v:=v) (o:=mA f) (by rw [<- l];exact r f)
 exact get_map I.Jy O (c.get f) c.hd n hu (LY ru) (h u _ (I.tok _) ru)
theorem DW {m:Str} {g:Addr} {pl:Sem Bool} {Q:Value × List Value->Shared->Prop} (I:Inv X pins σ H s) (e:H a=some (.ins C dx fs)) (c:Fs X.K C) (k:Meth X.K C m g) (l:fs.lookup m=none)
  (h:Q (.ref g,[.ref a]) s):wpAny (model X.prog X.w) A (getMethod (.ref a) m pl) Q E s:=by
 obtain ⟨mA,O,r,_,_,_⟩:=HW I.dz e
 have hn:mA m=none:=vv.none_of (by rw [<- l];exact r m)
 exact Ng I.Jy O (c.get m) k.at_ k.fn hn h
theorem Ep {y:V} {u:Value} {Q:Unit->Shared->Prop} (I:Inv X pins σ H s) (e:H a=some (.ins C dx fs)) (c:Fs X.K C) (n:bg X.K C f) (hl:fs.length < 1000) (ry:RelV y u)
  (h:∀ s',Inv X pins σ (upd H a (.ins C dx (a6 f y fs))) s'->Q () s'):wpAny (model X.prog X.w) A (setAttr (.ref a) f u) Q E s:=by
 obtain ⟨mA,O,r,wi,_,ho⟩:=HW I.dz e
 have hz:(fs.map (·.1)).length<=sizeLine:=by rw [UA,sizeLine_eq];omega
 refine Pb I.Jy O c.sa c.po n.SG c.hd wi hz λh' O' sb=>h _ ?_
 have hd:∃ o,h'.get? dx=some o:=let ⟨o,_,_,e',_⟩:=O'.ns;⟨o,e'⟩
 refine I.write (x:=a) (e:=dx) (by rw [e];exact True.intro) (.inr ho) (λb q hb z=>(sb.2 b hb).trans z) hd ?_
 refine ⟨by rw [ak O.ne];exact ho,?_,O.ne,O'.obj,_,O'.ns,λg=>?_,λg hg=>?_⟩
 ·have:=CL f y fs;omega
 ·show vv ((a6 f y fs).lookup g) (if g=f then some u else mA g)
  rw [CF]
  by_cases q:g=f
  ·rw [if_pos q,if_pos q];exact ry
  ·rw [if_neg q,if_neg q];exact r g
 ·by_cases q:g=f
  ·rw [q];exact (BS f y fs).1
  ·refine (BS f y fs).2 g (wi g λz=>hg ?_)
   show (if g=f then some u else mA g)=none
   rw [if_neg q];exact z
theorem Inv.made (I:Inv X pins σ H s):Inv X pins σ (upd (upd H s.heap.objs.size (.own (s.heap.objs.size+1))) (s.heap.objs.size+1) (.ins C s.heap.objs.size []))
  { s with heap:=(s.heap.push V0).push (V6 C s.heap.objs.size) }:=by
 have e1:(s.heap.push V0).get? s.heap.objs.size=some V0:=Heap.get?_push_size s.heap rfl
 have e2:((s.heap.push V0).push (V6 C s.heap.objs.size)).get? (s.heap.objs.size+1)=some (V6 C s.heap.objs.size):=by
  have:=Heap.get?_push_size (s.heap.push V0) (o:=V6 C s.heap.objs.size) rfl
  rwa [Heap.size_push] at this
 have e3:(s.heap.push V0).Ns s.heap.objs.size (λ_=>none):=⟨V0,#[],_,e1,rfl,(λe he=>absurd he (by simp)),λ_=>rfl⟩
 have I1:=I.laid (a:=s.heap.objs.size) (o:=.own (s.heap.objs.size+1)) (h':=s.heap.push V0) (t':=s.toks) (λb u q=>Heap.get?_push_of_some _ q) (UI _) ⟨_,e1⟩
 refine I1.laid (a:=s.heap.objs.size+1) (o:=.ins C s.heap.objs.size []) (t':=s.toks) (λb u q=>Heap.get?_push_of_some _ q) (Nat.le_of_eq (Heap.size_push _ _)) ?_
 have ne:s.heap.objs.size≠s.heap.objs.size+1:=U7 (Nat.lt_succ_self _)
 refine ⟨by rw [ak ne,ae],U9 _,ne,e2,λ_=>none,(Heap.Ns1.of_empty e3).at λo q=>Heap.get?_push_of_some _ q,λ_=>True.intro,λy hy=>absurd rfl hy⟩
theorem PJ {prog:Program} {w:World} {env:Env} {e:Expr} {f:Str} {pos:Pos} {s:Shared} {Q:Value->Shared->Prop} (hb:attributeBase e f env (eval e env)=eval e env)
  (h:wpAny (model prog w) A (eval e env) (λo s₁=>wpAny (model prog w) A (getAttr o f true) Q E s₁) E s):wpAny (model prog w) A (eval (.Attribute e f pos) env) Q E s :=
 Attribute_any_ h (by rw [arm_eval_Attribute,hb])
end
def So (K:Uy) (ta:TE) (f:Str):TE:=λσ H Q=>ta σ H λx H1=>∃ a C dx fs v,x=.ref a/\H1 a=some (.ins C dx fs)/\Fs K C/\bg K C f/\fs.lookup f=some v/\Q v H1
def RY (K:Uy) (ta tv:TE) (f:Str):TS:=λD σ H=>tv σ H λy H1=>ta σ H1 λx H2=>∃ a C dx fs,x=.ref a/\H2 a=some (.ins C dx fs)/\Fs K C/\bg K C f/\fs.length < 1000 /\
 D.nx σ (upd H2 a (.ins C dx (a6 f y fs)))
def Ov (X:Cx) (op:Operator) (rd:V->V->Hp->VK->Prop):Prop :=
 ∀ (pins:List (Addr × Obj)) (s:Shared) (σ:St) (H:Hp) (x y:V) (u v:Value) (Q:VK),Inv X pins σ H s->RelV x u->RelV y v->rd x y H Q->wpAny (model X.prog X.w) X.A (inplaceOp op u v) (EP X pins σ Q) X.xe s
def KH (K:Uy) (ta tv:TE) (rd:V->V->Hp->VK->Prop) (f:Str):TS:=λD σ H=>ta σ H λx H1=>∃ a C dx fs v,x=.ref a/\H1 a=some (.ins C dx fs)/\Fs K C/\bg K C f/\fs.lookup f=some v /\
 tv σ H1 λy H2=>rd v y H2 λz H3=>∃ dx' fs',H3 a=some (.ins C dx' fs')/\fs'.length < 1000/\D.nx σ (upd H3 a (.ins C dx' (a6 f z fs')))
section
variable {X:Cx} {o e value:Expr} {f:Str} {pos pos' tpos:Pos} {ta tv:TE}
theorem RL (he:PE X e ta) (hb:attributeBase e f X.env (eval e X.env)=eval e X.env):PE X (.Attribute e f pos) (So X.K ta f):=by
 intro pins s σ H Q I h
 refine PJ hb (dP (he pins s σ H _ I h) λu s1 ⟨x,H1,I1,rx,a,C,dx,fs,v,ex,ea,c,n,l,q⟩=>?_)
 subst ex
 obtain rfl:u=Value.ref a:=rx
 exact Fg I1 ea c n l λu' s2 I2 ru=>⟨v,H1,I2,ru,q⟩
theorem QX (ha:PE X o ta) (hv:PE X value tv) (hs:swapsWith value (some (.Attribute o f pos')) pos.line X.env=pure false):PS X (.Assign [.Attribute o f pos'] value pos) (RY X.K ta tv f):=by
 intro pins s σ H D I h
 refine plainObj_wpAny_Assign_Attribute (dP (hv pins s σ H _ I h) λu s1 ⟨y,H1,I1,ry,q⟩=>dP (ha pins s1 σ H1 _ I1 q) λov s2 ⟨x,H2,I2,rx,a,C,dx,fs,ex,ea,c,n,l,q2⟩=>?_) hs
 subst ex
 obtain rfl:ov=Value.ref a:=rx
 exact Ep I2 ea c n l ry λs3 I3=>⟨σ,_,I3,q2⟩
theorem Mj {op:Operator} {rd:V->V->Hp->VK->Prop} (ha:PE X o ta) (hv:PE X value tv) (hop:Ov X op rd):PS X (.AugAssign (.Attribute o f tpos) op value pos) (KH X.K ta tv rd f):=by
 intro pins s σ H D I h
 refine wpAny_AugAssign_AttributeAny (dP (ha pins s σ H _ I h) λov s1 ⟨x,H1,I1,rx,a,C,dx,fs,v,ex,ea,c,n,l,q⟩=>?_)
 subst ex
 obtain rfl:ov=Value.ref a:=rx
 refine Fg I1 ea c n l λu s2 I2 ru=>dP (hv pins s2 σ H1 _ I2 q) λw3 s3 ⟨y,H2,I3,ry,q3⟩=>dP (hop pins s3 σ H2 v y u w3 _ I3 ru ry q3) λw4 s4 ⟨z,H3,I4,rz,dx',fs',ea',l',q4⟩=>?_
 exact Ep I4 ea' c n l' rz λs5 I5=>⟨σ,_,I5,q4⟩
def Tv:V->V->Hp->VK->Prop:=λx y H Q=>∃ i j,x=.int i/\y=.int j/\Q (.int (i+j)) H
def Tx:V->V->Hp->VK->Prop:=λx y H Q=>∃ i j,x=.int i/\y=.int j/\Q (.int (i - j)) H
theorem uQ:Ov X .Add Tv:=by
 rintro pins s σ H x y u v Q I rx ry ⟨i,j,rfl,rfl,q⟩
 obtain ⟨t,rfl⟩:=(show ∃ t,u=Value.int i t from rx)
 obtain ⟨t',rfl⟩:=(show ∃ t',v=Value.int j t' from ry)
 exact PyProof.Rows.iadd_int ⟨.int (i+j),H,I.tok _,⟨_,rfl⟩,q⟩
theorem QJ:Ov X .Sub Tx:=by
 rintro pins s σ H x y u v Q I rx ry ⟨i,j,rfl,rfl,q⟩
 obtain ⟨t,rfl⟩:=(show ∃ t,u=Value.int i t from rx)
 obtain ⟨t',rfl⟩:=(show ∃ t',v=Value.int j t' from ry)
 exact PyProof.Rows.isub_int ⟨.int (i - j),H,I.tok _,⟨_,rfl⟩,q⟩
end
end L2
namespace L2
open PySem PySem.Spec PyProof.Rows
structure l3 (k:Nat) (A:Around):Prop where
 hd:A.handled=none
 dp:A.depth+3 * k+5 < recursionLimit
 un:A.units+16 * k+200 < cLine
theorem l3.mono {j k:Nat} {A:Around} (r:l3 k A) (h:j<=k):l3 j A:=⟨r.hd,by have:=r.dp;omega,by have:=r.un;omega⟩
theorem l3.deeper {k:Nat} {A:Around} (r:l3 (k+1) A) (env:Env):l3 k (A.deeper env) :=
 ⟨r.hd,by have:=r.dp;show A.depth+1+3 * k+5 < _;omega,by have:=r.un;show A.units+3+16 * k+200 < _;omega⟩
theorem KA {A:Around} {C:Addr} {us:List Value} {kw:List (Str × Value)}:(A.under (.builtin "type.__call__" ⟨.ref C::us,kw⟩)).depth=A.depth+1:=by
 first | rfl | simp [Around.under,Code.weight,Code.isCreation,Code.isGuard,Code.isCaller,Code.frames,Code.isFrame,guardIds]
theorem JW {A:Around} {C:Addr} {us:List Value} {kw:List (Str × Value)}:(A.under (.builtin "type.__call__" ⟨.ref C::us,kw⟩)).units=A.units+1:=by
 first | rfl | simp [Around.under,Code.cUnits,Code.frames,Code.isFrame]
theorem l3.make {k:Nat} {A:Around} (r:l3 (k+1) A) (C:Addr) (us:List Value) (kw:List (Str × Value)):l3 k (A.under (.builtin "type.__call__" ⟨.ref C::us,kw⟩)) :=
 ⟨r.hd,by have:=r.dp;rw [KA];omega,by have:=r.un;rw [JW];omega⟩
theorem l3.depth {k:Nat} {A:Around} (r:l3 k A):A.depth < recursionLimit:=by have:=r.dp;omega
theorem l3.units {k:Nat} {A:Around} (r:l3 k A):A.units+64 < cLine:=by have:=r.un;omega
def Oh:TA:=λ_ H Q=>Q [] H
def Tb (ta:TE) (tr:TA):TA:=λσ H Q=>ta σ H λx H1=>tr σ H1 λxs H2=>Q (x::xs) H2
section
variable {X:Cx} {e:Expr} {es:List Expr} {te:TE} {t:TA} {pos:Pos}
theorem aj:PA X [] Oh:=λ_ _ _ _ H Q I h=>Calls.spliced_nil ⟨[],H,I,.nil,h⟩
theorem aa (ha:PE X e te) (hr:PA X es t) (hs:starEach (e::es) X.env=(false,eval e X.env)::starEach es X.env:=by rfl):PA X (e::es) (Tb te t):=by
 intro pos pins s σ H Q I h
 rw [hs]
 show wpAny _ _ (spliced ((false,eval e X.env)::backTo pos (starEach es X.env))) _ _ s
 refine Calls.spliced_cons (dP (ha pins s σ H _ I h) λu s1 ⟨x,H1,I1,r1,q1⟩=>?_)
 exact dP (hr pos pins s1 σ H1 _ I1 q1) λus s2 ⟨xs,H2,I2,r2,q2⟩=>⟨x::xs,H2,I2,.cons r1 r2,q2⟩
def TM (t:TA):TE:=λσ H Q=>t σ H λxs H1=>xs.length<=sizeLine/\∀ p,H1 p=none->Q (.ref p) (upd H1 p (.tup xs))
def Tw (t:TA):TE:=λσ H Q=>t σ H λxs H1=>xs.length<=sizeLine/\∀ p,H1 p=none->Q (.ref p) (upd H1 p (.lst xs))
theorem wk {x1} (h:PA X es t):PE X (.Tuple es x1 pos) (TM t):=by
 intro pins s σ H Q I hq
 refine wpAny_Tuple_spliced (dP (h pos pins s σ H _ I hq) λus s1 ⟨xs,H1,I1,r,z,q⟩=>⟨by rw [<- r.length];exact z,?_⟩)
 have hf:H1 s1.heap.objs.size=none:=I1.dz.fresh (UI _)
 refine ⟨.ref s1.heap.objs.size,upd H1 s1.heap.objs.size (.tup xs),I1.laid (t':=s1.toks) (λb u e=>Heap.get?_push_of_some _ e) (UI _) ?_,rfl,q _ hf⟩
 exact ⟨z,us,r,⟨_,Heap.get?_push_size _ rfl,rfl,_,rfl⟩⟩
theorem aT (h:PA X es t):PE X (.List es pos) (Tw t):=by
 intro pins s σ H Q I hq
 refine wpAny_List_spliced (dP (h pos pins s σ H _ I hq) λus s1 ⟨xs,H1,I1,r,z,q⟩=>⟨by rw [<- r.length];exact z,?_⟩)
 have hf:H1 s1.heap.objs.size=none:=I1.dz.fresh (UI _)
 refine ⟨.ref s1.heap.objs.size,upd H1 s1.heap.objs.size (.lst xs),I1.laid (t':=s1.toks) (λb u e=>Heap.get?_push_of_some _ e) (UI _) ?_,rfl,q _ hf⟩
 exact ⟨z,us,0,r,Heap.get?_push_size _ rfl⟩
end
abbrev Sp:=List V->Hp->VK->XK->Prop
abbrev Ow:=List Env->Hp->Shared->XK->Value->Shared->Prop
structure KD (P:Program) (w:World) (K:Uy) (mg:Str->Option Value) (base:Heap) (A:Around) (outer:List Env) (s:Shared) (H:Hp):Prop where
 frames:A.frames=some outer
 mod:Mod K mg base
 bs:∀ b o,base.get? b=some o->s.heap.get? b=some o/\H b=none
 Pf:base.objs.size<=s.heap.objs.size
 Dv:s.heap.FunFrames base outer
 Q8:∀ b∈NT outer,H b=none
 dz:xE P w H s.heap
 bare:AllBare s.gens
def CE (outer:List Env) (P:Program) (w:World) (H:Hp) (s:Shared) (Q:VK) (u:Value) (s':Shared):Prop :=
 ∃ v H',s'.os=s.os/\AllBare s'.gens/\Un (NT outer) [] H H' s.heap s'.heap/\xE P w H' s'.heap/\RelV v u/\Q v H'
def CR (CX:Ow) (outer:List Env) (P:Program) (w:World) (H:Hp) (s:Shared) (Q:VK) (E:XK) (r:Result) (s':Shared):Prop :=
 match r with
 | .ok (.ret u)=>CE outer P w H s Q u s'
 | .ok _=>False
 | .error e=>CX outer H s E e s'
structure a8 (P:Program) (w:World) (K:Uy) (mg:Str->Option Value) (base:Heap) (CX:Ow) (k:Nat) (f:Addr) (fd:FuncData) (ps:List Str) (sp:Sp):Prop where
 len:∀ vs H Q E,sp vs H Q E->vs.length=ps.length
 run:∀ (A:Around) (outer:List Env) (s:Shared) (H:Hp) (args:Args) (us:List Value) (vs:List V) (Q:VK) (E:XK),l3 k A->KD P w K mg base A outer s H->BindsTo s fd args (ps.zip us)->Vals vs us->sp vs H Q E ->
  codeAny (model P w) A (.call (.ref f) args) (CR CX outer P w H s Q E) s
theorem KD.make {P:Program} {w:World} {K:Uy} {mg:Str->Option Value} {base:Heap} {A:Around} {outer:List Env} {s:Shared} {H:Hp} (e:KD P w K mg base A outer s H) (C:Addr) (us:List Value) (kw:List (Str × Value)) :
  KD P w K mg base (A.under (.builtin "type.__call__" ⟨.ref C::us,kw⟩)) outer s H:=⟨by first | exact e.frames | (simpa [Around.under,Code.envs,Code.isFrame,pushEnvs] using e.frames),e.mod,e.bs,e.Pf,e.Dv,e.Q8,e.dz,e.bare⟩
section
variable {X:Cx} {pins:List (Addr × Obj)} {σ:St} {H:Hp} {s s':Shared}
theorem Inv.Sa (I:Inv X pins σ H s):KD X.prog X.w X.K X.mg X.base X.A X.stack s H :=
 ⟨I.ok.frames,I.ok.mod,I.bs,US I.ok.Pf I.sz,I.stack,I.KP,I.dz,I.bare⟩
theorem Inv.after {Q:VK} {u:Value} (I:Inv X pins σ H s) (h:CE X.stack X.prog X.w H s Q u s'):EP X pins σ Q u s':=by
 obtain ⟨v,H',os,bare,un,dz,r,q⟩:=h
 obtain ⟨hh,g,d,t,os'⟩:=s'
 obtain rfl:os'=s.os:=os
 exact ⟨v,H',I.call (h':=hh) (g':=g) (d':=d) (t':=t) (ch:=[]) un dz bare (λb z=>absurd z (by simp)),r,q⟩
end
def SR (sp:Sp) (dvs:List V) (E:XK) (t:TA):TE:=λσ H Q=>t σ H λvs H1=>sp (vs++dvs) H1 Q E
def K2 (C:Addr) (m:Str) (sp:Sp) (dvs:List V) (E:XK) (ta:TE) (t:TA):TE:=λσ H Q=>ta σ H λx H1=>∃ a dx fs,x=.ref a/\H1 a=some (.ins C dx fs)/\fs.lookup m=none /\
 t σ H1 λvs H2=>sp (x::(vs++dvs)) H2 Q E
def Qm (C:Addr) (sp:Sp) (dvs:List V) (E:XK) (t:TA):TE:=λσ H Q=>t σ H λvs H1=>∀ x dx,H1 x=none->H1 dx=none->dx≠x ->
 sp (.ref x::(vs++dvs)) (upd (upd H1 dx (.own x)) x (.ins C dx [])) (λv H2=>v=.dH/\Q (.ref x) H2) E
def Binds (K:Uy) (fd:FuncData) (ps:List Str) (ds:List Value):Prop :=
 ∀ (s:Shared) (us:List Value),K.In s.heap->(us++ds).length=ps.length->BindsTo s fd ⟨us,[]⟩ (ps.zip (us++ds))
theorem Binds.all {K:Uy} {fd:FuncData} {ps:List Str} (h:∀ us:List Value,us.length=ps.length->bindArgs fd ⟨us,[]⟩=pure (ps.zip us)):Binds K fd ps []:=λs us _ hl=>by
 rw [Wa] at hl ⊢
 exact .of_eq (h us hl)
def Passes (CX:Ow) (X:Cx) (E:XK):Prop:=∀ (pins:List (Addr × Obj)) (σ:St) (H:Hp) (s:Shared) (e:Value) (s':Shared),Inv X pins σ H s->CX X.stack H s E e s'->X.xe e s'
section
variable {X:Cx} {CX:Ow} {k:Nat} {f C:Addr} {fd:FuncData} {ps:List Str} {sp:Sp} {dvs:List V} {ds:List Value} {E:XK} {x m:Str} {p pos apos:Pos} {e o:Expr} {es:List Expr} {ta:TE} {t:TA}
theorem HK {pins:List (Addr × Obj)} {σ:St} {H:Hp} {s:Shared} {Q:VK} {us:List Value} {vs:List V} (F:a8 X.prog X.w X.K X.mg X.base CX k f fd ps sp) (hr:l3 k X.A) (hb:Binds X.K fd ps ds) (hd:Vals dvs ds) (hx:Passes CX X E)
  (I:Inv X pins σ H s) (r:Vals vs us) (h:sp (vs++dvs) H Q E):wpAny (model X.prog X.w) X.A (call (.ref f) us) (EP X pins σ Q) X.xe s:=by
 have r2:Vals (vs++dvs) (us++ds):=r.append hd
 have hl:(us++ds).length=ps.length:=by rw [<- r2.length];exact F.len _ _ _ _ h
 refine wpAny_call (codeAny_mono (F.run X.A X.stack s H ⟨us,[]⟩ (us++ds) (vs++dvs) Q E hr I.Sa (hb s us I.Jy hl) r2 h) λr s' hq=>?_)
 cases r with
 | error e=>exact hx pins σ H s e s' I hq
 | ok fl =>
  cases fl with
  | ret u=>exact I.after hq
  | next=>exact False.elim hq
  | brk=>exact False.elim hq
  | cont=>exact False.elim hq
theorem bE (F:a8 X.prog X.w X.K X.mg X.base CX k f fd ps sp) (hr:l3 k X.A) (hg:Gl X x) (hm:X.mg x=some (.ref f)) (hk:VS X.K (.ref f)=true) (hb:Binds X.K fd ps ds) (hd:Vals dvs ds) (hx:Passes CX X E)
  (ha:PA X (e::es) t) (hdb:(x == ("__debug__":Str))=false:=by decide) (he:starEach (e::es) X.env=(false,eval e X.env)::starEach es X.env:=by rfl) (hpl:(backTo pos (starEach es X.env)).any (·.1)=false:=by rfl) :
  PE X (.Call (.Name x p) (e::es) [] pos) (SR sp dvs E t):=by
 intro pins s σ H Q I h
 refine wpAny_Call_Name_kw (DC I hg hm ?_ hdb)
 refine PySem.W.callWith_K (h₀:=X.base) I.ok.mod.O4 hk (dP (ha pos pins s σ H _ I h) λus s1 ⟨vs,H1,I1,r,q⟩=>⟨I1.Jy,?_⟩) he hpl
 exact HK F hr hb hd hx I1 r q
theorem aK {pl:Sem Bool} (he:PE X o ta) (c:Fs X.K C) (hm:Meth X.K C m f) (F:a8 X.prog X.w X.K X.mg X.base CX k f fd ps sp) (hr:l3 k X.A) (hb:Binds X.K fd ps ds) (hd:Vals dvs ds) (hx:Passes CX X E) (ha:PA X (e::es) t)
  (hst:starEach (e::es) X.env=(false,eval e X.env)::starEach es X.env:=by rfl) (hpl:(backTo pos (starEach es X.env)).any (·.1)=false:=by rfl)
  (ht:eval (.Call (.Attribute o m apos) (e::es) [] pos) X.env=(do
   let ov <- eval o X.env
   standAt apos.atName
   let (f,first) <- holding [ov] (getMethod ov m pl)
   callWith pos f first (backTo pos (starEach (e::es) X.env)) (backToKw pos (keywordEach [] X.env))):=by rfl) :
  PE X (.Call (.Attribute o m apos) (e::es) [] pos) (K2 C m sp dvs E ta t):=by
 intro pins s σ H Q I h
 refine PySem.W.methodCall_KW (pl:=pl) (dP (he pins s σ H _ I h) λu s1 ⟨x,H1,I1,rx,a,dx,fs,ex,ea,l,q⟩=>?_) ht
 subst ex
 obtain rfl:u=Value.ref a:=rx
 refine DW I1 ea c hm l ?_
 refine PySem.W.callWith_K (first:=[.ref a]) (h₀:=X.base) I.ok.mod.O4 hm.kp (dP (ha pos pins s1 σ H1 _ I1 q) λus s2 ⟨vs,H2,I2,r,q2⟩=>⟨I2.Jy,?_⟩) hst hpl
 exact HK (us:=.ref a::us) (vs:=.ref a::vs) F hr hb hd hx I2 (.cons rfl r) q2
theorem b7 {pl:Sem Bool} (he:PE X o ta) (c:Fs X.K C) (hm:Meth X.K C m f) (F:a8 X.prog X.w X.K X.mg X.base CX k f fd ps sp) (hr:l3 k X.A) (hb:Binds X.K fd ps ds) (hd:Vals dvs ds) (hx:Passes CX X E)
  (ht:eval (.Call (.Attribute o m apos) [] [] pos) X.env=(do
   let ov <- eval o X.env
   standAt apos.atName
   let (f,first) <- holding [ov] (getMethod ov m pl)
   callWith pos f first (backTo pos (starEach [] X.env)) (backToKw pos (keywordEach [] X.env))):=by rfl) :
  PE X (.Call (.Attribute o m apos) [] [] pos) (K2 C m sp dvs E ta Oh):=by
 intro pins s σ H Q I h
 refine PySem.W.methodCall_KW (pl:=pl) (dP (he pins s σ H _ I h) λu s1 ⟨x,H1,I1,rx,a,dx,fs,ex,ea,l,q⟩=>?_) ht
 subst ex
 obtain rfl:u=Value.ref a:=rx
 refine DW I1 ea c hm l ?_
 exact PySem.W.callWith_K0 (first:=[.ref a]) I1.Jy hm.kp (HK (us:=[.ref a]) (vs:=[.ref a]) F hr hb hd hx I1 (.cons rfl .nil) q)
structure Mk (K:Uy) (C f:Addr):Prop where
 makes:PySem.W.makesIn K C=true
 init:VD K (.ref C) "__init__"=some (some (.ref f))
 fn:PySem.W.isFn K (.ref f)=true
 kp:VS K (.ref C)=true
theorem IF {pins:List (Addr × Obj)} {σ:St} {H:Hp} {s:Shared} {Q:VK} {us:List Value} {vs:List V} (M:Mk X.K C f) (F:a8 X.prog X.w X.K X.mg X.base CX k f fd ps sp) (hr:l3 (k+1) X.A) (hb:Binds X.K fd ps ds) (hd:Vals dvs ds)
  (hx:Passes CX X E) (I:Inv X pins σ H s) (r:Vals vs us)
  (h:∀ x dx,H x=none->H dx=none->dx≠x->sp (.ref x::(vs++dvs)) (upd (upd H dx (.own x)) x (.ins C dx [])) (λv H2=>v=.dH/\Q (.ref x) H2) E) :
  wpAny (model X.prog X.w) X.A (call (.ref C) us) (EP X pins σ Q) X.xe s:=by
 have hq:=h (s.heap.objs.size+1) s.heap.objs.size (I.dz.fresh (Vh _)) (I.dz.fresh (UI _)) (U7 (Nat.lt_succ_self _))
 have I2:=Inv.made (C:=C) I
 have r2:Vals (V.ref (s.heap.objs.size+1)::(vs++dvs)) (Value.ref (s.heap.objs.size+1)::(us++ds)):=.cons rfl (r.append hd)
 have hl:(Value.ref (s.heap.objs.size+1)::us++ds).length=ps.length:=by
  have e:=r2.length
  rw [F.len _ _ _ _ hq] at e
  exact e.symm
 refine wpAny_call (NQ (f:=f) I.Jy M.makes M.init (beq_iff_eq.mp M.fn) (codeAny_mono (F.run _ X.stack _ _ ⟨Value.ref (s.heap.objs.size+1)::us,[]⟩ (Value.ref (s.heap.objs.size+1)::(us++ds)) _ _ E (hr.make C us [])
  (I2.Sa.make C us []) (hb _ (Value.ref (s.heap.objs.size+1)::us) I2.Jy hl) r2 hq) λr s' hq'=>?_))
 cases r with
 | error e=>exact hx pins σ _ _ e s' I2 hq'
 | ok fl =>
  cases fl with
  | ret u =>
   obtain ⟨v,H',I3,rv,ev,q3⟩:=I2.after hq'
   subst ev
   exact ⟨rv,⟨V.ref (s.heap.objs.size+1),H',I3,rfl,q3⟩⟩
  | next=>exact False.elim hq'
  | brk=>exact False.elim hq'
  | cont=>exact False.elim hq'
theorem rl (M:Mk X.K C f) (F:a8 X.prog X.w X.K X.mg X.base CX k f fd ps sp) (hr:l3 (k+1) X.A) (hg:Gl X x) (hm:X.mg x=some (.ref C)) (hb:Binds X.K fd ps ds) (hd:Vals dvs ds) (hx:Passes CX X E)
  (ha:PA X (e::es) t) (hdb:(x == ("__debug__":Str))=false:=by decide) (he:starEach (e::es) X.env=(false,eval e X.env)::starEach es X.env:=by rfl) (hpl:(backTo pos (starEach es X.env)).any (·.1)=false:=by rfl) :
  PE X (.Call (.Name x p) (e::es) [] pos) (Qm C sp dvs E t):=by
 intro pins s σ H Q I h
 refine wpAny_Call_Name_kw (DC I hg hm ?_ hdb)
 refine PySem.W.callWith_K (h₀:=X.base) I.ok.mod.O4 M.kp (dP (ha pos pins s σ H _ I h) λus s1 ⟨vs,H1,I1,r,q⟩=>⟨I1.Jy,?_⟩) he hpl
 exact IF M F hr hb hd hx I1 r q
theorem Ek (M:Mk X.K C f) (F:a8 X.prog X.w X.K X.mg X.base CX k f fd ps sp) (hr:l3 (k+1) X.A) (hg:Gl X x) (hm:X.mg x=some (.ref C)) (hb:Binds X.K fd ps ds) (hd:Vals dvs ds) (hx:Passes CX X E)
  (hdb:(x == ("__debug__":Str))=false:=by decide):PE X (.Call (.Name x p) [] [] pos) (Qm C sp dvs E Oh):=by
 intro pins s σ H Q I h
 refine wpAny_Call_Name_kw (DC I hg hm ?_ hdb)
 exact PySem.W.callWith_K0 I.Jy M.kp (IF (us:=[]) M F hr hb hd hx I .nil h)
end
structure aC (N P:List Str) (sc:Scope):Prop where
 kind:sc.kind=.function
 co:sc.isCoroutine=false
 gen:sc.isGenerator=false
 nd:N.Nodup
 pre:N.take P.length=P
 par:∀ x∈P,sc.names.lookup x=some .local∨sc.names.lookup x=some .cell
 Qr:∀ y∈sc.names,y.2≠.free
theorem Gs {kindOf:Str->Option NameKind} {x:Str}:∀ {binds:List (Str × Value)} {m:Str->Option Value},(∀ v,(x,v) ∉ binds)->bindL kindOf binds m x=m x
 | [],_,_=>rfl
 | (n,v)::r,m,h=>by
  unfold bindL
  rw [Gs λw hw=>h w (U2 _ hw)]
  split
  ·have:x≠n:=by rintro rfl;exact h v UZ
   simp [this]
  ·rfl
theorem Gf {kindOf:Str->Option NameKind} {x:Str}:∀ {binds:List (Str × Value)} {m:Str->Option Value},(∀ v,(x,v) ∉ binds)->bindC kindOf binds m x=m x
 | [],_,_=>rfl
 | (n,v)::r,m,h=>by
  unfold bindC
  rw [Gf λw hw=>h w (U2 _ hw)]
  split
  ·rfl
  ·have:x≠n:=by rintro rfl;exact h v UZ
   simp [this]
theorem Gx {kindOf:Str->Option NameKind} {x:Str} {v:Value}:∀ {P:List Str} {vs:List Value} {i:Nat} {m:Str->Option Value},P.Nodup->P[i]?=some x->vs[i]?=some v->kindOf x=some .local ->
  bindL kindOf (P.zip vs) m x=some v
 | [],_,_,_,_,h,_,_=>by simp at h
 | _::_,[],_,_,_,_,h,_=>by simp at h
 | p::P,w::vs,0,m,nd,h1,h2,hk=>by
  simp at h1 h2;subst h1;subst h2
  show bindL kindOf ((p,w)::P.zip vs) m p=_
  unfold bindL
  rw [Gs λv hv=>(VO.mp nd).1 (List.of_mem_zip hv).1,if_pos hk]
  simp
 | p::P,w::vs,i+1,m,nd,h1,h2,hk=>by
  show bindL kindOf ((p,w)::P.zip vs) m x=_
  unfold bindL
  exact Gx (i:=i) (VO.mp nd).2 (by simpa using h1) (by simpa using h2) hk
theorem Gj {kindOf:Str->Option NameKind} {x:Str} {v:Value}:∀ {P:List Str} {vs:List Value} {i:Nat} {m:Str->Option Value},P.Nodup->P[i]?=some x->vs[i]?=some v->kindOf x≠some .local ->
  bindC kindOf (P.zip vs) m x=some v
 | [],_,_,_,_,h,_,_=>by simp at h
 | _::_,[],_,_,_,_,h,_=>by simp at h
 | p::P,w::vs,0,m,nd,h1,h2,hk=>by
  simp at h1 h2;subst h1;subst h2
  show bindC kindOf ((p,w)::P.zip vs) m p=_
  unfold bindC
  rw [Gf λv hv=>(VO.mp nd).1 (List.of_mem_zip hv).1,if_neg hk]
  simp
 | p::P,w::vs,i+1,m,nd,h1,h2,hk=>by
  show bindC kindOf ((p,w)::P.zip vs) m x=_
  unfold bindC
  exact Gj (i:=i) (VO.mp nd).2 (by simpa using h1) (by simpa using h2) hk
def start (N:List Str) (vs:List V):St:=vs.map some++Wl (N.length - vs.length) none
def LP (CX:Ow) (P:Program) (w:World) (K:Uy) (mg:Str->Option Value) (base:Heap) (N:List Str) (qual:Str) (scope:Scope) (f:Addr) (cd:Value) (A:Around) (outer:List Env) (s:Shared) (H:Hp) (E:XK):Cx where
 prog:=P
 w:=w
 K:=K
 mg:=mg
 base:=base
 A:=A.deeper (envOfC qual scope s.heap.objs.size f cd)
 N:=N
 F6:=s
 Ru:=H
 env:=envOfC qual scope s.heap.objs.size f cd
 outer:=outer
 stack:=envOfC qual scope s.heap.objs.size f cd::outer
 ex:=[]
 calm:=true
 fn:=λ_=>true
 pn:=[]
 xe:=λe s'=>wpAny (model P w) (A.deeper (envOfC qual scope s.heap.objs.size f cd)) (leaving (envOfC qual scope s.heap.objs.size f cd) e) (λ_ s''=>CX outer H s E e s'') (λe' s''=>CX outer H s E e' s'') s'
theorem Jj {sc:Scope} {n:Nat} {x:Str} (h:sc.names.lookup x=some .cell):∃ c,(cellsFrom n sc.names []).lookup x=some c:=by
 have q:=PySem.W.cellsFrom_some sc.names n [] (.inl h)
 exact Option.isSome_iff_exists.mp q
theorem L9 {CX:Ow} {P:Program} {w:World} {K:Uy} {mg:Str->Option Value} {base:Heap} {N ps:List Str} {qual:Str} {scope:Scope} {f:Addr} {cd:Value} {A:Around} {outer:List Env} {s s1:Shared} {H:Hp} {E:XK} {us:List Value} {vs:List V}
  (S:aC N ps scope) (hd:A.handled=none) (e0:KD P w K mg base A outer s H) (hl:vs.length=ps.length) (r:Vals vs us)
  (x:InCallC s s.heap.objs.size (bindL (envOfC qual scope s.heap.objs.size f cd).kindOf (ps.zip us) λ_=>none) (cellsFrom (s.heap.objs.size+1) scope.names []) (bindC (envOfC qual scope s.heap.objs.size f cd).kindOf (ps.zip us) λ_=>none) s1) :
  Inv (LP CX P w K mg base N qual scope f cd A outer s H E) [] (start N vs) H s1:=by
 have hpl:ps.length<=N.length:=by have:=congrArg List.length S.pre;rw [Va] at this;omega
 obtain ⟨h1,tk,rfl,hk⟩:=x.done
 have noA:∀ b:Addr,b ∉ (LP CX P w K mg base N qual scope f cd A outer s H E).ex:=λb z=>absurd (show b∈([]:List Addr) from z) (by simp)
 refine ⟨⟨e0.mod,S.kind,rfl,rfl,UI _,λy z c h1 h2=>?_,λy hy=>?_,λy c _ h=>?_,λ_=>hd,Around.frames_deeper e0.frames,.inr ⟨rfl,rfl⟩,λb z=>absurd z (noA b),e0.bs,e0.Pf,λb _ _=>noA b,λb z=>absurd z (noA b),e0.Dv,e0.Q8⟩,
  rfl,e0.bare,Un.kept hk,⟨_,x.toInCall.ns,λi y v h1 h2 h3=>?_⟩,λy c h=>⟨_,x.cell y c h⟩,e0.dz.fresh (UI _),λy c h=>?_,λp hp=>absurd (show p∈([]:List (Addr × Obj)) from hp) (by simp),e0.dz.kept hk,?_⟩
 ·exact name_of_addr x.apart (Vu h1) (Vu h2)
 ·have hy:scope.names.lookup y=some .cell∨scope.names.lookup y=some .free:=hy
  rcases hy with hy | hy
  ·exact Jj hy
  ·exact absurd rfl (S.Qr _ (Vu hy))
 ·exact Nat.le_of_lt (x.above y c (Vu h))
 ·have hi:i < vs.length:=by
   unfold start at h2
   by_cases hi:i < vs.length
   ·exact hi
   ·rw [Wm (by simpa using hi)] at h2
    rw [List.getElem?_replicate] at h2
    split at h2<;>cases h2
  have ha:vs[i]?=some v:=by
   unfold start at h2
   rw [WB (by simpa using hi),Ve] at h2
   cases e:vs[i]? with
   | none=>rw [e] at h2;cases h2
   | some a=>rw [e] at h2;cases h2;rfl
  obtain ⟨u,hu,rv⟩:=r.get ha
  have hp:ps[i]?=some y:=by
   rw [<- S.pre,WR (by omega)];exact h1
  have ndP:ps.Nodup:=by rw [<- S.pre];exact S.nd.sublist (List.take_sublist _ _)
  refine ⟨u,rv,?_⟩
  rcases S.par y (Vf hp) with k | k
  ·exact .inl ⟨k,Gx ndP hp hu k⟩
  ·obtain ⟨c,e⟩:=Jj (n:=s.heap.objs.size+1) k
   refine .inr ⟨.inl k,c,e,?_⟩
   have q:=x.cell y c e
   rw [Gj ndP hp hu (by show scope.names.lookup y≠_;rw [k];decide)] at q
   exact q
 ·exact e0.dz.fresh (Nat.le_of_lt (x.above y c (Vu h)))
 ·unfold start
  show _=N.length
  rw [Vk,UA,Wn]
  omega
theorem RX {CX:Ow} {P:Program} {w:World} {K:Uy} {mg:Str->Option Value} {base:Heap} {k:Nat} {f:Addr} {name qual:Str} {params:Arguments} {body:List Stmt} {scope:Scope} {dV kV doc pm cdv ct oc:Value} {an od:Option Addr}
  {osl:Array (Option Value)} {N ps:List Str} {sp:Sp} (lk:K.lookup f=some ⟨oc,od,.func (VP name qual params body scope dV kV doc pm an cdv ct),osl⟩) (hcd:WC K cdv qual=true) (S:aC N ps scope)
  (len:∀ vs H Q E,sp vs H Q E->vs.length=ps.length)
  (hbody:∀ (A:Around) (outer:List Env) (s:Shared) (H:Hp) (vs:List V) (Q:VK) (E:XK),l3 k (A.deeper (envOfC qual scope s.heap.objs.size f cdv))->sp vs H Q E ->
   ∃ t,MN (LP CX P w K mg base N qual scope f cdv A outer s H E) body t/\t { nx:=λ_ H'=>Q .dH H',rt:=Q } (start N vs) H) :
  a8 P w K mg base CX (k+1) f (VP name qual params body scope dV kV doc pm an cdv ct) ps sp:=by
 refine ⟨len,λA outer s H args us vs Q E hr e0 hb r hsp=>?_⟩
 have hl:=len _ _ _ _ hsp
 have KX:K.In s.heap:=e0.mod.O4.keeps λb o e=>(e0.bs b o e).1
 have lim:s.heap.NoLimit:=e0.mod.nolimit.keeps λb o e=>(e0.bs b o e).1
 have hkind:∀ y∈ps.zip us,scope.names.lookup y.1=some .local∨(scope.names.lookup y.1=some .cell/\((cellsFrom (s.heap.objs.size+1) scope.names []).lookup y.1).isSome=true):=λ⟨n,v⟩ hy=>by
  rcases S.par n (List.of_mem_zip hy).1 with q | q
  ·exact .inl q
  ·exact .inr ⟨q,PySem.W.cellsFrom_some _ _ _ (.inl q)⟩
 refine codeAny_call_function hr.depth (KX _ _ lk) rfl S.co S.gen rfl (PySem.W.codeRec_of KX hcd) (hb _ _ _ _ ?_)
 refine wpAny_newFunctionEnv_cells S.kind hkind λenv he s1 x=>?_
 subst he
 refine ⟨lim.keeps x.toInCall.keep,codeAny_func ?_⟩
 obtain ⟨t,ht,hq⟩:=hbody A outer s H vs Q E (hr.deeper _) hsp
 have I:Inv (LP CX P w K mg base N qual scope f cdv A outer s H E) [] (start N vs) H s1:=L9 S hr.hd e0 hl r x
 refine wpAny_mono (ht [] s1 (start N vs) H _ I hq) (λfl s' hs=>?_) λe s' hs=>hs
 have fin:∀ {σ':St} {H':Hp} {v:V} {u:Value},Inv (LP CX P w K mg base N qual scope f cdv A outer s H E) [] σ' H' s'->RelV v u->Q v H'->CE outer P w H s Q u s' :=
  λ{σ' H' v u} J rv q=>⟨v,H',J.os,J.bare,J.base,J.dz,rv,q⟩
 cases fl with
 | ret u =>
  obtain ⟨v,σ',H',J,rv,q⟩:=hs
  exact fin J rv q
 | next =>
  obtain ⟨σ',H',J,q⟩:=hs
  exact fin (v:=V.dH) (u:=Value.none) J rfl q
 | brk =>
  obtain ⟨_,_,_,q⟩:=hs
  exact False.elim q
 | cont =>
  obtain ⟨_,_,_,q⟩:=hs
  exact False.elim q
end L2
namespace L2
open PySem PySem.Spec PyProof.Rows
section
variable {X:Cx} {x:Str} {p pos:Pos} {e:Expr} {es:List Expr} {t:TA} {id T:String} {r:List V->Hp->VK->Prop}
def Ui (r:List V->Hp->VK->Prop) (t:TA):TE:=λσ H Q=>t σ H λvs H1=>r vs H1 Q
theorem aU (hc:mZ X (.builtin id) r) (hg:Gl X x) (hm:X.mg x=none) (hv:bootBuiltins x=some (.builtin id)) (ha:PA X (e::es) t) (hn:x≠"__name__":=by decide) (hdb:(x == ("__debug__":Str))=false:=by decide)
  (he:starEach (e::es) X.env=(false,eval e X.env)::starEach es X.env:=by rfl) (hpl:(backTo pos (starEach es X.env)).any (·.1)=false:=by rfl):PE X (.Call (.Name x p) (e::es) [] pos) (Ui r t):=by
 intro pins s σ H Q I h
 refine wpAny_Call_Name_kw (HC I hg hm hv ?_ hn hdb)
 exact PyProof.Rows.callWith_builtin1 (dP (ha pos pins s σ H _ I h) λus s1 ⟨vs,H1,I1,r1,q1⟩=>hc pins s1 σ H1 vs us Q I1 r1 q1) he hpl
theorem gb (hc:mZ X (.type T) r) (hg:Gl X x) (hm:X.mg x=none) (hv:bootBuiltins x=some (.type T)) (ha:PA X (e::es) t) (hn:x≠"__name__":=by decide) (hdb:(x == ("__debug__":Str))=false:=by decide)
  (he:starEach (e::es) X.env=(false,eval e X.env)::starEach es X.env:=by rfl) (hpl:(backTo pos (starEach es X.env)).any (·.1)=false:=by rfl):PE X (.Call (.Name x p) (e::es) [] pos) (Ui r t):=by
 intro pins s σ H Q I h
 refine wpAny_Call_Name_kw (HC I hg hm hv ?_ hn hdb)
 exact PyProof.Rows.callWith_type1 (dP (ha pos pins s σ H _ I h) λus s1 ⟨vs,H1,I1,r1,q1⟩=>hc pins s1 σ H1 vs us Q I1 r1 q1) he hpl
end
end L2
namespace HT
open PySem PyProof.Rows
section
variable {prog:Program} {w:World} {A:Around} {E:Value->Shared->Prop} {s:Shared}
def pR (n d:Nat):Option Int->Nat
 | none=>d
 | some v=>if v < 0 then (v+(n:Int)).toNat else min v.toNat n
theorem DG (n d k:Nat):pR n d (some (k:Int))=min k n:=by
 show (if (k:Int) < 0 then ((k:Int)+(n:Int)).toNat else min (k:Int).toNat n)=min k n
 rw [if_neg (by omega),Wo]
theorem QZ (n d:Nat) (hd:d<=n) (o:Option Int):pR n d o<=n:=by
 cases o with
 | none=>exact hd
 | some v =>
  show (if v < 0 then (v+(n:Int)).toNat else min v.toNat n)<=n
  by_cases hv:v < 0
  ·rw [if_pos hv];omega
  ·rw [if_neg hv];exact Nat.min_le_right _ _
theorem Le (v:Int) (n d:Nat):(if v < 0 then max (v+(n:Int)) 0 else min v (n:Int))=((pR n d (some v):Nat):Int):=by
 show (if v < 0 then max (v+(n:Int)) 0 else min v (n:Int))=(((if v < 0 then (v+(n:Int)).toNat else min v.toNat n):Nat):Int)
 by_cases hv:v < 0
 ·simp only [if_pos hv];omega
 ·simp only [if_neg hv];omega
theorem J2 (lo hi:Option Int) (n:Nat):Builtin.Slice.sliceAdjust lo hi 1 (n:Int)=(((pR n 0 lo:Nat):Int),((pR n n hi:Nat):Int)):=by
 have h1:¬ ((1:Int) < 0):=by omega
 unfold Builtin.Slice.sliceAdjust
 simp only [h1,if_false]
 refine Prod.ext ?_ ?_
 ·cases lo with
  | none=>rfl
  | some v=>exact Le v n 0
 ·cases hi with
  | none=>rfl
  | some v=>exact Le v n n
theorem Kf (i j:Nat):Builtin.Slice.slicePlaces (i:Int) (j:Int) 1=j - i:=by
 unfold Builtin.Slice.slicePlaces
 have h1:(1:Int) > 0:=by omega
 simp only [h1,if_true,Int.ediv_one]
 split<;>omega
theorem EE {v:Value} {o:Option Int} {Q:Option Int->Shared->Prop} (p:IsPart v o) (h:Q o s):wpAny (model prog w) A (Builtin.Slice.slicePartIndex v) Q E s:=by
 cases p with
 | none=>exact slicePart_none h
 | int i t=>exact slicePart_int h
theorem BA {sl:Addr} {vl vu:Value} {lo hi:Option Int} {n:Nat} {Q:Int × Int × Nat->Shared->Prop} (hs:s.heap.IsSliceOf sl vl vu .none) (pl:IsPart vl lo) (pu:IsPart vu hi)
  (h:Q (((pR n 0 lo:Nat):Int),1,pR n n hi - pR n 0 lo) s):wpAny (model prog w) A (Builtin.Slice.sliceApplied (.ref sl) (pure (n:Int))) Q E s:=by
 obtain ⟨os,hos,hcs,hds⟩:=id hs
 unfold Builtin.Slice.sliceApplied Builtin.Slice.sliceFields
 refine wpAny_bind (wpAny_bind (wpAny_field hos hds (x:=vl) rfl (wpAny_bind (wpAny_field hos hds (x:=vu) rfl (wpAny_bind (wpAny_field hos hds (x:=.none) rfl (wpAny_pure ?_)))))))
 refine wpAny_bind (slicePart_none ?_)
 show wpAny _ _ (if ((1:Int) == 0)=true then _ else _) _ _ s
 rw [if_neg (by decide)]
 refine wpAny_bind (EE pl (wpAny_bind (EE pu (wpAny_bind (wpAny_pure ?_)))))
 show wpAny _ _ (match Builtin.Slice.sliceAdjust lo hi 1 (n:Int) with | (lo,hi)=>pure (lo,(1:Int),Builtin.Slice.slicePlaces lo hi 1)) _ _ s
 rw [J2 lo hi n]
 show wpAny _ _ (pure (((pR n 0 lo:Nat):Int),(1:Int),Builtin.Slice.slicePlaces ((pR n 0 lo:Nat):Int) ((pR n n hi:Nat):Int) 1)) _ _ s
 rw [Kf]
 exact wpAny_pure h
theorem N8 (xs:Array Value) (i k:Nat):((List.range k).filterMap λ(m:Nat)=>xs[((i:Int)+(m:Int) * 1).toNat]?).toArray=((xs.toList.drop i).take k).toArray:=by
 have e:(λ(m:Nat)=>xs[((i:Int)+(m:Int) * 1).toNat]?)=λm=>xs[i+m]?:=by
  funext m
  have:((i:Int)+(m:Int) * 1).toNat=i+m:=by omega
  rw [this]
 rw [e]
 have:=pick_run xs i k
 rw [List.filterMap_map] at this
 have e2:((λx=>xs[x]?) ∘ λx=>i+x)=λm=>xs[i+m]?:=rfl
 rw [e2] at this
 rw [this]
theorem Ay {t sl:Addr} {items:Array Value} {vl vu:Value} {lo hi:Option Int} {Q:Value->Shared->Prop} (ht:IsTup s.heap t items) (hs:s.heap.IsSliceOf sl vl vu .none) (pl:IsPart vl lo) (pu:IsPart vu hi)
  (hw:¬ (pR items.size 0 lo=0/\pR items.size items.size hi=items.size))
  (h:Q (.ref s.heap.objs.size) { s with heap:=s.heap.push { cls:=.type "tuple",data:=.seq ((items.toList.drop (pR items.size 0 lo)).take (pR items.size items.size hi - pR items.size 0 lo)).toArray } })
  (hsz:items.size<=sizeLine):wpAny (model prog w) A (getItem (.ref t) (.ref sl)) Q E s:=by
 have htake:sizeOk (.seq ((items.toList.drop (pR items.size 0 lo)).take (pR items.size items.size hi - pR items.size 0 lo)).toArray):=by
  show ((items.toList.drop (pR items.size 0 lo)).take (pR items.size items.size hi - pR items.size 0 lo)).toArray.size<=sizeLine
  rw [UX,Va,WD,Array.length_toList]
  omega
 have hj:pR items.size items.size hi<=items.size:=QZ _ _ (UI _) hi
 obtain ⟨os,hos,hcs,hds⟩:=id hs
 have hTs:s.TypeIs (.ref sl) "slice":=⟨os,hos,hcs⟩
 unfold getItem
 try with_reducible refine wpAny_holding ?_
 first | refine wpAny_bind (wpAny_pure ?_) | skip
 refine wpAny_bind (wpAny_sequenceKey ht.typeIs (by decide) ?_)
 refine wpAny_bind (wpAny_callSpecial?_slot (name:=Str.ofString "__getitem__") ht.typeIs PyProof.Rows.slot_tuple_getitem
  (wpAny_call_entry PyProof.Rows.slot_tuple_getitem ht.typeIs entry_tuple_getitem ?_ (args_tuple_getitem _ _)))
 show wpAny _ _ (Builtin.Tuple.tupleItemsOf (.ref t) >>= _) _ _ s
 refine wpAny_bind (tupleItemsOf_ ht ?_)
 refine wpAny_bind (wpAny_typeOf hTs ?_)
 rw [if_pos (by decide)]
 refine wpAny_bind (BA hs pl pu ?_)
 have hno:¬ ((((pR items.size 0 lo:Nat):Int) == 0&&(1:Int) == 1&&(pR items.size items.size hi - pR items.size 0 lo) == items.size)=true):=by
  intro q
  rw [UN,UN] at q
  have q1:((pR items.size 0 lo:Nat):Int)=0:=eq_of_beq q.1.1
  have q2:pR items.size items.size hi - pR items.size 0 lo=items.size:=eq_of_beq q.2
  exact hw ⟨by omega,by omega⟩
 show wpAny _ _ (if (((pR items.size 0 lo:Nat):Int) == 0&&(1:Int) == 1&&(pR items.size items.size hi - pR items.size 0 lo) == items.size)=true then _ else _) _ _ s
 rw [if_neg hno,N8]
 first
  | exact wpAny_bind (m:=Builtin.Tuple.tupleExact _) (wpAny_newObj_type (wpAny_pure ⟨_,rfl,wpAny_pure h⟩) htake)
  | exact wpAny_bind (m:=Builtin.Tuple.tupleExact _) (wpAny_newObj_type (wpAny_bind (wpAny_pure (wpAny_pure ⟨_,rfl,wpAny_pure h⟩))) htake)
  | exact wpAny_bind (wpAny_bind (m:=Builtin.Tuple.tupleExact _) (wpAny_newObj_type (wpAny_pure (wpAny_pure ⟨_,rfl,wpAny_pure h⟩)) htake))
  | exact wpAny_bind (wpAny_bind (m:=Builtin.Tuple.tupleExact _) (wpAny_newObj_type (wpAny_pure ⟨_,rfl,wpAny_pure h⟩) htake))
end
end HT
namespace L2
open PySem PySem.Spec PyProof.Rows
abbrev TO:=St->Hp->(Option Int->Hp->Prop)->Prop
def PO (X:Cx) (e:Option Expr) (t:TO):Prop :=
 ∀ (pins:List (Addr × Obj)) (s:Shared) (σ:St) (H:Hp) (Q:Option Int->Hp->Prop),Inv X pins σ H s->t σ H Q ->
  wpAny (model X.prog X.w) X.A (evalPart e X.env) (λu s'=>∃ o H',Inv X pins σ H' s'/\IsPart u o/\Q o H') X.xe s
def PZ:TO:=λ_ H Q=>Q none H
def SM (t:TE):TO:=λσ H Q=>t σ H λx H1=>∃ i,x=.int i/\Q (some i) H1
section
variable {X:Cx} {e:Expr} {te:TE} {lo hi:Option Expr} {tl th:TO} {pos p2:Pos}
theorem Lh:PO X none PZ:=by
 intro pins s σ H Q I h
 rw [evalPart_none]
 exact wpAny_pure ⟨none,H,I,.none,h⟩
theorem zd (h:PE X e te):PO X (some e) (SM te):=by
 intro pins s σ H Q I hw
 rw [evalPart_some]
 refine dP (h pins s σ H _ I hw) λu s1 ⟨x,H1,I1,r1,q1⟩=>?_
 obtain ⟨i,rfl,q⟩:=q1
 obtain ⟨t,rfl⟩:=r1
 exact ⟨some i,H1,I1,.int i t,q⟩
def RW (X:Cx) (r:V->Option Int->Option Int->Hp->VK->Prop):Prop :=
 ∀ (pins:List (Addr × Obj)) (s:Shared) (σ:St) (H:Hp) (x:V) (v vl vu:Value) (lo hi:Option Int) (sl:Addr) (Q:VK),Inv X pins σ H s->RelV x v->s.heap.IsSliceOf sl vl vu .none->IsPart vl lo->IsPart vu hi->r x lo hi H Q ->
  ∃ T id,typeLookup (.type T) "__getitem__"=pure (some (.builtin id))/\s.TypeIs v T/\wpAny (model X.prog X.w) X.A (getItem v (.ref sl)) (EP X pins σ Q) X.xe s
def Ut (r:V->Option Int->Option Int->Hp->VK->Prop) (te:TE) (tl th:TO):TE:=λσ H Q=>te σ H λx H1=>tl σ H1 λl H2=>th σ H2 λu H3=>r x l u H3 Q
theorem AK {r:V->Option Int->Option Int->Hp->VK->Prop} (hr:RW X r) (he:PE X e te) (hl:PO X lo tl) (hu:PO X hi th):PE X (.Subscript e (.Slice lo hi none p2) pos) (Ut r te tl th):=by
 intro pins s σ H Q I h
 refine Subscript_ (dP (he pins s σ H _ I h) λv s1 ⟨x,H1,I1,r1,q1⟩=>?_)
 refine wpAny_Slice (dP (hl pins s1 σ H1 _ I1 q1) λvl s2 ⟨l,H2,I2,pl,q2⟩=>dP (hu pins s2 σ H2 _ I2 q2) λvu s3 ⟨u,H3,I3,pu,q3⟩=>?_)
 rw [evalPart_none]
 refine wpAny_pure ?_
 have I4:Inv X pins σ H3 { s3 with heap:=s3.heap.push { cls:=.type "slice",data:=.fields #[vl,vu,.none] } }:=I3.kept (t':=s3.toks) λb ob q=>Heap.get?_push_of_some _ q
 obtain ⟨T,id,hT,ht,hg⟩:=hr pins { s3 with heap:=s3.heap.push { cls:=.type "slice",data:=.fields #[vl,vu,.none] } } σ H3 x v vl vu l u s3.heap.objs.size Q I4 r1 (Heap.IsSliceOf.new ..) pl pu q3
 show wpAny (model X.prog X.w) X.A (subscriptTail e (.Slice lo hi none p2) v (.ref s3.heap.objs.size)) (EP X pins σ Q) X.xe { s3 with heap:=s3.heap.push { cls:=.type "slice",data:=.fields #[vl,vu,.none] } }
 exact tail_any (ops:=[.ref s3.heap.objs.size,v]) ht hT hg (by with_unfolding_all rfl)
def zE (xs:List V) (lo hi:Option Int):List V:=(xs.drop (HT.pR xs.length 0 lo)).take (HT.pR xs.length xs.length hi - HT.pR xs.length 0 lo)
theorem Cu (xs:List V) (lo hi:Option Int):(zE xs lo hi).length<=xs.length:=by
 unfold zE
 rw [Va,WD]
 omega
def S6 (K:Uy):V->Option Int->Option Int->Hp->VK->Prop:=λx lo hi H Q=>∃ a xs,x=.ref a/\gc K H a xs /\
 ¬ (HT.pR xs.length 0 lo=0/\HT.pR xs.length xs.length hi=xs.length)/\∀ p,H p=none->Q (.ref p) (upd H p (.tup (zE xs lo hi)))
theorem Rf:RW X (S6 X.K):=by
 intro pins s σ H x v vl vu lo hi sl Q I rx hs pl pu h
 obtain ⟨a,xs,rfl,hx,hw,q⟩:=h
 cases rx
 obtain ⟨its,r,ht,hz⟩:=I.tuple hx
 have hlen:its.toArray.size=xs.length:=by rw [UX];exact r.length.symm
 refine ⟨"tuple",_,PyProof.Rows.slot_tuple_getitem.lookup,ht.typeIs,?_⟩
 refine HT.Ay ht hs pl pu (by rw [hlen];exact hw) ?_ (by rw [hlen];exact hz)
 rw [hlen]
 refine ⟨.ref s.heap.objs.size,_,I.laid (t':=s.toks) (o:=.tup (zE xs lo hi)) (λb ob q=>Heap.get?_push_of_some _ q) (UI _) ?_,rfl,q _ (I.dz.fresh (UI _))⟩
 exact ⟨US (Cu xs lo hi) hz,_,(r.drop (HT.pR xs.length 0 lo)).take (HT.pR xs.length xs.length hi - HT.pR xs.length 0 lo),IsTup.new _ _⟩
end
end L2
namespace L2
open PySem PySem.Spec PyProof.Rows
def O3 (n:Nat) (i:Int):Option Nat:=if 0<=i then (if i < n then some i.toNat else none) else if -(n:Int)<=i then some (i+n).toNat else none
def O2 {α:Type} (xs:List α) (i:Int):Option α:=(O3 xs.length i).bind λj=>xs[j]?
theorem KN {n:Nat} {i:Int} {j:Nat} (h:O3 n i=some j):seqIndex? i n=some j/\j < n/\-(n:Int)<=i/\i < n:=by
 unfold O3 at h
 by_cases h0:0<=i
 ·rw [if_pos h0] at h
  by_cases h1:i < n
  ·rw [if_pos h1] at h
   have e:i.toNat=j:=Option.some.inj h
   exact ⟨by rw [seqIndex_of h0 h1,e],by omega,by omega,h1⟩
  ·rw [if_neg h1] at h;cases h
 ·rw [if_neg h0] at h
  by_cases h1:-(n:Int)<=i
  ·rw [if_pos h1] at h
   have e:(i+n).toNat=j:=Option.some.inj h
   exact ⟨by rw [seqIndex_neg (by omega) h1,e],by omega,h1,by omega⟩
  ·rw [if_neg h1] at h;cases h
theorem K9 {α:Type} {xs:List α} {i:Int} {v:α} (h:O2 xs i=some v):∃ j,seqIndex? i xs.length=some j/\xs[j]?=some v/\j < xs.length/\-(xs.length:Int)<=i/\i < xs.length:=by
 unfold O2 at h
 cases e:O3 xs.length i with
 | none=>rw [e] at h;cases h
 | some j =>
  rw [e] at h
  obtain ⟨h1,h2,h3,h4⟩:=KN e
  exact ⟨j,h1,h,h2,h3,h4⟩
theorem PK {α:Type} {xs:List α} {j:Nat} {v:α} (h:xs[j]?=some v):O2 xs (j:Int)=some v:=by
 have hj:j < xs.length:=(U5.mp h).1
 have e:O3 xs.length (j:Int)=some j:=by
  unfold O3
  rw [if_pos (by omega),if_pos (by omega)];simp
 unfold O2;rw [e];exact h
def PU (b:Expr):Prop:=∀ o i,subscripted b false o i=operate [o,i] (getItem o i)
def S7 (X:Cx) (r:R2):Prop :=
 ∀ (value slice:Expr) (pins:List (Addr × Obj)) (s:Shared) (σ:St) (H:Hp) (x y:V) (v u:Value) (Q:VK),Inv X pins σ H s->RelV x v->RelV y u->r x y H Q ->
  subscripted slice false v u=operate [v,u] (getItem v u)->wpAny (model X.prog X.w) X.A (subscriptTail value slice v u) (EP X pins σ Q) X.xe s
def Qz (X:Cx) (id:String) (r:V->List V->Hp->VK->Prop):Prop :=
 ∀ (pins:List (Addr × Obj)) (s:Shared) (σ:St) (H:Hp) (x:V) (xs:List V) (v:Value) (us:List Value) (Q:VK),Inv X pins σ H s->RelV x v->Vals xs us->r x xs H Q ->
  wpAny (model X.prog X.w) X.A (call (.builtin id) (v::us)) (EP X pins σ Q) X.xe s
section
variable {X:Cx} {a b:Expr} {ta tb:TE} {pos:Pos}
theorem aM {r:R2} (hr:S7 X r) (ha:PE X a ta) (hb:PE X b tb) (hs:PU b):PE X (.Subscript a b pos) (Ti r ta tb):=by
 intro pins s σ H Q I h
 exact Subscript_ (Rn ha hb I h λv u s2 x y H2 I2 rx ry q=>hr a b pins s2 σ H2 x y v u Q I2 rx ry q (hs _ _))
def Su (K:Uy):R2:=λx y H Q=>∃ p xs i v,x=.ref p/\y=.int i/\bf K H p xs/\O2 xs i=some v/\Q v H
def RZ (K:Uy):R2:=λx y H Q=>∃ p xs i v,x=.ref p/\y=.int i/\gc K H p xs/\O2 xs i=some v/\Q v H
theorem Pu:S7 X (Su X.K):=by
 intro value slice pins s σ H x y v u Q I rx ry h hs
 obtain ⟨p,xs,i,z,rfl,rfl,hq,he,q⟩:=h
 cases rx
 obtain ⟨t,rfl⟩:=ry
 obtain ⟨its,r,pl,hz⟩:=I.list hq
 obtain ⟨j,h1,h2,h3,h4,h5⟩:=K9 he
 obtain ⟨w,ew,rw'⟩:=r.get h2
 have hl:=r.length
 have hn:=ES
 have fin:EP X pins σ Q w s:=⟨z,H,I,rw',q⟩
 by_cases h0:0<=i
 ·have hj:i.toNat=j:=by
   rw [seqIndex_of h0 h5] at h1
   exact Option.some.inj h1
  exact item_listR pl.isList h0 (by omega) (by rw [hj];simpa using ew) fin hs
 ·have hj:(i+(its.toArray.size:Int)).toNat=j:=by
   rw [seqIndex_neg (by omega) h4] at h1
   rw [UX,<- hl]
   exact Option.some.inj h1
  exact subscriptTail_builtinR (x:=w) pl.isList.typeIs slot_list_getitem.lookup
   (wpAny_getItem_list_neg (Q:=λr s'=>r=w/\EP X pins σ Q r s') pl.isList (by omega) (by rw [UX]<;>omega) (by omega) (by rw [hj];simpa using ew) ⟨rfl,fin⟩) hs
theorem Ri:S7 X (RZ X.K):=by
 intro value slice pins s σ H x y v u Q I rx ry h hs
 obtain ⟨p,xs,i,z,rfl,rfl,hq,he,q⟩:=h
 cases rx
 obtain ⟨t,rfl⟩:=ry
 obtain ⟨its,r,pl,hz⟩:=I.tuple hq
 obtain ⟨j,h1,h2,h3,h4,h5⟩:=K9 he
 obtain ⟨w,ew,rw'⟩:=r.get h2
 have hl:=r.length
 have hn:=ES
 have fin:EP X pins σ Q w s:=⟨z,H,I,rw',q⟩
 exact subscriptTail_builtinR (x:=w) pl.typeIs slot_tuple_getitem.lookup
  (getItem_tuple (j:=j) (Q:=λr s'=>r=w/\EP X pins σ Q r s') pl (by omega) (by omega) (by rw [UX,<- hl];exact h1) (by simpa using ew) ⟨rfl,fin⟩) hs
theorem Kz (its:List Value) (n j:Nat) (u:Value):Obj.mapSeq (·.setIfInBounds j u) { cls:=.type "list",data:=.seq its.toArray n }={ cls:=.type "list",data:=.seq (its.set j u).toArray n }:=by
 simp [Obj.mapSeq]
theorem Inv.lst {pins:List (Addr × Obj)} {σ:St} {H:Hp} {s:Shared} {p:Addr} {xs:List V} (I:Inv X pins σ H s) (h:H p=some (.lst xs)) :
  ∃ (its:List Value) (n:Nat),Vals xs its/\s.heap.get? p=some { cls:=.type "list",data:=.seq its.toArray n }/\xs.length<=sizeLine:=by
 obtain ⟨z,its,n,r,e⟩:=I.dz p _ h
 exact ⟨its,n,r,e,z⟩
theorem Inv.RI {pins:List (Addr × Obj)} {σ:St} {H:Hp} {s:Shared} {p:Addr} {xs ys:List V} {its its':List Value} {n n':Nat} {f:Obj->Obj} (I:Inv X pins σ H s) (h:H p=some (.lst xs))
  (ho:s.heap.get? p=some { cls:=.type "list",data:=.seq its.toArray n }) (hf:f { cls:=.type "list",data:=.seq its.toArray n }={ cls:=.type "list",data:=.seq its'.toArray n' }) (r:Vals ys its') (hz:ys.length<=sizeLine) (t:Nat) :
  Inv X pins σ (upd H p (.lst ys)) { s with heap:=s.heap.update p f,toks:=t }:=by
 have e:(s.heap.update p f).get? p=some { cls:=.type "list",data:=.seq its'.toArray n' }:=by
  rw [Heap.get?_update_self f ho (by rw [hf]<;>rfl),hf]
 refine I.write (x:=p) (e:=p) (by rw [h];trivial) (.inl rfl) (λb u hb q=>(Heap.get?_update_other _ _ (Ne.symm hb)).trans q) ⟨_,e⟩ ?_
 exact ⟨hz,its',n',r,e⟩
def Sr:V->V->V->Hp->(Hp->Prop)->Prop:=λo i v H Q=>∃ p xs k j,o=.ref p/\i=.int k/\H p=some (.lst xs)/\O3 xs.length k=some j/\Q (upd H p (.lst (xs.set j v)))
theorem set_list:RS X Sr:=by
 intro pins s σ H o i v ov iv u Q I ro ri rv h
 obtain ⟨p,xs,k,j,rfl,rfl,hp,hj,q⟩:=h
 cases ro
 obtain ⟨t,rfl⟩:=ri
 obtain ⟨its,n,r,ho,hz⟩:=I.lst hp
 obtain ⟨h1,h2,h3,h4⟩:=KN hj
 have hl:=r.length
 have hn:=ES
 have I':Inv X pins σ (upd H p (.lst (xs.set j v))) { s with heap:=s.heap.update p (Obj.mapSeq (·.setIfInBounds j u)) } :=
  I.RI hp ho (Kz its n j u) (r.set rv j) (by rw [Vb];exact hz) s.toks
 by_cases h0:0<=k
 ·have hk:k.toNat=j:=by
   rw [seqIndex_of h0 h4] at h1
   exact Option.some.inj h1
  exact PySem.W.ki_setAt ho h0 (by omega) (by rw [UX,<- hl];exact h4) (by rw [hk];exact ⟨_,I',q⟩)
 ·have hk:(k+(its.toArray.size:Int)).toNat=j:=by
   rw [seqIndex_neg (by omega) h3] at h1
   rw [UX,<- hl]
   exact Option.some.inj h1
  exact PySem.W.ki_setBack ho (by omega) (by rw [UX,<- hl];exact h3) (by omega) (by rw [hk];exact ⟨_,I',q⟩)
theorem Hu (lo hi:Option Int) (n:Nat):(sliceBounds lo hi none n).1=((HT.pR n 0 lo:Nat):Int)/\(sliceBounds lo hi none n).2.1=((HT.pR n n hi:Nat):Int)/\(sliceBounds lo hi none n).2.2=1:=by
 refine ⟨?_,?_,rfl⟩
 ·cases lo with
  | none=>simp [sliceBounds,HT.pR]
  | some i =>
   simp only [sliceBounds,HT.pR,Option.getD_none,show (1:Int) > 0 by decide,if_true]
   by_cases h:i < 0
   ·simp only [h,if_true]<;>omega
   ·simp only [h,if_false]<;>omega
 ·cases hi with
  | none=>simp [sliceBounds,HT.pR]
  | some i =>
   simp only [sliceBounds,HT.pR,Option.getD_none,show (1:Int) > 0 by decide,if_true]
   by_cases h:i < 0
   ·simp only [h,if_true]<;>omega
   ·simp only [h,if_false]<;>omega
theorem FE (its:List Value) (lo hi:Option Int):slicePick its.toArray lo hi none=((its.drop (HT.pR its.length 0 lo)).take (HT.pR its.length its.length hi - HT.pR its.length 0 lo)).toArray:=by
 obtain ⟨h1,h2,h3⟩:=Hu lo hi its.toArray.size
 unfold slicePick
 rw [h1,h2,h3]
 simp only [sliceRange_one,pick_run,UX]<;>rfl
def SU (K:Uy):V->Option Int->Option Int->Hp->VK->Prop:=λx lo hi H Q=>∃ a xs,x=.ref a/\bf K H a xs/\∀ p,H p=none->Q (.ref p) (upd H p (.lst (zE xs lo hi)))
theorem Px:RW X (SU X.K):=by
 intro pins s σ H x v vl vu lo hi sl Q I rx hs pl pu h
 obtain ⟨a,xs,rfl,hx,q⟩:=h
 cases rx
 obtain ⟨its,r,ht,hz⟩:=I.list hx
 have hlen:=r.length
 refine ⟨"list",_,slot_list_getitem.lookup,ht.isList.typeIs,?_⟩
 refine wpAny_getItem_list_slice ht.isList hs pl pu .none (by simp) ?_ (by rw [UX]<;>omega)
 rw [FE,<- hlen]
 refine ⟨.ref s.heap.objs.size,_,I.laid (t':=s.toks) (o:=.lst (zE xs lo hi)) (λb ob q=>Heap.get?_push_of_some _ q) (UI _) ?_,rfl,q _ (I.dz.fresh (UI _))⟩
 exact ⟨US (Cu xs lo hi) hz,_,0,(r.drop (HT.pR xs.length 0 lo)).take (HT.pR xs.length xs.length hi - HT.pR xs.length 0 lo),Heap.get?_push_size _ rfl⟩
def Bw:V->Bool
 | .dH=>true
 | .bl _=>true
 | .int _=>true
 | .str _=>true
 | _=>false
def N2:V->V->Bool
 | .dH,.dH=>true
 | .bl a,.bl b=>a == b
 | .bl a,.int b=>(if a then 1 else 0) == b
 | .int a,.bl b=>a == (if b then 1 else 0)
 | .int a,.int b=>a == b
 | .str a,.str b=>a == b
 | _,_=>false
theorem Rb {A:Around} {s:Shared} {y x:V} {u v:Value} (ry:RelV y u) (rx:RelV x v) (fy:Bw y=true) (fx:Bw x=true):SeqAt.EqAt A s u v (N2 y x):=by
 cases y with
 | dH =>
  cases ry
  cases x with
  | dH=>cases rx;exact SeqAt.EqAt.same _
  | bl b=>cases rx;exact SeqAt.EqAt.none_bool b
  | int b=>obtain ⟨t,rfl⟩:=rx;exact SeqAt.EqAt.none_int b t
  | str b=>obtain ⟨t,rfl⟩:=rx;exact SeqAt.EqAt.none_str b t
  | _=>exact absurd (show false=true from fx) U3
 | bl a =>
  cases ry
  cases x with
  | dH=>cases rx;exact SeqAt.EqAt.bool_none a
  | bl b=>cases rx;exact SeqAt.EqAt.bool_bool a b
  | int b=>obtain ⟨t,rfl⟩:=rx;exact SeqAt.EqAt.bool_int a b t
  | str b=>obtain ⟨t,rfl⟩:=rx;exact SeqAt.EqAt.bool_str a b t
  | _=>exact absurd (show false=true from fx) U3
 | int a =>
  obtain ⟨t',rfl⟩:=ry
  cases x with
  | dH=>cases rx;exact SeqAt.EqAt.int_none a t'
  | bl b=>cases rx;exact SeqAt.EqAt.int_bool a t' b
  | int b=>obtain ⟨t,rfl⟩:=rx;exact SeqAt.EqAt.int_int a t' b t
  | str b=>obtain ⟨t,rfl⟩:=rx;exact SeqAt.EqAt.int_str a t' b t
  | _=>exact absurd (show false=true from fx) U3
 | str a =>
  obtain ⟨t',rfl⟩:=ry
  cases x with
  | dH=>cases rx;exact SeqAt.EqAt.str_none a t'
  | bl b=>cases rx;exact SeqAt.EqAt.str_bool a t' b
  | int b=>obtain ⟨t,rfl⟩:=rx;exact SeqAt.EqAt.str_int a t' b t
  | str b=>obtain ⟨t,rfl⟩:=rx;exact SeqAt.EqAt.str_str a t' b t
  | _=>exact absurd (show false=true from fx) U3
 | _=>exact absurd (show false=true from fy) U3
def Kc (x:V) (u:Value):Bool:=match u with
 | .none=>N2 .dH x
 | .bool b=>N2 (.bl b) x
 | .int i _=>N2 (.int i) x
 | .str z _=>N2 (.str z) x
 | _=>false
theorem NY {x y:V} {u:Value} (r:RelV y u) (f:Bw y=true):Kc x u=N2 y x:=by
 cases y with
 | dH=>cases r;rfl
 | bl b=>cases r;rfl
 | int i=>obtain ⟨t,rfl⟩:=r;rfl
 | str z=>obtain ⟨t,rfl⟩:=r;rfl
 | _=>exact absurd (show false=true from f) U3
theorem Bj {x:V}:∀ {xs:List V} {us:List Value},Vals xs us->xs.all Bw=true->us.any (Kc x)=xs.any λy=>N2 y x
 | _,_,.nil,_=>rfl
 | y::xs,u::us,.cons r t,f=>by
  rw [WE,UN] at f
  rw [Vv,Vv,NY r f.1,Bj t f.2]
theorem yQ {A:Around} {s:Shared} {x:V} {v:Value} (rx:RelV x v) (fx:Bw x=true):∀ {xs:List V} {us:List Value},Vals xs us->xs.all Bw=true->∀ u∈us,SeqAt.EqAt A s u v (Kc x u)
 | _,_,.nil,_=>λu hu=>by cases hu
 | y::xs,u::us,.cons r t,f=>λu' hu=>by
  rw [WE,UN] at f
  rcases UL.mp hu with rfl | hu
  ·rw [NY r f.1];exact Rb r rx f.1 fx
  ·exact yQ rx fx t f.2 u' hu
def Lw (x:V) (xs:List V):Bool:=xs.any λy=>N2 y x
def Tf (K:Uy) (neg:Bool):R2:=λx y H Q=>∃ p xs,y=.ref p/\(bf K H p xs∨gc K H p xs)/\Bw x=true/\xs.all Bw=true/\Q (.bl (if neg then !Lw x xs else Lw x xs)) H
theorem Mi:zi X (compareOp .In) (Tf X.K false):=by
 intro pins s σ H x y v u Q I rx ry h
 obtain ⟨p,xs,rfl,hq,fx,fs,q⟩:=h
 cases ry
 rcases hq with hq | hq
 ·obtain ⟨its,r,pl,hz⟩:=I.list hq
  refine SeqAt.in_listAt (Kc x) pl.isList (λw hw=>yQ rx fx r fs w (by simpa using hw)) ⟨.bl _,H,I,rfl,?_⟩
  rw [show its.toArray.any (Kc x)=its.any (Kc x) by simp,Bj r fs]
  exact q
 ·obtain ⟨its,r,pl,hz⟩:=I.tuple hq
  refine SeqAt.in_tupleAt (Kc x) pl (λw hw=>yQ rx fx r fs w (by simpa using hw)) ⟨.bl _,H,I,rfl,?_⟩
  rw [show its.toArray.any (Kc x)=its.any (Kc x) by simp,Bj r fs]
  exact q
theorem GZ:zi X (compareOp .NotIn) (Tf X.K true):=by
 intro pins s σ H x y v u Q I rx ry h
 obtain ⟨p,xs,rfl,hq,fx,fs,q⟩:=h
 cases ry
 rcases hq with hq | hq
 ·obtain ⟨its,r,pl,hz⟩:=I.list hq
  refine SeqAt.notIn_listAt (Kc x) pl.isList (λw hw=>yQ rx fx r fs w (by simpa using hw)) ⟨.bl _,H,I,rfl,?_⟩
  rw [show its.toArray.any (Kc x)=its.any (Kc x) by simp,Bj r fs]
  exact q
 ·obtain ⟨its,r,pl,hz⟩:=I.tuple hq
  refine SeqAt.notIn_tupleAt (Kc x) pl (λw hw=>yQ rx fx r fs w (by simpa using hw)) ⟨.bl _,H,I,rfl,?_⟩
  rw [show its.toArray.any (Kc x)=its.any (Kc x) by simp,Bj r fs]
  exact q
theorem G1:mZ X (.builtin "len") (λxs H Q=>∃ p ys,xs=[.ref p]/\(bf X.K H p ys∨gc X.K H p ys)/\Q (.int ys.length) H):=by
 intro pins s σ H xs us Q I r h
 obtain ⟨p,ys,rfl,hq,q⟩:=h
 obtain ⟨u,rfl,rx⟩:=vals1 r
 cases rx
 have hn:=ES
 rcases hq with hq | hq
 ·obtain ⟨its,r',pl,hz⟩:=I.list hq
  have hlen:=r'.length
  exact Calls.call_len_list pl.isList (by simp only [UX]<;>omega) ⟨.int ys.length,H,I.tok _,⟨s.toks+1,by rw [UX,hlen]⟩,q⟩
 ·obtain ⟨its,r',pl,hz⟩:=I.tuple hq
  have hlen:=r'.length
  exact len_tuple pl (by simp only [UX]<;>omega) ⟨.int ys.length,H,I.tok _,⟨s.toks+1,by rw [UX,hlen]⟩,q⟩
theorem G5:mZ X (.type "list") (λxs H Q=>∃ p ys,xs=[.ref p]/\(bf X.K H p ys∨gc X.K H p ys)/\∀ l,H l=none->Q (.ref l) (upd H l (.lst ys))):=by
 intro pins s σ H xs us Q I r h
 obtain ⟨p,ys,rfl,hq,q⟩:=h
 obtain ⟨u,rfl,rx⟩:=vals1 r
 cases rx
 have fin:∀ (its:List Value),Vals ys its->ys.length<=sizeLine->∀ (h':Heap) (c':Nat),(∀ b o',s.heap.get? b=some o'->h'.get? b=some o') ->
   h'.get? s.heap.objs.size=some { cls:=.type "list",dict:=none,data:=.seq its.toArray c',slots:=#[] }->EP X pins σ Q (.ref s.heap.objs.size) { s with heap:=h' }:=λits r' hz h' c' kp e =>
  ⟨.ref s.heap.objs.size,_,I.laid (t':=s.toks) kp (UI _) (show iH X.prog X.w _ h' _ (.lst ys) from ⟨hz,its,c',r',e⟩),rfl,q _ (I.dz.fresh (UI _))⟩
 rcases hq with hq | hq
 ·obtain ⟨its,r',pl,hz⟩:=I.list hq
  have hlen:=r'.length
  obtain ⟨o,ho,hc,n,hd⟩:=pl.isList
  exact call_list_seq p (.inl rfl) ho hc hd (λh' c' kp e=>fin its r' hz h' c' kp e) (by simp only [UX]<;>omega)
 ·obtain ⟨its,r',pl,hz⟩:=I.tuple hq
  have hlen:=r'.length
  obtain ⟨o,ho,hc,n,hd⟩:=pl
  exact call_list_seq p (.inr rfl) ho hc hd (λh' c' kp e=>fin its r' hz h' c' kp e) (by simp only [UX]<;>omega)
theorem FK:mZ X (.type "tuple") (λxs H Q=>∃ p ys,xs=[.ref p]/\((bf X.K H p ys/\∀ l,H l=none->Q (.ref l) (upd H l (.tup ys)))∨(gc X.K H p ys/\Q (.ref p) H))):=by
 intro pins s σ H xs us Q I r h
 obtain ⟨p,ys,rfl,h⟩:=h
 obtain ⟨u,rfl,rx⟩:=vals1 r
 cases rx
 rcases h with ⟨hq,q⟩ | ⟨hq,q⟩
 ·obtain ⟨its,r',pl,hz⟩:=I.list hq
  have hlen:=r'.length
  refine call_tuple_list pl.isList (λh' kp=>?_) (by simp only [UX]<;>omega)
  have I1:Inv X pins σ H { s with heap:=h' }:=I.kept (t':=s.toks) kp
  have I2:Inv X pins σ (upd H h'.objs.size (.tup ys)) { s with heap:=h'.push { cls:=.type "tuple",data:=.seq its.toArray } } :=
   I1.laid (t':=s.toks) (λb o e=>Heap.get?_push_of_some _ e) (UI _) (show iH X.prog X.w _ _ _ (.tup ys) from ⟨hz,its,r',IsTup.new _ _⟩)
  exact ⟨.ref h'.objs.size,_,I2,rfl,q _ (I1.dz.fresh (UI _))⟩
 ·obtain ⟨its,r',pl,hz⟩:=I.tuple hq
  exact call_tuple_same pl ⟨.ref p,H,I,rfl,q⟩
def Ug (K:Uy) (T:String) (x:V) (H:Hp):Prop:=match x with
 | .str _=>T="str"
 | .int _=>T="int"
 | .ref p=>(T="list"/\∃ xs,bf K H p xs)∨(T="tuple"/\∃ o,K.lookup p=some o/\o.cls=.type "tuple"/\o.dict=none) ∨
   (T="dict"/\((∃ kvs,H p=some (.dK kvs))∨∃ kvs,H p=some (.dT kvs)))∨(T="set"/\∃ S n,H p=some (.set S n))
 | _=>False
theorem Rm {pins:List (Addr × Obj)} {σ:St} {H:Hp} {s:Shared} {T:String} {x:V} {v:Value} (I:Inv X pins σ H s) (r:RelV x v) (ty:Ug X.K T x H) :
  s.TypeIs v T/\∀ a,v=.ref a->∃ ob,s.heap.get? a=some ob/\ob.dict=none:=by
 cases x with
 | str z =>
  obtain ⟨t,rfl⟩:=r
  cases (show T="str" from ty)
  exact ⟨typeIs_str s z t,λ_ e=>nomatch e⟩
 | int i =>
  obtain ⟨t,rfl⟩:=r
  cases (show T="int" from ty)
  exact ⟨typeIs_int s i t,λ_ e=>nomatch e⟩
 | ref p =>
  cases r
  rcases ty with ⟨rfl,xs,hq⟩ | ⟨rfl,o,hk,hc,hd⟩ | ⟨rfl,hk⟩ | ⟨rfl,S,n,hk⟩
  ·obtain ⟨its,_,pl,_⟩:=I.list hq
   refine ⟨pl.isList.typeIs,λa e=>?_⟩
   cases e
   obtain ⟨o,n,e,c,hd,_⟩:=pl
   exact ⟨o,e,hd⟩
  ·refine ⟨⟨o,I.Jy p o hk,hc⟩,λa e=>?_⟩
   cases e
   exact ⟨o,I.Jy _ o hk,hd⟩
  ·have z:∃ o,s.heap.get? p=some o/\o.ExactDict:=by
    rcases hk with ⟨kvs,hk⟩ | ⟨kvs,hk⟩
    ·obtain ⟨_,_,_,_,o,_,_,e,ex,_⟩:=I.dz p _ hk
     exact ⟨o,e,ex⟩
    ·obtain ⟨_,_,_,_,o,_,_,e,ex,_⟩:=I.dz p _ hk
     exact ⟨o,e,ex⟩
   obtain ⟨o,e,ex⟩:=z
   refine ⟨⟨o,e,ex.1⟩,λa e2=>?_⟩
   cases e2
   exact ⟨o,e,ex.2.1⟩
  ·obtain ⟨o,_,_,_,e,ex,_⟩:=I.dz p _ hk
   refine ⟨⟨o,e,ex.1⟩,λa e2=>?_⟩
   cases e2
   exact ⟨o,e,ex.2.1⟩
 | _=>exact False.elim ty
def Ue (K:Uy) (T:String) (r:V->List V->Hp->VK->Prop) (to:TE) (t:TA):TE:=λσ H Q=>to σ H λx H1=>Ug K T x H1/\t σ H1 λxs H2=>r x xs H2 Q
variable {o e:Expr} {es:List Expr} {to:TE} {t:TA} {name:Str} {apos cpos:Pos} {T id:String} {r:V->List V->Hp->VK->Prop}
theorem Sh (pa:PlainAttrs T) (slot:Slot T name id) (hty:typeOf (.builtin id)=pure (.type "method_descriptor")) (hm:Qz X id r) (ho:PE X o to) (ha:PA X (e::es) t)
  (hbase:attributeBase o name X.env (eval o X.env)=eval o X.env:=by rfl)
  (hfew:((backTo cpos (starEach (e::es) X.env)).all (λx=>!x.1)&&(backToKw cpos (keywordEach [] X.env)).all (λx=>x.1.isSome)
   && decide ((e::es).length+([]:List Keyword).length+(if ([]:List Keyword).isEmpty then 0 else 1) < 30))=true:=by rfl)
  (hline:(apos.endLine == cpos.line)=true:=by rfl) (hs:starEach (e::es) X.env=(false,eval e X.env)::starEach es X.env:=by rfl) (hplain:(backTo cpos (starEach es X.env)).any (·.1)=false:=by rfl) :
  PE X (.Call (.Attribute o name apos) (e::es) [] cpos) (Ue X.K T r to t):=by
 intro pins s σ H Q I h
 refine wpAny_Call_method_late hbase hfew hline rfl (dP (ho pins s σ H _ I h) λv s1 ⟨x,H1,I1,r1,ty,q1⟩=>?_)
 obtain ⟨h1,h2⟩:=Rm I1 r1 ty
 refine ⟨T,id,pa,slot,hty,h1,h2,?_⟩
 have hA:=ha cpos pins s1 σ H1 _ I1 q1
 rw [hs] at hA ⊢
 refine Calls.callWith_builtin (by show (false || (backTo cpos (starEach es X.env)).any (·.1))=false;rw [hplain]<;>rfl) (Calls.evalArgs_plain ?_)
 exact dP hA λus s2 ⟨vs,H2,I2,r2,q2⟩=>hm pins s2 σ H2 x vs v us Q I2 r1 r2 q2
end
end L2
namespace L2
open PySem PySem.Spec PyProof.Rows
def Uh (X:Cx) (id:String) (r:V->List V->Hp->VK->Prop):Prop :=
 ∀ (pins:List (Addr × Obj)) (s:Shared) (σ:St) (H:Hp) (x:V) (xs:List V) (v:Value) (us:List Value) (Q:VK),Inv X pins σ H s->RelV x v->Vals xs us->r x xs H Q ->
  wpAny (model X.prog X.w) X.A (call (.builtin id) (v::us)) (EP X pins σ Q) X.xe s
theorem Vals.one:∀ {x:V} {us:List Value},Vals [x] us->∃ u,us=[u]/\RelV x u
 | _,_,.cons r .nil=>⟨_,rfl,r⟩
theorem Vals.two:∀ {x y:V} {us:List Value},Vals [x,y] us->∃ u v,us=[u,v]/\RelV x u/\RelV y v
 | _,_,_,.cons r (.cons q .nil)=>⟨_,_,rfl,r,q⟩
section
variable {X:Cx} {pins:List (Addr × Obj)} {σ:St} {H:Hp} {s:Shared} {l b:Addr} {xs ys zs:List V}
theorem Inv.R8 {its its':List Value} {n:Nat} {f:Array Value->Array Value} {t':Nat} (I:Inv X pins σ H s) (hH:H l=some (.lst xs))
  (e:s.heap.get? l=some { cls:=.type "list",data:=.seq its.toArray n }) (hf:f its.toArray=its'.toArray) (hv:Vals ys its') (hz:ys.length<=sizeLine) :
  Inv X pins σ (upd H l (.lst ys)) { s with heap:=s.heap.update l (Obj.mapSeq f),toks:=t' }:=by
 have q:=PySem.IsL.update e f
 rw [hf] at q
 refine I.write (x:=l) (e:=l) (by rw [hH];exact trivial) (.inl rfl) (λb' u hb hu=>(Heap.get?_update_other s.heap (Obj.mapSeq f) (Ne.symm hb)).trans hu) ⟨_,q⟩ ?_
 exact ⟨hz,its',_,hv,q⟩
theorem Inv.TK {its:List Value} {t':Nat} (I:Inv X pins σ H s) (hv:Vals ys its) (hz:ys.length<=sizeLine) :
  Inv X pins σ (upd H s.heap.objs.size (.lst ys)) { s with heap:=s.heap.push { cls:=.type "list",data:=.seq its.toArray },toks:=t' } :=
 I.laid (λ_ _ q=>Heap.get?_push_of_some _ q) (UI _) ⟨hz,its,0,hv,Heap.get?_push_size _ rfl⟩
theorem Inv.fresh (I:Inv X pins σ H s):H s.heap.objs.size=none:=I.dz.fresh (UI _)
theorem Inv.OL (I:Inv X pins σ H s) (hH:H l=some (.lst xs)):xs.length<=sizeLine/\∃ (its:List Value) (n:Nat),Vals xs its/\xs.length=its.length/\s.heap.get? l=some { cls:=.type "list",data:=.seq its.toArray n }:=by
 obtain ⟨z,its,n,r,e⟩:=I.dz l _ hH
 exact ⟨z,its,n,r,r.length,e⟩
theorem N3 {n:Nat} (h:n<=sizeLine):Builtin.List.listTooLong n=false:=by
 unfold Builtin.List.listTooLong
 exact decide_eq_false (by omega)
end
section
variable {X:Cx}
def Pt:V->List V->Hp->VK->Prop:=λx vs H Q=>∃ l xs y,x=.ref l/\vs=[y]/\H l=some (.lst xs)/\xs.length < sizeLine/\Q .dH (upd H l (.lst (xs++[y])))
theorem BO:Uh X "list.append" Pt:=by
 intro pins s σ H x vs v us Q I rx rv h
 obtain ⟨l,xs,y,rfl,rfl,hH,hz,q⟩:=h
 cases rx
 obtain ⟨u,rfl,ru⟩:=rv.one
 obtain ⟨z,its,n,r,hl,e⟩:=I.OL hH
 refine call_meets F.slot_list_append ⟨_,e,rfl⟩ F.entry_list_append (F.args_list_append_2 _ _) (PySem.list_append l its.toArray n u (by rw [UX];omega)) ⟨e,?_⟩
 refine ⟨.dH,_,I.R8 (its':=its++[u]) hH e (by simp) (r.append (.cons ru .nil)) ?_,rfl,q⟩
 rw [Vk,List.length_singleton]
 omega
def Pe:V->List V->Hp->VK->Prop:=λx vs H Q=>∃ l b xs zs,x=.ref l/\vs=[.ref b]/\H l=some (.lst xs)/\H b=some (.lst zs)/\xs.length+zs.length<=sizeLine/\Q .dH (upd H l (.lst (xs++zs)))
theorem BY:Uh X "list.extend" Pe:=by
 intro pins s σ H x vs v us Q I rx rv h
 obtain ⟨l,b,xs,zs,rfl,rfl,hH,hB,hz,q⟩:=h
 cases rx
 obtain ⟨u,rfl,ru⟩:=rv.one
 cases ru
 obtain ⟨z,its,n,r,hl,e⟩:=I.OL hH
 obtain ⟨z2,its2,n2,r2,hl2,e2⟩:=I.OL hB
 have hsz:its.toArray.size+its2.toArray.size<=sizeLine:=by rw [UX,UX];omega
 have hlong:¬ (!its.toArray.isEmpty&&Builtin.List.listTooLong (its.toArray.size+its2.toArray.size))=true:=by
  rw [N3 hsz,Bool.and_false]
  exact U3
 refine call_meets F.slot_list_extend ⟨_,e,rfl⟩ F.entry_list_extend (F.args_list_extend_2 _ _)
  (AutoSeq1.list_extend_list_list_0 l its.toArray n b its2.toArray n2 hlong (by rw [UX];omega) (by omega)) ⟨e,e2,?_⟩
 refine ⟨.dH,_,I.R8 (its':=its++its2) hH e (by simp) (r.append r2) ?_,rfl,q⟩
 rw [Vk]
 omega
def TV:R2:=λx y H Q=>∃ l b xs zs,x=.ref l/\y=.ref b/\H l=some (.lst xs)/\H b=some (.lst zs)/\xs.length+zs.length<=sizeLine/\∀ p,H p=none->Q (.ref p) (upd H p (.lst (xs++zs)))
theorem lQ:zi X (binaryOp .Add) TV:=by
 intro pins s σ H x y v u Q I rx ry h
 obtain ⟨l,b,xs,zs,rfl,rfl,hH,hB,hz,q⟩:=h
 cases rx
 cases ry
 obtain ⟨z,its,n,r,hl,e⟩:=I.OL hH
 obtain ⟨z2,its2,n2,r2,hl2,e2⟩:=I.OL hB
 refine PySem.P.add_list e e2 ?_ (by rw [UX,UX];omega)
 have ea:its.toArray++its2.toArray=(its++its2).toArray:=by simp
 rw [ea]
 exact ⟨.ref _,_,I.TK (t':=s.toks) (r.append r2) (by rw [Vk];omega),rfl,q _ I.fresh⟩
end
section
variable {prog:Program} {w:World} {A:Around} {E:Value->Shared->Prop} {s:Shared}
set_option maxRecDepth 100000 in
end
end L2
namespace L2
open PySem PySem.Spec PyProof.Rows
theorem Vals.ints:∀ {ns:List Int} {us:List Value},Vals (ns.map V.int) us->IntsAre us ns
 | [],us,h=>by
  rw [Wb] at h
  cases h
  exact IntsAre.nil
 | n::ns,us,h=>by
  rw [UT] at h
  cases h with
  | cons r t =>
   obtain ⟨k,rfl⟩:=r
   exact IntsAre.cons n k (Vals.ints t)
theorem Vals.Tz:∀ {bs:List Bool} {us:List Value},Vals (bs.map V.bl) us->us=bs.map Value.bool
 | [],us,h=>by
  rw [Wb] at h
  cases h
  rfl
 | b::bs,us,h=>by
  rw [UT] at h
  cases h with
  | cons r t =>
   cases r
   rw [Vals.Tz t,UT]
theorem Vals.Jl {a:Addr} {us:List Value} (r:Vals [V.ref a] us):us=[Value.ref a]:=by
 cases r with
 | cons r t =>
  cases t
  cases r
  rfl
section
variable {prog:Program} {w:World} {A:Around} {E:Value->Shared->Prop} {s:Shared} {l:Addr} {its:List Value} {ns:List Int} {Q:Value->Shared->Prop}
theorem Po (hh:A.handled=none) (hl:s.heap.IsList l its.toArray) (hi:IntsAre its ns)
  (h:∀ h' tk t',(∀ b o,s.heap.get? b=some o->h'.get? b=some o)->Q (.int ns.sum t') { s with heap:=h',toks:=tk }):wpAny (model prog w) A (call (.builtin "sum") [.ref l]) Q E s:=by
 obtain ⟨xs,e⟩:=hi.allInts.items
 have hn:numsOf (intItems xs).toList=ns:=by rw [<- e];exact hi.numsOf
 rw [nums_intItems] at hn
 rw [e] at hl
 refine PySem.sum_intListG hh hl λh' tk t' hk=>?_
 have:=h h' tk t' hk
 rw [preSum_eq,List.take_of_length_le (by simp),hn];exact this
end
section
variable {X:Cx}
def R9 (K:Uy):List V->Hp->VK->Prop:=λvs H Q=>∃ (a:Addr) (ns:List Int),vs=[V.ref a]/\bf K H a (ns.map V.int)/\Q (.int ns.sum) H
theorem QV (hc:X.calm=true):mZ X (.builtin "sum") (R9 X.K):=by
 intro pins s σ H vs us Q I r h
 obtain ⟨a,ns,rfl,hs,q⟩:=h
 obtain ⟨its,rv,hl,_⟩:=I.list hs
 rw [Vals.Jl r]
 exact Po (I.ok.hd hc) hl.isList rv.ints λh' tk t' hk=>⟨.int _,H,I.kept hk,⟨_,rfl⟩,q⟩
end
theorem IU {prog:Program} {w:World} {A:Around} {E:Value->Shared->Prop} {s:Shared} {l:Addr} {items:Array Value} {Q:Value->Shared->Prop} (hl:s.heap.IsList l items)
  (h:∀ s₂:Shared,s₂={ s with heap:=s.heap.push { cls:=.type "list_iterator",data:=.fields #[.ref l,.int 0 0] } } ->
   (s₂.heap.IsListIter s.heap.objs.size l 0/\s₂.heap.IsList l items)->l≠s.heap.objs.size->Q (.ref s.heap.objs.size) s₂):wpAny (model prog w) A (pyIter (.ref l)) Q E s:=by
 have hlt:l < s.heap.objs.size:=by obtain ⟨_,e,_⟩:=hl;exact Heap.lt_size e
 exact wpAny_pyIter_list hl (h _ rfl ⟨⟨_,Heap.get?_push_size _ rfl,rfl,rfl⟩,hl.push _⟩ (U7 hlt))
theorem Ct {prog:Program} {w:World} {A:Around} {bs:List Bool} {its:List Value} (e:its=bs.map Value.bool) :
  TruthOf prog w A (λi v=>its.toArray[i]?=some v) (λi=>bs.getD i false):=λi v s Q E hv hq=>by
 have hv':its[i]?=some v:=by simpa using hv
 rw [e,Ve] at hv'
 obtain ⟨b,hb,rfl⟩:=Option.map_eq_some_iff.mp hv'
 have hg:bs.getD i false=b:=by rw [VE,hb]<;>rfl
 have hq':Q (bs.getD i false) s:=hq
 rw [hg] at hq'
 exact wpAny_truthy_bool hq'
theorem any_range:∀ bs:List Bool,(List.range bs.length).any (λi=>bs.getD i false)=bs.any id
 | []=>rfl
 | b::bs=>by
  rw [U0,List.range_succ_eq_map,Vv,V1,Vv,<- any_range bs]
  all_goals rfl
theorem all_range:∀ bs:List Bool,(List.range bs.length).all (λi=>bs.getD i false)=bs.all id
 | []=>rfl
 | b::bs=>by
  rw [U0,List.range_succ_eq_map,WE,List.all_map,WE,<- all_range bs]
  all_goals rfl
section
variable {X:Cx}
def SQ (K:Uy):List V->Hp->VK->Prop:=λvs H Q=>∃ (a:Addr) (bs:List Bool),vs=[V.ref a]/\bf K H a (bs.map V.bl)/\Q (.bl (bs.any id)) H
def Sv (K:Uy):List V->Hp->VK->Prop:=λvs H Q=>∃ (a:Addr) (bs:List Bool),vs=[V.ref a]/\bf K H a (bs.map V.bl)/\Q (.bl (bs.all id)) H
theorem Rx (hc:X.calm=true):mZ X (.builtin "any") (SQ X.K):=by
 intro pins s σ H vs us Q I r h
 obtain ⟨a,bs,rfl,hs,q⟩:=h
 obtain ⟨its,rv,hl,_⟩:=I.list hs
 rw [Vals.Jl r]
 have hb:=rv.Tz
 refine call_any_walk (IU hl.isList λs₂ e2 st hne=>?_)
 subst e2
 refine ⟨_,_,_,_,_,_,_,rfl,Walks.list (A:=X.A.in1) (I.ok.hd hc) _ a hne its.toArray,st,Ct hb,λh' tk hk=>?_⟩
 refine ⟨.bl _,H,I.kept λb o eo=>hk b o (λhmem=>?_) (Heap.get?_push_of_some _ eo),?_,q⟩
 ·rcases UL.mp hmem with e1 | hmem
  ·exact absurd (e1 ▸ Heap.lt_size eo) (Vz _)
  ·cases hmem
 ·show Value.bool _=Value.bool _
  rw [<- any_range,hb,UX,UA]
theorem QA (hc:X.calm=true):mZ X (.builtin "all") (Sv X.K):=by
 intro pins s σ H vs us Q I r h
 obtain ⟨a,bs,rfl,hs,q⟩:=h
 obtain ⟨its,rv,hl,_⟩:=I.list hs
 rw [Vals.Jl r]
 have hb:=rv.Tz
 refine call_all_walk (IU hl.isList λs₂ e2 st hne=>?_)
 subst e2
 refine ⟨_,_,_,_,_,_,_,rfl,Walks.list (A:=X.A.in1) (I.ok.hd hc) _ a hne its.toArray,st,Ct hb,λh' tk hk=>?_⟩
 refine ⟨.bl _,H,I.kept λb o eo=>hk b o (λhmem=>?_) (Heap.get?_push_of_some _ eo),?_,q⟩
 ·rcases UL.mp hmem with e1 | hmem
  ·exact absurd (e1 ▸ Heap.lt_size eo) (Vz _)
  ·cases hmem
 ·show Value.bool _=Value.bool _
  rw [<- all_range,hb,UX,UA]
end
mutual
inductive Dp (K:Uy) (H:Hp):V->PyData->Prop
 | dH:Dp K H .dH .none
 | bl (b:Bool):Dp K H (.bl b) (.bool b)
 | int (i:Int):Dp K H (.int i) (.int i)
 | str (x:Str):Dp K H (.str x) (.str x)
 | lst {a:Addr} {xs:List V} {ds:List PyData}:bf K H a xs->zw K H xs ds->Dp K H (.ref a) (.list ds)
 | tup {a:Addr} {xs:List V} {ds:List PyData}:gc K H a xs->zw K H xs ds->Dp K H (.ref a) (.tuple ds)
inductive zw (K:Uy) (H:Hp):List V->List PyData->Prop
 | nil:zw K H [] []
 | cons {v:V} {vs:List V} {d:PyData} {ds:List PyData}:Dp K H v d->zw K H vs ds->zw K H (v::vs) (d::ds)
end
section
variable {X:Cx} {pins:List (Addr × Obj)} {σ:St} {H:Hp} {s:Shared}
mutual
theorem Dp.reads (I:Inv X pins σ H s):∀ (d:PyData) (v:V) (u:Value),Dp X.K H v d->RelV v u->∃ as,Reads s.heap u d as
 | .none,_,_,h,r=>by
  cases h
  cases r
  exact ⟨_,Reads.none⟩
 | .bool b,_,_,h,r=>by
  cases h
  cases r
  exact ⟨_,Reads.bool b⟩
 | .int i,_,_,h,r=>by
  cases h
  obtain ⟨t,rfl⟩:=r
  exact ⟨_,Reads.int i t⟩
 | .str x,_,_,h,r=>by
  cases h
  obtain ⟨t,rfl⟩:=r
  exact ⟨_,Reads.str x t⟩
 | .list ds,_,_,h,r=>by
  cases h with
  | lst hs ha =>
   cases r
   obtain ⟨its,rv,⟨o,n,ho,hc,_,hd⟩,_⟩:=I.list hs
   obtain ⟨as,hr⟩:=Dp.readsAll I ds _ its ha rv
   exact ⟨_,Reads.list ho hc hd hr⟩
 | .tuple ds,_,_,h,r=>by
  cases h with
  | tup hs ha =>
   cases r
   obtain ⟨its,rv,⟨o,ho,hc,n,hd⟩,_⟩:=I.tuple hs
   obtain ⟨as,hr⟩:=Dp.readsAll I ds _ its ha rv
   exact ⟨_,Reads.tuple ho hc hd hr⟩
 | .dict _,_,_,h,_=>by cases h
theorem Dp.readsAll (I:Inv X pins σ H s):∀ (ds:List PyData) (vs:List V) (us:List Value),zw X.K H vs ds->Vals vs us->∃ as,ReadsAll s.heap us ds as
 | [],_,_,h,r=>by
  cases h
  cases r
  exact ⟨_,ReadsAll.nil⟩
 | d::ds,_,_,h,r=>by
  cases h with
  | cons h1 h2 =>
   cases r with
   | cons r1 r2 =>
    obtain ⟨as,q1⟩:=Dp.reads I d _ _ h1 r1
    obtain ⟨bs,q2⟩:=Dp.readsAll I ds _ _ h2 r2
    exact ⟨_,ReadsAll.cons q1 q2⟩
end
end
section
variable {X:Cx}
def Sj (K:Uy):R2:=λx y H Q=>∃ d e,Dp K H x d/\Dp K H y e/\SeqAt.shaped d=true/\SeqAt.shaped e=true/\Q (.bl (PyData.eqv d e)) H
def Sz (K:Uy):R2:=λx y H Q=>∃ d e,Dp K H x d/\Dp K H y e/\SeqAt.shaped d=true/\SeqAt.shaped e=true/\Q (.bl (!PyData.eqv d e)) H
theorem Q5 (hu:X.A.units+64 < cLine):zi X (compareOp .Eq) (Sj X.K):=by
 intro pins s σ H x y v u Q I rx ry h
 obtain ⟨d,e,hd,he,sd,se,q⟩:=h
 obtain ⟨as,r1⟩:=Dp.reads I d x v hd rx
 obtain ⟨bs,r2⟩:=Dp.reads I e y u he ry
 exact SeqAt.compareEq_shaped r1 r2 sd se hu ⟨.bl _,H,I,rfl,q⟩
theorem QE (hu:X.A.units+64 < cLine):zi X (compareOp .NotEq) (Sz X.K):=by
 intro pins s σ H x y v u Q I rx ry h
 obtain ⟨d,e,hd,he,sd,se,q⟩:=h
 obtain ⟨as,r1⟩:=Dp.reads I d x v hd rx
 obtain ⟨bs,r2⟩:=Dp.reads I e y u he ry
 exact SeqAt.compareNe_shaped r1 r2 sd se hu ⟨.bl _,H,I,rfl,q⟩
end
end L2
namespace L2
open PySem PySem.Spec PyProof.Rows
abbrev Oe (h:Heap) (c:Addr) (v:Option Value):Prop:=h.IsCell c v
def TX (scope sc:Scope):Scope :=
 { scope with names:=scope.names.map λ(n,k)=>if (k == .free&&sc.kind == .function&&sc.names.lookup n == some .cell) then (n,.cell) else (n,k) }
def dX (cells:List (Str × Addr)):List (Str × NameKind)->List (Str × Addr)->List (Str × Addr)
 | [],acc=>acc
 | (n,k)::r,acc=>if k == .free then dX cells r ((n,(cells.lookup n).getD 0)::acc) else dX cells r acc
theorem A8 (env:Env) (f:Str × NameKind->List (Str × Addr)->Sem (ForInStep (List (Str × Addr))))
  (hf:∀ n k c,f (n,k) c=if k == .free then (do let a <- cellOf env n;pure (.yield ((n,a)::c))) else pure (.yield c)) :
  ∀ (names:List (Str × NameKind)) (acc:List (Str × Addr)),(∀ y∈names,y.2=.free->∃ c,env.cells.lookup y.1=some c)->forIn names acc f=pure (dX env.cells names acc)
 | [],acc,_=>by rw [List.forIn_nil];rfl
 | (n,k)::r,acc,h=>by
  rw [List.forIn_cons,hf]
  have ih:=λacc=>A8 env f hf r acc λy hy=>h y (U2 _ hy)
  unfold dX
  by_cases hk:(k == NameKind.free)=true
  ·rw [if_pos hk,if_pos hk]
   obtain ⟨c,hc⟩:=h (n,k) UZ (by simpa using hk)
   have e:cellOf env n=pure c:=by unfold cellOf;rw [hc]
   rw [e]
   have e2:(env.cells.lookup n).getD 0=c:=by rw [hc];rfl
   rw [e2]
   exact ih _
  ·rw [if_neg hk,if_neg hk]
   exact ih _
theorem Kt {scope:Scope} {env:Env} (h:∀ y∈scope.names,y.2=.free->∃ c,env.cells.lookup y.1=some c):closureFor scope env=pure (dX env.cells scope.names []):=by
 simp only [closureFor]
 rw [A8 env _ (λn k c=>rfl) scope.names [] h]
 rfl
theorem mem_lookup {α:Type}:∀ {l:List (Str × α)} {n:Str} {c:α},(n,c)∈l->∃ c',l.lookup n=some c'
 | (k,v)::r,n,c,h=>by
  rw [Wq]
  cases hb:n == k with
  | true=>exact ⟨_,rfl⟩
  | false =>
   rcases UL.mp h with e | h
   ·cases e;simp at hb
   ·exact mem_lookup h
theorem tJ {cells:List (Str × Addr)}:∀ {names:List (Str × NameKind)} {acc:List (Str × Addr)} {n:Str} {c:Addr},(n,c)∈dX cells names acc->(n,c)∈acc∨((n,.free)∈names/\c=(cells.lookup n).getD 0)
 | [],_,_,_,h=>.inl h
 | (m,k)::r,acc,n,c,h=>by
  unfold dX at h
  split at h
  ·rename_i hk
   have hk:k=.free:=by simpa using hk
   rcases tJ h with h | ⟨h1,h2⟩
   ·rcases UL.mp h with e | h
    ·cases e;exact .inr ⟨hk ▸ UZ,rfl⟩
    ·exact .inl h
   ·exact .inr ⟨U2 _ h1,h2⟩
  ·rcases tJ h with h | ⟨h1,h2⟩
   ·exact .inl h
   ·exact .inr ⟨U2 _ h1,h2⟩
theorem xY {cells:List (Str × Addr)}:∀ {names:List (Str × NameKind)} {acc:List (Str × Addr)} {p:Str × Addr},p∈acc->p∈dX cells names acc
 | [],_,_,h=>h
 | (m,k)::r,acc,p,h=>by
  unfold dX
  split
  ·exact xY (U2 _ h)
  ·exact xY h
theorem xX {cells:List (Str × Addr)}:∀ {names:List (Str × NameKind)} {acc:List (Str × Addr)} {n:Str},(n,.free)∈names->(n,(cells.lookup n).getD 0)∈dX cells names acc
 | (m,k)::r,acc,n,h=>by
  unfold dX
  rcases UL.mp h with e | h
  ·cases e
   exact xY UZ
  ·split
   ·exact xX h
   ·exact xX h
theorem vR:∀ {names:List (Str × NameKind)} {h:Heap} {acc:List (Str × Addr)} {x:Str} {c:Addr},(x,c)∈cellsFrom h.objs.size names acc ->
  (x,c)∈acc∨((x,.cell)∈names/\h.objs.size<=c/\Oe (pushCells h names) c none)
 | [],_,_,_,_,h=>.inl h
 | (n,k)::r,h,acc,x,c,hm=>by
  unfold cellsFrom at hm
  unfold pushCells
  split at hm
  ·rename_i hk
   rw [if_pos hk]
   have hk:k=.cell:=by simpa using hk
   rw [<- Heap.size_push h { cls:=.type "cell",data:=.cell none }] at hm
   rcases vR hm with hm | ⟨h1,h2,h3⟩
   ·rcases UL.mp hm with e | hm
    ·cases e
     exact .inr ⟨hk ▸ UZ,UI _,_,pushCells_keeps r _ _ _ (Heap.get?_push_size _ rfl),rfl⟩
    ·exact .inl hm
   ·rw [Heap.size_push] at h2
    exact .inr ⟨U2 _ h1,Nat.le_of_succ_le h2,h3⟩
  ·rename_i hk
   rw [if_neg hk]
   rcases vR hm with hm | ⟨h1,h2,h3⟩
   ·exact .inl hm
   ·exact .inr ⟨U2 _ h1,h2,h3⟩
theorem zb:∀ {names:List (Str × NameKind)} {n:Nat} {acc:List (Str × Addr)} {p:Str × Addr},p∈acc->p∈cellsFrom n names acc
 | [],_,_,_,h=>h
 | (m,k)::r,n,acc,p,h=>by
  unfold cellsFrom
  split
  ·exact zb (U2 _ h)
  ·exact zb h
theorem Bx:∀ {names:List (Str × NameKind)} {n:Nat} {acc:List (Str × Addr)} {x:Str},(x,.cell)∈names->∃ c,(x,c)∈cellsFrom n names acc
 | (m,k)::r,n,acc,x,h=>by
  unfold cellsFrom
  rcases UL.mp h with e | h
  ·cases e
   exact ⟨n,zb UZ⟩
  ·split
   ·exact Bx h
   ·exact Bx h
theorem Cj:∀ {names:List (Str × NameKind)} {h:Heap} {acc:List (Str × Addr)} {x y:Str} {c:Addr},(∀ p∈acc,p.2 < h.objs.size)->(∀ x y c,(x,c)∈acc->(y,c)∈acc->x=y) ->
  (x,c)∈cellsFrom h.objs.size names acc->(y,c)∈cellsFrom h.objs.size names acc->x=y
 | [],_,_,_,_,_,_,hi,h1,h2=>hi _ _ _ h1 h2
 | (n,k)::r,h,acc,x,y,c,hl,hi,h1,h2=>by
  unfold cellsFrom at h1 h2
  split at h1
  ·rename_i hk
   rw [if_pos hk] at h2
   rw [<- Heap.size_push h { cls:=.type "cell",data:=.cell none }] at h1 h2
   refine Cj (h:=h.push _) (λp hp=>?_) (λx y c a b=>?_) h1 h2
   ·rw [Heap.size_push]
    rcases UL.mp hp with rfl | hp
    ·exact Nat.lt_succ_self _
    ·exact Nat.lt_succ_of_lt (hl p hp)
   ·rcases UL.mp a with e | a<;>rcases UL.mp b with e' | b
    ·cases e;cases e';rfl
    ·cases e;exact absurd (hl _ b) (Vz _)
    ·cases e';exact absurd (hl _ a) (Vz _)
    ·exact hi _ _ _ a b
  ·rename_i hk
   rw [if_neg hk] at h2
   exact Cj hl hi h1 h2
theorem Iz {M:Model} {A:Around} {E:Value->Shared->Prop} {s:Shared} {scope:Scope} {globals:Addr} {closure:List (Str × Addr)} {qual:Str} {func:Option Addr} {code:Value} {around:Env} {builtins:Addr} {Q:Env->Shared->Prop}
  (h:Q (newEnv scope s.heap.objs.size globals (cellsFrom (s.heap.objs.size+1) scope.names closure) qual func code (some around) builtins)
   { s with heap:=pushCells (s.heap.push { cls:=.type "dict",data:=.dict #[] }) scope.names }) :
  wpAny M A (newFunctionEnv scope globals closure [] qual func code (some around) builtins) Q E s:=by
 simp only [newFunctionEnv,Option.isSome_some,if_true]
 refine wpAny_bind (wpAny_alloc ?_)
 refine wpAny_bind (wpAny_layCells _ (λn k c=>rfl) scope.names closure _ _ ?_)
 rw [show ({ s with heap:=s.heap.push { cls:=.type "dict",data:=.dict #[] } }:Shared).heap.objs.size=s.heap.objs.size+1 from Heap.size_push ..]
 rw [List.forIn_nil]
 exact wpAny_bind (wpAny_pure (wpAny_pure h))
theorem xV {sc:Scope}:∀ {names:List (Str × NameKind)} {x:Str} {k:NameKind},
  (names.map λ(n,k)=>if (k == NameKind.free&&sc.kind == .function&&sc.names.lookup n == some .cell) then (n,NameKind.cell) else (n,k)).lookup x=some k ->
  ∃ k',names.lookup x=some k'/\(k=k'∨(k'=.free/\k=.cell))
 | [],_,_,h=>by simp at h
 | (n,k₀)::r,x,k,h=>by
  have ih:=@xV sc r x k
  have h':V9 x ((if (k₀ == NameKind.free&&sc.kind == .function&&sc.names.lookup n == some .cell)=true then (n,NameKind.cell) else (n,k₀))::(r.map _))=some k:=h
  cases hx:x == n with
  | true =>
   simp only [Wq,hx]
   by_cases hc:(k₀ == NameKind.free&&sc.kind == .function&&sc.names.lookup n == some .cell)=true
   ·rw [if_pos hc] at h'
    simp only [Wq,hx] at h'
    cases h'
    simp only [UN,beq_iff_eq] at hc
    exact ⟨k₀,rfl,.inr ⟨hc.1.1,rfl⟩⟩
   ·rw [if_neg hc] at h'
    simp only [Wq,hx] at h'
    cases h'
    exact ⟨_,rfl,.inl rfl⟩
  | false =>
   simp only [Wq,hx]
   by_cases hc:(k₀ == NameKind.free&&sc.kind == .function&&sc.names.lookup n == some .cell)=true
   ·rw [if_pos hc] at h'
    simp only [Wq,hx] at h'
    exact ih h'
   ·rw [if_neg hc] at h'
    simp only [Wq,hx] at h'
    exact ih h'
structure Jx (N:List Str) (sc scope:Scope) (own:List (Str × Nat)):Prop where
 kind:scope.kind=.function
 uniq:∀ y∈scope.names,scope.names.lookup y.1=some y.2
 ix:∀ p∈own,N[p.2]?=some p.1
 free:∀ y∈scope.names,y.2=.free->sc.names.lookup y.1=some .cell∨sc.names.lookup y.1=some .free
 own:∀ y∈scope.names,y.2=.local∨y.2=.cell->y.1∈own.map (·.1)∨y.1 ∉ N
def wipe (σ:St):List Nat->St
 | []=>σ
 | v::vs=>(wipe σ vs).set v none
theorem y1 (σ:St):∀ vs:List Nat,(wipe σ vs).length=σ.length
 | []=>rfl
 | v::vs=>by unfold wipe;rw [Vb,y1 σ vs]
theorem BR {σ:St} {i:Nat} {x:V}:∀ {vs:List Nat},(wipe σ vs)[i]?=some (some x)->σ[i]?=some (some x)/\i ∉ vs
 | [],h=>⟨h,by simp⟩
 | v::vs,h=>by
  unfold wipe at h
  by_cases hi:v=i
  ·subst hi
   by_cases hv:v < (wipe σ vs).length
   ·rw [VN hv] at h;cases h
   ·rw [VT (by simpa using hv)] at h;cases h
  ·rw [Wk hi] at h
   obtain ⟨h1,h2⟩:=BR h
   exact ⟨h1,by simp only [UL,not_or];exact ⟨λe=>hi e.symm,h2⟩⟩
abbrev Cx.HQ (X:Cx) (s:Shared) (H:Hp) (scope:Scope) (cenv:Env) (fp:List Addr):Cx:={ X with F6:=s,Ru:=H,env:=cenv,outer:=X.stack,ex:=fp,fn:=λx=>scope.names.lookup x == some .cell,pn:=[],xe:=λ_ _=>False }
section
variable {X:Cx} {pins:List (Addr × Obj)} {σ:St} {H:Hp} {s:Shared}
theorem IM {scope:Scope} {own:List (Str × Nat)} {fp:List Addr} (I:Inv X pins σ H s) (ok:Jx X.N X.env.scope scope own) (hN:X.N.Nodup) (hfp:∀ b∈fp,Fy X pins H b/\b < s.heap.objs.size) :
  Inv (X.HQ s H scope (compEnvC scope (cellsFrom (s.heap.objs.size+1) scope.names (dX X.env.cells scope.names [])) s.heap.objs.size X.env) fp) [] (wipe σ (own.map (·.2))) H { s with heap:=pushCells (s.heap.push { cls:=.type "dict",data:=.dict #[] }) scope.names }:=by
 have hfree:∀ y∈scope.names,y.2=.free->∃ c,X.env.cells.lookup y.1=some c:=λy hy e=>by
  rcases ok.free y hy e with k | k
  ·exact I.ok.has _ (.inl k)
  ·exact I.ok.has _ (.inr k)
 generalize hcenv:compEnvC scope (cellsFrom (s.heap.objs.size+1) scope.names (dX X.env.cells scope.names [])) s.heap.objs.size X.env=cenv
 have kp:∀ b o,s.heap.get? b=some o->(pushCells (s.heap.push { cls:=.type "dict",data:=.dict #[] }) scope.names).get? b=some o:=λb o e=>pushCells_keeps _ _ _ _ (Heap.get?_push_of_some _ e)
 have hL:cenv.locals=s.heap.objs.size:=by rw [<- hcenv];rfl
 have hcl:cenv.cells=cellsFrom (s.heap.objs.size+1) scope.names (dX X.env.cells scope.names []):=by rw [<- hcenv];rfl
 have hsc:cenv.scope=TX scope X.env.scope:=by rw [<- hcenv];rfl
 rw [<- Heap.size_push s.heap { cls:=.type "dict",data:=.dict #[] }] at hcl
 have cm:∀ {y c},(y,c)∈dX X.env.cells scope.names []->X.env.cells.lookup y=some c/\c < s.heap.objs.size:=λ{y c} hm=>by
  rcases tJ hm with hm | ⟨h1,rfl⟩
  ·cases hm
  ·obtain ⟨c,hc⟩:=hfree _ h1 rfl
   rw [hc]
   obtain ⟨w,z⟩:=I.cell _ _ hc
   exact ⟨rfl,z.lt⟩
 have mem:∀ {y c},cenv.cells.lookup y=some c->(X.env.cells.lookup y=some c/\c < s.heap.objs.size)∨(s.heap.objs.size+1<=c/\Oe (pushCells (s.heap.push { cls:=.type "dict",data:=.dict #[] }) scope.names) c none):=λ{y c} e=>by
  rw [hcl] at e
  rcases vR (Vu e) with hm | ⟨_,h2,h3⟩
  ·exact .inl (cm hm)
  ·rw [Heap.size_push] at h2;exact .inr ⟨h2,h3⟩
 have look:∀ {y},scope.names.lookup y=some .free->∃ c,cenv.cells.lookup y=some c/\X.env.cells.lookup y=some c:=λ{y} hl=>by
  have hy:(y,NameKind.free)∈scope.names:=Vu hl
  obtain ⟨c',e'⟩:=mem_lookup (zb (names:=scope.names) (n:=(s.heap.push { cls:=.type "dict",data:=.dict #[] }).objs.size) (xX (cells:=X.env.cells) (acc:=[]) hy))
  rw [<- hcl] at e'
  refine ⟨c',e',?_⟩
  rw [hcl] at e'
  rcases vR (Vu e') with hm | ⟨h1,_,_⟩
  ·exact (cm hm).1
  ·have:=ok.uniq _ h1
   rw [hl] at this;cases this
 have okB:(X.HQ s H scope cenv fp).Ok:=by
  refine ⟨I.ok.mod,by show cenv.scope.kind=_;rw [hsc];exact ok.kind,by show cenv.globals=_;rw [<- hcenv];exact I.ok.glob,by show cenv.builtins=_;rw [<- hcenv];exact I.ok.blt,by show s.heap.objs.size<=cenv.locals;rw [hL];exact UI _,
   λy z c e1 e2=>?_,λy hy=>?_,λy c z e=>?_,I.ok.hd,I.ok.frames,.inl rfl,λb hb=>⟨?_,λy c e z=>?_⟩,I.bs,US I.ok.Pf I.sz,λb o e hb=>?_,λb hb z=>?_,I.stack,I.KP⟩
  ·have e1:cenv.cells.lookup y=some c:=e1
   have e2:cenv.cells.lookup z=some c:=e2
   rw [hcl] at e1 e2
   refine Cj (λp hp=>?_) (λy z c a b=>I.ok.inj y z c (cm a).1 (cm b).1) (Vu e1) (Vu e2)
   rw [Heap.size_push]
   exact Nat.lt_succ_of_lt (cm (y:=p.1) (c:=p.2) hp).2
  ·show ∃ c,cenv.cells.lookup y=some c
   have key:∀ k,cenv.kindOf y=some k->(k=.cell∨k=.free)->∃ c,cenv.cells.lookup y=some c:=λk hk hk'=>by
    unfold Env.kindOf at hk
    rw [hsc] at hk
    obtain ⟨k',e,r⟩:=xV hk
    have:k'=.cell∨k'=.free:=by
     rcases r with rfl | ⟨rfl,_⟩
     ·exact hk'
     ·exact .inr rfl
    rcases this with rfl | rfl
    ·obtain ⟨c,hm⟩:=Bx (n:=(s.heap.push { cls:=.type "dict",data:=.dict #[] }).objs.size) (acc:=dX X.env.cells scope.names []) (Vu e)
     obtain ⟨c',e'⟩:=mem_lookup hm
     exact ⟨c',by rw [hcl];exact e'⟩
    ·obtain ⟨c,h1,_⟩:=look e
     exact ⟨c,h1⟩
   rcases hy with hy | hy
   ·exact key _ hy (.inl rfl)
   ·exact key _ hy (.inr rfl)
  ·have z:(scope.names.lookup y == some NameKind.cell)=true:=z
   have z:scope.names.lookup y=some .cell:=by simpa using z
   have e:cenv.cells.lookup y=some c:=e
   rw [hcl] at e
   rcases vR (Vu e) with hm | ⟨_,h2,_⟩
   ·rcases tJ hm with hm | ⟨h1,_⟩
    ·cases hm
    ·have q:=ok.uniq _ h1
     rw [z] at q;cases q
   ·rw [Heap.size_push] at h2
    exact Nat.le_of_succ_le h2
  ·show b≠cenv.locals
   rw [hL];exact U7 (hfp b hb).2
  ·have e:cenv.cells.lookup y=some c:=e
   rcases mem e with ⟨h1,_⟩ | ⟨h1,_⟩
   ·exact (hfp b hb).1.2.2.2.2.1 y c h1 z
   ·have h2:s.heap.objs.size+1<=b:=by rw [<- z];exact h1
    exact absurd (Vq (hfp b hb).2 (Nat.le_of_succ_le h2)) (Vz _)
  ·rcases (hfp b hb).1.2.2.2.1 with z | z
   ·exact I.ok.Om b o e z
   ·exact absurd (Vq (Heap.lt_size e) (US I.ok.Pf z)) (Vz _)
  ·rcases UL.mp (I.Kg b z) with z | z
   ·exact (hfp b hb).1.2.1 z
   ·exact (hfp b hb).1.2.2.1 z
 refine ⟨okB,rfl,I.bare,Un.kept kp,⟨λ_=>none,?_,λi y av e1 e2 e3=>?_⟩,λy c e=>?_,?_,λy c e=>?_,λp hp=>?_,I.dz.kept kp,by rw [y1];exact I.len⟩
 ·show Heap.Ns _ cenv.locals _
  rw [hL]
  exact Heap.Ns.keeps (Heap.Ns.new ..) λb o e=>pushCells_keeps _ _ _ _ e
 ·obtain ⟨e2,hne⟩:=BR e2
  have hfr:scope.names.lookup y=some .free/\(cenv.kindOf y=some .cell∨cenv.kindOf y=some .free):=by
   have key:∀ k,cenv.scope.names.lookup y=some k->k=.local∨k=.cell∨k=.free->scope.names.lookup y=some .free/\(cenv.kindOf y=some .cell∨cenv.kindOf y=some .free):=λk hk hk'=>by
    have hk0:=hk
    rw [hsc] at hk
    obtain ⟨k',e,r⟩:=xV hk
    have no:¬ (k'=.local∨k'=.cell):=λhh=>by
     rcases ok.own _ (Vu e) hh with e' | e'
     ·obtain ⟨p,hp,hpy⟩:=UR.mp e'
      have e3:=ok.ix p hp
      have:p.1=y:=hpy
      rw [this] at e3
      exact hne (UR.mpr ⟨p,hp,E7 hN e3 e1⟩)
     ·exact e' (Vf e1)
    rcases r with rfl | ⟨rfl,rfl⟩
    ·rcases hk' with rfl | rfl | rfl
     ·exact absurd (.inl rfl) no
     ·exact absurd (.inr rfl) no
     ·exact ⟨e,.inr hk0⟩
    ·exact ⟨e,.inl hk0⟩
   have e3:RN cenv.scope y:=e3
   rcases e3 with e3 | e3 | e3
   ·exact key _ e3 (.inl rfl)
   ·exact key _ e3 (.inr (.inl rfl))
   ·exact key _ e3 (.inr (.inr rfl))
  obtain ⟨m,hn,hl⟩:=I.loc
  have hvis:RN X.env.scope y:=(ok.free _ (Vu hfr.1) rfl).elim (λk=>.inr (.inl k)) (λk=>.inr (.inr k))
  obtain ⟨w,r,q⟩:=hl i y av e1 e2 hvis
  refine ⟨w,r,.inr ⟨hfr.2,?_⟩⟩
  obtain ⟨c,h1,h2⟩:=look hfr.1
  rcases q with ⟨k,_⟩ | ⟨_,c',e',z⟩
  ·have k:X.env.scope.names.lookup y=some .local:=k
   rcases ok.free _ (Vu hfr.1) rfl with k' | k'<;>rw [show X.env.scope.names.lookup y=_ from k'] at k<;>cases k
  ·rw [h2] at e';cases e'
   exact ⟨c,h1,z.keeps kp⟩
 ·have e:cenv.cells.lookup y=some c:=e
  rcases mem e with ⟨h1,_⟩ | ⟨_,z⟩
  ·obtain ⟨w,z⟩:=I.cell y c h1
   exact ⟨w,z.keeps kp⟩
  ·exact ⟨_,z⟩
 ·show H cenv.locals=none
  rw [hL];exact I.dz.fresh (UI _)
 ·have e:cenv.cells.lookup y=some c:=e
  rcases mem e with ⟨h1,_⟩ | ⟨h1,_⟩
  ·exact I.vL y c h1
  ·exact I.dz.fresh (Nat.le_of_succ_le h1)
 ·exact absurd (show p∈([]:List (Addr × Obj))++[] from hp) (by simp)
theorem Qt {E:Value->Shared->Prop} {D:Addr} {xs:List V} {y:V} {v:Value} {Q:Value->Shared->Prop} (I:Inv X pins σ H s) (hD:H D=some (.lst xs)) (hz:xs.length < sizeLine) (r:RelV y v)
  (h:∀ s',Inv X pins σ (upd H D (.lst (xs++[y]))) s'->Q .none s'):wpAny (model X.prog X.w) X.A (call (.builtin "list.append") [.ref D,v]) Q E s:=by
 obtain ⟨hz',its,n,ri,e⟩:=I.dz D _ hD
 have hl:=ri.length
 refine append_at (hsz:=by rw [UX];omega) e λh' sb ho'=>?_
 refine h { s with heap:=h' } (I.write (t':=s.toks) (by rw [hD];trivial) (.inl rfl) (λb u hb q=>(sb.2 b hb).trans q) ⟨_,ho'⟩ ⟨by rw [Vk];exact hz,its++[v],n+1,ri.append (.cons r .nil),?_⟩)
 rw [ho']
 simp
def SW (X:Cx) (ifs:List Expr) (t:TT):Prop :=
 ∀ (pins:List (Addr × Obj)) (s:Shared) (σ:St) (H:Hp) (Q:Bool->Hp->Prop),Inv X pins σ H s->t σ H Q ->
  wpAny (model X.prog X.w) X.A (forIn ifs true λc r=>if r=true then do let ok <- isTrue c X.env (eval c X.env);pure (ForInStep.yield ok) else pure (ForInStep.yield r)) (TP X pins σ Q) X.xe s
def RV:TT:=λ_ H Q=>Q true H
theorem oy:SW X [] RV:=λ_ _ _ H _ I h=>wpAny_tests_nil ⟨H,I,h⟩
theorem Bi {c:Expr} {t:TT} (h:PT X c t):SW X [c] t:=λpins s σ H Q I hw=>wpAny_tests_one (h pins s σ H Q I hw)
end
theorem MU {α:Type} {t:Sem α} {Q Q':α->Shared->Prop} {M:Model} {A:Around} {E:Value->Shared->Prop} {s:Shared} (h:wpAny M A t Q (λ_ _=>False) s) (hQ:∀ a s,Q a s->Q' a s):wpAny M A t Q' E s:=wpAny_mono h hQ λ_ _ z=>False.elim z
theorem GK {prog:Program} {w:World} {A:Around} {R:Result->Shared->Prop} {s:Shared} {elt target iter:Expr} {ifs:List Expr} {scope:Scope} {pos:Pos} {it acc:Value} {env:Env} (I:Nat->Shared->Prop)
  (turn:∀ n s,I n s->wpAny (model prog w) A (pyNext it) (λr s₁=>match r with
   | none=>R (.ok .next) s₁
   | some v=>wpAny (model prog w) A (letOwnedTupleGo target it v) (λ_ s₁'=>wpAny (model prog w) A (assign target env v) (λ_ s₂ =>
     wpAny (model prog w) A (forIn ifs true λc r=>if r=true then do let ok <- isTrue c env (eval c env);pure (ForInStep.yield ok) else pure (ForInStep.yield r)) (λok s₃ =>
      if ok=true then wpAny (model prog w) A (eval elt env) (λx s₄ =>
       wpAny (model prog w) A (call (.builtin "list.append") [acc,x]) (λ_ s₅=>∃ m,m < n/\I m s₅) (notedBy (model prog w) A env λe s'=>R (.error e) s') s₄) (notedBy (model prog w) A env λe s'=>R (.error e) s') s₃
      else ∃ m,m < n/\I m s₃) (notedBy (model prog w) A env λe s'=>R (.error e) s') s₂) (notedBy (model prog w) A env λe s'=>R (.error e) s') s₁') (notedBy (model prog w) A env λe s'=>R (.error e) s') s₁) (notedBy (model prog w) A env λe s'=>R (.error e) s') s)
  (n:Nat) (h:I n s) :
  codeAny (model prog w) A (.compLoop (.ListComp elt [⟨target,iter,ifs,0⟩] scope pos) 0 it acc env) R s:=by
 refine codeAny_loop rfl I (λn s hI=>?_) n h
 show wpAny _ A ((compTurn (.ListComp elt [⟨target,iter,ifs,0⟩] scope pos) 0 it acc env).onRaise (λx=>do noteFrame x env;theTreesLotGoes x)) _ _ s
 refine wpAny_noted ?_
 rw [compTurn_list]
 refine wpAny_bind (wpAny_standAt (wpAny_bind (wpAny_mono (turn n s hI) (λr s₁ h₁=>?_) λ_ _ h'=>h')))
 cases r with
 | none=>exact wpAny_pure h₁
 | some v =>
  refine wpAny_bind (wpAny_mono h₁ (λ_ s₁' h₁'=>?_) λ_ _ h'=>h')
  refine wpAny_bind (wpAny_mono h₁' (λ_ s₂ h₂=>wpAny_bind (wpAny_mono h₂ (λok s₃ h₃=>?_) λ_ _ h'=>h')) λ_ _ h'=>h')
  cases ok with
  | false=>exact wpAny_pure ⟨rfl,h₃⟩
  | true =>
   exact wpAny_bind (wpAny_bind (wpAny_mono h₃ (λx s₄ h₄=>wpAny_bind (wpAny_mono h₄ (λ_ s₅ h₅=>wpAny_pure (wpAny_pure ⟨rfl,h₅⟩)) λ_ _ h'=>h')) λ_ _ h'=>h'))
section
variable {X:Cx}
def Tq (wi:TI) (g:TG) (tt:TT) (te:TE) (vs:List Nat):TE:=λσ H Q=>wi σ H λJ H1=>∀ D,H1 D=none->∃ W:Nat->Nat->Hp->Prop,(∃ m,W 0 m (upd H1 D (.lst [])))/\∀ i m H,W i m H ->
 (J.stop i H/\Q (.ref D) H)∨(J.go i H/\∃ Nx:Hp->Prop,(∀ H',Nx H'->∃ m',m' < m/\W (i+1) m' H')/\∀ x H',J.O5 i H x H'->g x (wipe σ vs) H' λσ2 H2=>wipe σ2 vs=wipe σ vs/\tt σ2 H2 λb H3 =>
  if b=true then te σ2 H3 λy H4=>∃ acc,H4 D=some (.lst acc)/\acc.length < sizeLine/\Nx (upd H4 D (.lst (acc++[y]))) else Nx H3)
theorem Ls {pins:List (Addr × Obj)} {s:Shared} {σ:St} {H:Hp} {Q:VK} {elt tg iter:Expr} {ifs:List Expr} {scope:Scope} {own:List (Str × Nat)} {pos pos':Pos} {wi:TI} {g:TG} {tt:TT} {te:TE} {use:Option (Value->Sem Unit)} {Qf:Value->Shared->Prop}
  (hc:X.calm=true) (hN:X.N.Nodup) (I:Inv X pins σ H s) (hi:PI X tg iter wi) (ok:Jx X.N X.env.scope scope own)
  (hg:∀ (s:Shared) (H:Hp) (C:Addr) (cl:List (Str × Addr)) (fp:List Addr),PG (X.HQ s H scope (compEnvC scope cl C X.env) fp) tg g) (ht:∀ (s:Shared) (H:Hp) (C:Addr) (cl:List (Str × Addr)) (fp:List Addr),SW (X.HQ s H scope (compEnvC scope cl C X.env) fp) ifs tt)
  (he:∀ (s:Shared) (H:Hp) (C:Addr) (cl:List (Str × Addr)) (fp:List Addr),PE (X.HQ s H scope (compEnvC scope cl C X.env) fp) elt te) (hs:∀ x,foldedSetIterable iter X.env x=pure x)
  (h:Tq wi g tt te (own.map (·.2)) σ H Q)
  (hRR:∀ D C s' m H',Inv X pins σ H' s'->Q (.ref D) H'->s'.heap.Ns C m->Fy X pins H' C->compPost (model X.prog X.w) X.A X.xe use Qf (.ref D) C (.ok .next) s') :
  wpAny (model X.prog X.w) X.A (comprehension (.ListComp elt [⟨tg,iter,ifs,0⟩] scope pos) scope X.env pos' (newList []) false (eval iter X.env) use) Qf X.xe s:=by
 have hfree:∀ y∈scope.names,y.2=.free->∃ c,X.env.cells.lookup y.1=some c:=λy hy e=>by
  rcases ok.free y hy e with k | k
  ·exact I.ok.has _ (.inl k)
  ·exact I.ok.has _ (.inr k)
 refine wpAny_comprehension_free (use:=use) rfl hs (Kt hfree) ok.kind (λy hy e=>by rw [ok.uniq y hy,e])
  (dP (hi pins s σ H _ I h) λxv s1 hx=>dP hx λitv s2 h2=>?_)
 obtain ⟨it,fp,tn,J,H2,e,I2,T,st2,f2,q⟩:=h2
 subst e
 refine wpAny_newObj_type (Iz ?_) (by show 0<=sizeLine;decide)
 generalize hD:s2.heap.objs.size=D
 have hDn:H2 D=none:=I2.dz.fresh (Nat.le_of_eq hD)
 obtain ⟨W,⟨m0,w0⟩,turn⟩:=q D hDn
 generalize hs3:({ s2 with heap:=s2.heap.push { cls:=.type "list",data:=.seq ([]:List Value).toArray } }:Shared)=s3
 have I3:Inv X pins σ (upd H2 D (.lst [])) s3:=by
  rw [<- hs3]
  refine I2.laid (t':=s2.toks) (λb o e=>Heap.get?_push_of_some _ e) (Nat.le_of_eq hD) ⟨U9 _,[],0,.nil,?_⟩
  rw [<- hD]
  exact Heap.get?_push_size _ rfl
 have h3:s3.heap=s2.heap.push { cls:=.type "list",data:=.seq ([]:List Value).toArray }:=by rw [<- hs3]
 have sz:∀ b∈fp,b < s2.heap.objs.size:=λb hb=>by
  obtain ⟨o,e,_⟩:=T.obj _ _ st2 b hb
  exact Heap.lt_size e
 have f3:∀ b∈fp,Fy X pins (upd H2 D (.lst [])) b/\b < s3.heap.objs.size:=λb hb=>by
  have hlt:=sz b hb
  refine ⟨⟨?_,(f2 b hb).2⟩,by rw [h3,Heap.size_push];exact Nat.lt_succ_of_lt hlt⟩
  rw [ak (by rw [<- hD];exact U7 hlt)]
  exact (f2 b hb).1
 have st3:tn 0 s3.heap:=T.keep _ _ _ st2 λb _ o e=>by rw [h3];exact Heap.get?_push_of_some _ e
 have I4:=IM I3 ok hN f3
 have pg:=hg s3 (upd H2 D (.lst [])) s3.heap.objs.size (cellsFrom (s3.heap.objs.size+1) scope.names (dX X.env.cells scope.names [])) fp
 have pt:=ht s3 (upd H2 D (.lst [])) s3.heap.objs.size (cellsFrom (s3.heap.objs.size+1) scope.names (dX X.env.cells scope.names [])) fp
 have pe:=he s3 (upd H2 D (.lst [])) s3.heap.objs.size (cellsFrom (s3.heap.objs.size+1) scope.names (dX X.env.cells scope.names [])) fp
 show codeAny _ _ (.compStart (.ListComp elt [⟨tg,iter,ifs,0⟩] scope pos) 0 (.ref it) (.ref D) (compEnvC scope (cellsFrom (s3.heap.objs.size+1) scope.names (dX X.env.cells scope.names [])) s3.heap.objs.size X.env)) (compPost (model X.prog X.w) X.A X.xe use Qf (.ref D) s3.heap.objs.size) { s3 with heap:=pushCells (s3.heap.push { cls:=.type "dict",data:=.dict #[] }) scope.names }
 have nfp:∀ b∈fp,(upd H2 D (.lst [])) b=none:=λb hb=>(f3 b hb).1.1
 generalize hce:compEnvC scope (cellsFrom (s3.heap.objs.size+1) scope.names (dX X.env.cells scope.names [])) s3.heap.objs.size X.env=ce at I4 pg pt pe ⊢
 have cL:ce.locals=s3.heap.objs.size:=by subst hce;rfl
 generalize hH3:upd H2 D (.lst [])=H3 at I3 I4 pg pt pe w0 nfp f3
 generalize hs4:({ s3 with heap:=pushCells (s3.heap.push { cls:=.type "dict",data:=.dict #[] }) scope.names }:Shared)=s4 at I4 ⊢
 have st4:tn 0 s4.heap:=T.keep _ _ _ st3 λb _ o e=>by rw [<- hs4];exact pushCells_keeps _ _ _ _ (Heap.get?_push_of_some _ e)
 have stat:∀ {σ':St} {H':Hp} {s':Shared},Inv (X.HQ s3 H3 scope ce fp) [] σ' H' s'->(∀ b∈fp,H' b=none)->∀ b∈fp,Fy (X.HQ s3 H3 scope ce fp) [] H' b:=λ{σ' H' s'} I' hn b hb =>
  ⟨hn b hb,(I'.ok.Td b hb).1,I'.ok.OE b hb,.inl hb,λx c e=>(I'.ok.Td b hb).2 x c e,λp hp=>absurd (show p∈([]:List (Addr × Obj))++[] from hp) (by simp)⟩
 have loop:codeAny (model X.prog X.w) X.A (.compLoop (.ListComp elt [⟨tg,iter,ifs,0⟩] scope pos) 0 (.ref it) (.ref D) ce) (compPost (model X.prog X.w) X.A X.xe use Qf (.ref D) s3.heap.objs.size) s4:=by
  refine GK (λn s'=>∃ i H',Inv (X.HQ s3 H3 scope ce fp) [] (wipe σ (own.map (·.2))) H' s'/\tn i s'.heap/\(∀ b∈fp,H' b=none)/\W i n H') ?_ m0 ⟨0,H3,I4,st4,nfp,w0⟩
  rintro n s5 ⟨i,H5,I5,st5,n5,w5⟩
  rcases turn i n H5 w5 with ⟨stop,qq⟩ | ⟨go,Nx,hNx,step⟩
  ·have td:=T.done (X.HQ s3 H3 scope ce fp) rfl rfl rfl hc i [] s5 _ H5 (λ_ _=>False) I5 (stat I5 n5) st5 stop
   refine MU td λr s6 ⟨hr,I6⟩=>?_
   subst hr
   have I7:Inv X pins σ H5 s6:=I3.SA (ch:=fp) I6.os I6.base I6.dz I6.bare λb hb=>⟨(f3 b hb).1.2.2.2.1,(f3 b hb).1.2.1,(f3 b hb).1.2.2.2.2.1,(f3 b hb).1.2.2.2.2.2⟩
   have nC:H5 s3.heap.objs.size=none:=by
    have z:H5 ce.locals=none:=I6.free
    rw [cL] at z
    exact z
   obtain ⟨m,hn,_⟩:=I6.loc
   have hn:s6.heap.Ns ce.locals m:=hn
   rw [cL] at hn
   exact hRR D s3.heap.objs.size s6 m H5 I7 qq hn (I3.OW (UI _) nC)
  ·have ti:=T.item (X.HQ s3 H3 scope ce fp) rfl rfl rfl hc i [] s5 _ H5 (λ_ _=>False) I5 (stat I5 n5) st5 go
   refine MU ti λr s6 ⟨u,hr,h6⟩=>?_
   subst hr
   refine MU h6 λ_ s7 ⟨x,H7,I7,r7,y7,st7,n7⟩=>?_
   have I7':=I7.pinned (stat I7 n7) (T.obj _ _ st7)
   refine MU (pg _ s7 _ H7 x u _ I7' r7 (step x H7 y7)) λ_ s8 ⟨σ8,H8,I8,hw8,q8⟩=>?_
   refine MU (pt _ s8 σ8 H8 _ I8 q8) λb s9 ⟨H9,I9,q9⟩=>?_
   have fin:∀ {s':Shared} {H':Hp},Inv (X.HQ s3 H3 scope ce fp) ([]++EV fp s7.heap) σ8 H' s'->Nx H'->∃ m,m < n/\∃ i H',Inv (X.HQ s3 H3 scope ce fp) [] (wipe σ (own.map (·.2))) H' s'/\tn i s'.heap/\(∀ b∈fp,H' b=none)/\W i m H':=λ{s' H'} I' nx=>by
    obtain ⟨m',hm,w'⟩:=hNx H' nx
    have pin':∀ b∈fp,∀ o,s7.heap.get? b=some o->s'.heap.get? b=some o/\H' b=none:=λb hb o e =>
     let z:=I'.pin (b,o) (V8 _ (V8 _ (z1 hb e)))
     ⟨z.1,z.2.1⟩
    have hl:(wipe σ (own.map (·.2))).length=σ8.length:=by rw [<- hw8,y1]
    refine ⟨m',hm,i+1,H',(I'.AZ (pins:=[])).weak hl (λj v e=>?_),T.keep _ _ _ st7 λb hb o e=>(pin' b hb o e).1,λb hb=>?_,w'⟩
    ·rw [<- hw8] at e
     exact (BR e).1
    ·obtain ⟨o,e,_⟩:=T.obj _ _ st7 b hb
     exact (pin' b hb o e).2
   cases b with
   | false =>
    simp only [Bool.false_eq_true,if_false] at q9 ⊢
    exact fin I9 q9
   | true =>
    simp only [if_true] at q9 ⊢
    refine MU (pe _ s9 σ8 H9 _ I9 q9) λz s10 ⟨yv,H10,I10,r10,acc,hD10,hz10,nx⟩=>?_
    exact Qt (X:=X.HQ s3 H3 scope ce fp) I10 hD10 hz10 r10 λs11 I11=>fin I11 nx
 exact codeAny_compStart_list loop (T.self X.A 0 _ _ _ st4 loop)
theorem wX {elt tg iter:Expr} {ifs:List Expr} {scope:Scope} {own:List (Str × Nat)} {pos:Pos} {wi:TI} {g:TG} {tt:TT} {te:TE} (hc:X.calm=true) (hN:X.N.Nodup) (hi:PI X tg iter wi) (ok:Jx X.N X.env.scope scope own)
  (hg:∀ (s:Shared) (H:Hp) (C:Addr) (cl:List (Str × Addr)) (fp:List Addr),PG (X.HQ s H scope (compEnvC scope cl C X.env) fp) tg g) (ht:∀ (s:Shared) (H:Hp) (C:Addr) (cl:List (Str × Addr)) (fp:List Addr),SW (X.HQ s H scope (compEnvC scope cl C X.env) fp) ifs tt)
  (he:∀ (s:Shared) (H:Hp) (C:Addr) (cl:List (Str × Addr)) (fp:List Addr),PE (X.HQ s H scope (compEnvC scope cl C X.env) fp) elt te) (hs:∀ x,foldedSetIterable iter X.env x=pure x:=by intro _;rfl) :
  PE X (.ListComp elt [⟨tg,iter,ifs,0⟩] scope pos) (Tq wi g tt te (own.map (·.2))):=by
 intro pins s σ H Q I h
 rw [eval_ListComp]
 refine Ls hc hN I hi ok hg ht he hs h λD C s' m H' I' q hn f=>⟨m,hn,λh'' sb=>?_⟩
 obtain ⟨f0,f1,f2,f3,f4,f5⟩:=f
 exact ⟨.ref D,H',I'.turned (t':=s'.toks) (λb o hb e=>(sb.2 b hb).trans e) f0 f1 f3 f4 f5,rfl,q⟩
theorem A5 {i:Nat} {y:Str} {py:Pos} {elt tg iter:Expr} {ifs:List Expr} {scope:Scope} {own:List (Str × Nat)} {pos Kq:Pos} {wi:TI} {g:TG} {tt:TT} {te:TE} (hc:X.calm=true) (hN:X.N.Nodup) (hy:X.N[i]?=some y) (hyl:X.env.scope.names.lookup y=some .local)
  (hsw:swapsWith (.ListComp elt [⟨tg,iter,ifs,0⟩] scope pos) (some (.Name y py)) Kq.line X.env=pure true) (hi:PI X tg iter wi) (ok:Jx X.N X.env.scope scope own)
  (hg:∀ (s:Shared) (H:Hp) (C:Addr) (cl:List (Str × Addr)) (fp:List Addr),PG (X.HQ s H scope (compEnvC scope cl C X.env) fp) tg g) (ht:∀ (s:Shared) (H:Hp) (C:Addr) (cl:List (Str × Addr)) (fp:List Addr),SW (X.HQ s H scope (compEnvC scope cl C X.env) fp) ifs tt)
  (he:∀ (s:Shared) (H:Hp) (C:Addr) (cl:List (Str × Addr)) (fp:List Addr),PE (X.HQ s H scope (compEnvC scope cl C X.env) fp) elt te) (hs:∀ x,foldedSetIterable iter X.env x=pure x:=by intro _;rfl) :
  PS X (.Assign [.Name y py] (.ListComp elt [⟨tg,iter,ifs,0⟩] scope pos) Kq) (QS (Tq wi g tt te (own.map (·.2))) (KJ i)):=by
 intro pins s σ H D I h
 rw [exec_Assign_Name_used _ _ _ _ hsw]
 refine wpAny_bind (wpAny_standAt (wpAny_bind ?_))
 show wpAny _ X.A (do let _ <- comprehension (.ListComp elt [⟨tg,iter,ifs,0⟩] scope pos) scope X.env (firstIterPos [⟨tg,iter,ifs,0⟩] pos) (newList []) false (eval iter X.env) (some (assign (.Name y py) X.env))) _ _ s
 have h:Tq wi g tt te (own.map (·.2)) σ H (λx H1=>KJ i x σ H1 D.nx):=h
 refine wpAny_bind (dP (Ls (Qf:=λ_ s'=>SP X pins D .next s') hc hN I hi ok hg ht he hs h λL C s' m H' I' q hn f=>?_) λ_ s' hq=>wpAny_pure (wpAny_pure hq))
 show wpAny _ _ (assign (.Name y py) X.env (.ref L)) _ _ _
 refine wpAny_assign_Name (Gm (v:=V.ref L) I' hN hy (.inl hyl) rfl (λs2 I2 ⟨a,sb,ha⟩=>?_) (.inr hyl))
 obtain ⟨f0,f1,f2,f3,f4,f5⟩:=f
 have haC:C≠a:=by
  rcases ha with z | z
  ·rw [z];exact f1
  ·exact λe=>f4 y a z e.symm
 refine ⟨m,hn.sameBut sb haC,λh3 sb3=>?_⟩
 exact ⟨_,H',I2.turned (t':=s2.toks) (λb o hb e=>(sb3.2 b hb).trans e) f0 f1 f3 f4 f5,q⟩
theorem DJ {elt:Expr} {gs:List Comprehension} {scope:Scope} {pos py:Pos} {y:Str} {l:Nat} {env:Env} (hk:env.scope.kind=.function) (hy:env.scope.names.lookup y=some .local) (hl:(py.line == pos.line)=true)
  (ha:(scope.names.any λ(n,k)=>n == y&&(k == .local || k == .cell))=false):swapsWith (.ListComp elt gs scope pos) (some (.Name y py)) l env=pure true:=by
 have ky:env.kindOf y=some .local:=hy
 have hb:env.blockKind=.function:=by unfold Env.blockKind;rw [hk];rfl
 unfold swapsWith
 simp only [hb,ky,ha,Expr.pos,hl]
 rfl
end
theorem Je {lo:Int} {n:Nat} {g:TG} {tt:TT} {te:TE} {vs:List Nat} {σ:St} {H1:Hp} {D:Addr} {Qd:Hp->Prop} (Pv:Nat->Hp->Prop) (h0:Pv 0 (upd H1 D (.lst [])))
  (hs:∀ i H,i < n->Pv i H->g (.int (lo+i)) (wipe σ vs) H λσ2 H2=>wipe σ2 vs=wipe σ vs/\tt σ2 H2 λb H3 =>
   if b=true then te σ2 H3 λy H4=>∃ acc,H4 D=some (.lst acc)/\acc.length < sizeLine/\Pv (i+1) (upd H4 D (.lst (acc++[y]))) else Pv (i+1) H3) (hd:∀ H,Pv n H->Qd H) :
  ∃ W:Nat->Nat->Hp->Prop,(∃ m,W 0 m (upd H1 D (.lst [])))/\∀ i m H,W i m H ->
   ((Pj lo n).stop i H/\Qd H)∨((Pj lo n).go i H/\∃ Nx:Hp->Prop,(∀ H',Nx H'->∃ m',m' < m/\W (i+1) m' H')/\∀ x H',(Pj lo n).O5 i H x H'->g x (wipe σ vs) H' λσ2 H2=>wipe σ2 vs=wipe σ vs/\tt σ2 H2 λb H3 =>
    if b=true then te σ2 H3 λy H4=>∃ acc,H4 D=some (.lst acc)/\acc.length < sizeLine/\Nx (upd H4 D (.lst (acc++[y]))) else Nx H3):=by
 refine ⟨λi m H=>m=n - i/\i<=n/\Pv i H,⟨n,by simp,U9 _,h0⟩,?_⟩
 rintro i m H ⟨rfl,hi,p⟩
 by_cases hlt:i < n
 ·refine .inr ⟨hlt,Pv (i+1),λH' p'=>⟨n - (i+1),by omega,rfl,hlt,p'⟩,λx H' y=>?_⟩
  obtain ⟨e,y⟩:=y
  subst e y
  exact hs i _ hlt p
 ·have e:i=n:=by omega
  subst e
  exact .inl ⟨UI _,hd H p⟩
theorem tO {K:Uy} {a:Addr} {xs:List V} {g:TG} {tt:TT} {te:TE} {vs:List Nat} {σ:St} {H1:Hp} {D:Addr} {Qd:Hp->Prop} (Pv:Nat->Hp->Prop) (h0:Pv 0 (upd H1 D (.lst []))) (hl:∀ i H,i<=xs.length->Pv i H->bf K H a xs)
  (hs:∀ i x H,xs[i]?=some x->Pv i H->g x (wipe σ vs) H λσ2 H2=>wipe σ2 vs=wipe σ vs/\tt σ2 H2 λb H3 =>
   if b=true then te σ2 H3 λy H4=>∃ acc,H4 D=some (.lst acc)/\acc.length < sizeLine/\Pv (i+1) (upd H4 D (.lst (acc++[y]))) else Pv (i+1) H3) (hd:∀ H,Pv xs.length H->Qd H) :
  ∃ W:Nat->Nat->Hp->Prop,(∃ m,W 0 m (upd H1 D (.lst [])))/\∀ i m H,W i m H ->
   ((P5 K a).stop i H/\Qd H)∨((P5 K a).go i H/\∃ Nx:Hp->Prop,(∀ H',Nx H'->∃ m',m' < m/\W (i+1) m' H')/\∀ x H',(P5 K a).O5 i H x H'->g x (wipe σ vs) H' λσ2 H2=>wipe σ2 vs=wipe σ vs/\tt σ2 H2 λb H3 =>
    if b=true then te σ2 H3 λy H4=>∃ acc,H4 D=some (.lst acc)/\acc.length < sizeLine/\Nx (upd H4 D (.lst (acc++[y]))) else Nx H3):=by
 refine ⟨λi m H=>m=xs.length - i/\i<=xs.length/\Pv i H,⟨xs.length,by simp,U9 _,h0⟩,?_⟩
 rintro i m H ⟨rfl,hi,p⟩
 have q:=hl i H hi p
 by_cases hlt:i < xs.length
 ·refine .inr ⟨⟨xs,xs[i],q,by simp [hlt]⟩,Pv (i+1),λH' p'=>⟨xs.length - (i+1),by omega,rfl,hlt,p'⟩,λx H' y=>?_⟩
  obtain ⟨e,y⟩:=y
  subst e
  exact hs i x _ (y xs q) p
 ·have e:i=xs.length:=by omega
  subst e
  exact .inl ⟨⟨xs,q,UI _⟩,hd H p⟩
theorem Ky {K:Uy} {a:Addr} {xs:List V} {g:TG} {tt:TT} {te:TE} {vs:List Nat} {σ:St} {H1:Hp} {D:Addr} {Qd:Hp->Prop} (Pv:Nat->Hp->Prop) (h0:Pv 0 (upd H1 D (.lst []))) (hl:∀ i H,i<=xs.length->Pv i H->gc K H a xs)
  (hs:∀ i x H,xs[i]?=some x->Pv i H->g x (wipe σ vs) H λσ2 H2=>wipe σ2 vs=wipe σ vs/\tt σ2 H2 λb H3 =>
   if b=true then te σ2 H3 λy H4=>∃ acc,H4 D=some (.lst acc)/\acc.length < sizeLine/\Pv (i+1) (upd H4 D (.lst (acc++[y]))) else Pv (i+1) H3) (hd:∀ H,Pv xs.length H->Qd H) :
  ∃ W:Nat->Nat->Hp->Prop,(∃ m,W 0 m (upd H1 D (.lst [])))/\∀ i m H,W i m H ->
   ((RR K a).stop i H/\Qd H)∨((RR K a).go i H/\∃ Nx:Hp->Prop,(∀ H',Nx H'->∃ m',m' < m/\W (i+1) m' H')/\∀ x H',(RR K a).O5 i H x H'->g x (wipe σ vs) H' λσ2 H2=>wipe σ2 vs=wipe σ vs/\tt σ2 H2 λb H3 =>
    if b=true then te σ2 H3 λy H4=>∃ acc,H4 D=some (.lst acc)/\acc.length < sizeLine/\Nx (upd H4 D (.lst (acc++[y]))) else Nx H3):=by
 refine ⟨λi m H=>m=xs.length - i/\i<=xs.length/\Pv i H,⟨xs.length,by simp,U9 _,h0⟩,?_⟩
 rintro i m H ⟨rfl,hi,p⟩
 have q:=hl i H hi p
 by_cases hlt:i < xs.length
 ·refine .inr ⟨⟨xs,xs[i],q,by simp [hlt]⟩,Pv (i+1),λH' p'=>⟨xs.length - (i+1),by omega,rfl,hlt,p'⟩,λx H' y=>?_⟩
  obtain ⟨e,y⟩:=y
  subst e
  exact hs i x _ (y xs q) p
 ·have e:i=xs.length:=by omega
  subst e
  exact .inl ⟨⟨xs,q,UI _⟩,hd H p⟩
def w8 (N:List Str) (sc scope:Scope) (own:List (Str × Nat)):Bool :=
 (match scope.kind with | .function=>true | _=>false)&&(scope.names.all λy=>decide (scope.names.lookup y.1=some y.2))&&(own.all λp=>decide (N[p.2]?=some p.1)) &&
  (scope.names.all λy=>match y.2 with
   | .free=>(match sc.names.lookup y.1 with | some .cell=>true | some .free=>true | _=>false)
   | .local=>decide (y.1∈own.map (·.1)) || decide (y.1 ∉ N)
   | .cell=>decide (y.1∈own.map (·.1)) || decide (y.1 ∉ N)
   | _=>true)
theorem fc {N:List Str} {sc scope:Scope} {own:List (Str × Nat)} (h:w8 N sc scope own=true):Jx N sc scope own:=by
 unfold w8 at h
 simp only [UN,WG,decide_eq_true_eq] at h
 obtain ⟨⟨⟨h1,h2⟩,h3⟩,h4⟩:=h
 refine ⟨?_,h2,h3,λy hy e=>?_,λy hy e=>?_⟩
 ·split at h1
  ·assumption
  ·cases h1
 ·have q:=h4 y hy
  simp only [e] at q
  split at q<;>first | exact .inl (by assumption) | exact .inr (by assumption) | cases q
 ·have q:=h4 y hy
  rcases e with e | e<;>(simp only [e,Wc,decide_eq_true_eq] at q;exact q)
end L2
namespace L2
open PySem PySem.Spec PyProof.Rows
section
variable {κ:Type} [DecidableEq κ]
def k6 (kvs:List (κ × V)) (k:κ):Option V:=(kvs.find? λkv=>decide (kv.1=k)).map (·.2)
def putK (kvs:List (κ × V)) (k:κ) (v:V):List (κ × V) :=
 if (kvs.any λkv=>decide (kv.1=k))=true then kvs.map (λkv=>if kv.1=k then (kv.1,v) else kv) else kvs++[(k,v)]
def tS (kvs:List (κ × V)) (k:κ):List (κ × V):=kvs.filter λkv=>decide (kv.1≠k)
theorem En {p:κ × V} {r:List (κ × V)} {k:κ} (e:p.1=k):k6 (p::r) k=some p.2:=by simp [k6,Vg,e]
theorem Ez {p:κ × V} {r:List (κ × V)} {k:κ} (e:¬ p.1=k):k6 (p::r) k=k6 r k:=by simp [k6,Vg,e]
theorem xQ (k:κ):∀ kvs:List (κ × V),(kvs.any λkv=>decide (kv.1=k))=(k6 kvs k).isSome
 | []=>rfl
 | p::r=>by
  rw [Vv]
  by_cases e:p.1=k
  ·simp only [En e,decide_eq_true e,Bool.true_or,Option.isSome_some]
  ·rw [Ez e,decide_eq_false e,Bool.false_or];exact xQ k r
theorem yY (kvs:List (κ × V)) (k:κ) (v:V):(putK kvs k v).length<=kvs.length+1:=by
 unfold putK
 split
 ·rw [UA];omega
 ·rw [Vk,U0,List.length_nil];omega
theorem Og {kvs:List (κ × V)} {k:κ} (v:V) (h:k6 kvs k=none):putK kvs k v=kvs++[(k,v)]:=by
 unfold putK
 rw [xQ,h]
 exact if_neg (by decide)
theorem vv.vt {o:Option V} {u:Option Value} (r:vv o u):o.isSome=u.isSome:=by
 cases o with
 | none=>cases u with
  | none=>rfl
  | some _=>exact (show False from r).elim
 | some _=>cases u with
  | none=>exact (show False from r).elim
  | some _=>rfl
theorem vv.getD {o:Option V} {u:Option Value} {d:V} {d':Value} (r:vv o u) (rd:RelV d d'):RelV (o.getD d) (u.getD d'):=by
 cases o with
 | none=>cases u with
  | none=>exact rd
  | some _=>exact (show False from r).elim
 | some _=>cases u with
  | none=>exact (show False from r).elim
  | some _=>exact r
theorem KV.val {kvs:List (κ × V)} {vs:List (κ × Value)} (r:KV kvs vs) (k:κ):vv (k6 kvs k) (valueAt vs k):=by
 unfold KV at r
 induction r with
 | nil=>exact True.intro
 | @cons p q ps qs h t ih =>
  obtain ⟨h1,h2⟩:=h
  by_cases e:p.1=k
  ·have e':q.1=k:=h1.symm.trans e
   have b:valueAt (q::qs) k=some q.2:=by simp [valueAt,Vg,e']
   rw [En e,b];exact h2
  ·have e':¬ q.1=k:=λz=>e (h1.trans z)
   have b:valueAt (q::qs) k=valueAt qs k:=by simp [valueAt,Vg,e']
   rw [Ez e,b];exact ih
theorem KV.any {kvs:List (κ × V)} {vs:List (κ × Value)} (r:KV kvs vs) (k:κ):(kvs.any λkv=>decide (kv.1=k))=vs.any λkv=>decide (kv.1=k):=by
 unfold KV at r
 induction r with
 | nil=>rfl
 | cons h t ih=>rw [Vv,Vv,ih,h.1]
theorem KV.Qu {kvs:List (κ × V)} {vs:List (κ × Value)} (r:KV kvs vs) (k:κ) {y:V} {u:Value} (ry:RelV y u) :
  KV (kvs.map λkv=>if kv.1=k then (kv.1,y) else kv) (vs.map λkv=>if kv.1=k then (kv.1,u) else kv):=by
 unfold KV at r ⊢
 induction r with
 | nil=>exact .nil
 | @cons p q ps qs h t ih =>
  rw [UT,UT]
  refine .cons ?_ ih
  obtain ⟨h1,h2⟩:=h
  by_cases e:p.1=k
  ·rw [if_pos e,if_pos (h1.symm.trans e)];exact ⟨h1,ry⟩
  ·rw [if_neg e,if_neg (λz=>e (h1.trans z))];exact ⟨h1,h2⟩
theorem KV.put {kvs:List (κ × V)} {vs:List (κ × Value)} (r:KV kvs vs) (k:κ) {y:V} {u:Value} (ry:RelV y u):KV (putK kvs k y) (stored vs k u):=by
 unfold putK stored
 rw [r.any k]
 by_cases e:(vs.any λkv=>decide (kv.1=k))=true
 ·rw [if_pos e,if_pos e];exact r.Qu k ry
 ·rw [if_neg e,if_neg e];exact Paired.snoc r ⟨rfl,ry⟩
theorem KV.drop {kvs:List (κ × V)} {vs:List (κ × Value)} (r:KV kvs vs) (k:κ):KV (tS kvs k) (without vs k):=by
 unfold KV at r ⊢
 unfold tS without
 induction r with
 | nil=>exact .nil
 | @cons p q ps qs h t ih =>
  obtain ⟨h1,h2⟩:=h
  rw [UW,UW]
  by_cases e:p.1=k
  ·have a:¬ decide (p.1≠k)=true:=by simp [e]
   have b:¬ decide (q.1≠k)=true:=by simp [h1.symm.trans e]
   rw [if_neg a,if_neg b];exact ih
  ·have e':¬ q.1=k:=λz=>e (h1.trans z)
   have a:decide (p.1≠k)=true:=by simp [e]
   have b:decide (q.1≠k)=true:=by simp [e']
   rw [if_pos a,if_pos b];exact .cons ⟨h1,h2⟩ ih
theorem KV.keys {kvs:List (κ × V)} {vs:List (κ × Value)} (r:KV kvs vs):kvs.map (·.1)=vs.map (·.1):=by
 unfold KV at r
 induction r with
 | nil=>rfl
 | cons h t ih=>rw [UT,UT,ih,h.1]
theorem KV.length {kvs:List (κ × V)} {vs:List (κ × Value)} (r:KV kvs vs):kvs.length=vs.length:=Paired.length r
theorem NO (kvs:List (κ × V)) (k:κ):(tS kvs k).length<=kvs.length:=VA _ _
end
theorem xk {P:Program} {w:World} {k:Key} {u:Value} (r:RelV (kV k) u):(aZ P w).is k u=true:=by
 cases k with
 | inl i=>obtain ⟨t,e⟩:=(show ∃ t,u=Value.int i t from r);subst e;exact CV P w i t
 | inr x=>obtain ⟨t,e⟩:=(show ∃ t,u=Value.str x t from r);subst e;exact Ji P w x t
theorem F9 {P:Program} {w:World}:∀ {ks:List Key} {us:List Value},Vals (ks.map kV) us->ItemsAre (aZ P w) ks us
 | [],_,r=>by rw [Wb] at r;cases r;exact .nil
 | k::ks,_,r=>by
  rw [UT] at r
  cases r with
  | cons h t=>exact .cons (xk h) (F9 t)
abbrev KT (H:Hp):List (List Key × V)->List (List Key × Addr × Value)->Prop:=Paired λp q=>p.1=q.1/\H q.2.1=some (.tup (p.1.map kV))/\RelV p.2 q.2.2
theorem KT.val {H:Hp} {kvs:List (List Key × V)} {xs:List (List Key × Addr × Value)} (r:KT H kvs xs) (k:List Key):vv (k6 kvs k) ((atKey xs k).map (·.2)):=by
 induction r with
 | nil=>exact True.intro
 | @cons p q ps qs h t ih =>
  obtain ⟨h1,_,h2⟩:=h
  by_cases e:p.1=k
  ·have e':q.1=k:=h1.symm.trans e
   have b:atKey (q::qs) k=some q.2:=by simp [atKey,Vg,e']
   rw [En e,b];exact h2
  ·have e':¬ q.1=k:=λz=>e (h1.trans z)
   have b:atKey (q::qs) k=atKey qs k:=by simp [atKey,Vg,e']
   rw [Ez e,b];exact ih
theorem KT.Qu {H:Hp} {kvs:List (List Key × V)} {xs:List (List Key × Addr × Value)} (r:KT H kvs xs) (k:List Key) {y:V} {u:Value} (ry:RelV y u) :
  KT H (kvs.map λkv=>if kv.1=k then (kv.1,y) else kv) (xs.map (putAt k u)):=by
 induction r with
 | nil=>exact .nil
 | @cons p q ps qs h t ih =>
  rw [UT,UT]
  refine .cons ?_ ih
  obtain ⟨h1,h2,h3⟩:=h
  unfold putAt
  by_cases e:p.1=k
  ·rw [if_pos e,if_pos (h1.symm.trans e)];exact ⟨h1,h2,ry⟩
  ·rw [if_neg e,if_neg (λz=>e (h1.trans z))];exact ⟨h1,h2,h3⟩
theorem KT.put {H:Hp} {kvs:List (List Key × V)} {xs:List (List Key × Addr × Value)} (r:KT H kvs xs) (k:List Key) {b:Addr} {y:V} {u:Value} (hb:H b=some (.tup (k.map kV))) (ry:RelV y u) :
  KT H (putK kvs k y) (storedH xs k b u):=by
 have e:(kvs.any λkv=>decide (kv.1=k))=(atKey xs k).isSome:=by
  rw [xQ,(r.val k).vt,Option.isSome_map]
 unfold putK storedH
 rw [e]
 by_cases q:(atKey xs k).isSome=true
 ·rw [if_pos q,if_pos q];exact r.Qu k ry
 ·rw [if_neg q,if_neg q];exact Paired.snoc r ⟨rfl,hb,ry⟩
theorem KT.keeps {H H':Hp} {kvs:List (List Key × V)} {xs:List (List Key × Addr × Value)} (r:KT H kvs xs) (ht:∀ b ys,H b=some (.tup ys)->H' b=some (.tup ys)):KT H' kvs xs :=
 Paired.J8 r λ_ _ z=>⟨z.1,ht _ _ z.2.1,z.2.2⟩
section
variable {P:Program} {w:World} {H:Hp} {h:Heap} {a:Addr}
theorem Qb {u:HO} (ok:xE P w H h) (e:Rd H a u):iH P w H h a u:=e.ok ok
theorem Bl {kvs:List (Key × V)} (ok:xE P w H h) (e:Rd H a (.dK kvs)):kvs.length<=sizeLine/\(a == sysModules)=false/\∃ vs,KV kvs vs/\h.DictOf (aZ P w) a vs :=
 show iH P w H h a (.dK kvs) from Qb ok e
theorem KQ {kvs:List (Key × V)} (ok:xE P w H h) (e:H a=some (.dK kvs)):kvs.length<=sizeLine/\(a == sysModules)=false/\∃ vs,KV kvs vs/\h.DictOf (aZ P w) a vs:=Bl ok (.inl e)
theorem Av {ks:List Key} (ok:xE P w H h) (e:H a=some (.tup (ks.map kV))):(tupleKind (aZ P w)).is h ks a:=by
 obtain ⟨_,its,r,o,h1,h2,n,h3⟩:=(show iH P w H h a (.tup (ks.map kV)) from ok a _ e)
 exact ⟨o,its.toArray,n,h1,h2,h3,by simpa using F9 r⟩
theorem Cs {kvs:List (List Key × V)} (ok:xE P w H h) (e:Rd H a (.dT kvs)):kvs.length<=sizeLine/\(a == sysModules)=false /\
  ∃ xs,KT H kvs xs/\h.DictOfH (tupleKind (aZ P w)) a xs:=by
 obtain ⟨z,y,xs,r,o,es,ep,h1,h2,h3,h4,h5⟩:=(show iH P w H h a (.dT kvs) from Qb ok e)
 refine ⟨z,y,xs,r,o,es,ep,h1,h2,h3,h4,λx hx=>?_,h5⟩
 have all:∀ {l:List (List Key × V)} {m:List (List Key × Addr × Value)},KT H l m->∀ x∈m,(tupleKind (aZ P w)).is h x.1 x.2.1:=by
  intro l m q
  induction q with
  | nil=>intro x hx;exact nomatch hx
  | @cons p q ps qs hq t ih =>
   intro x hx
   rcases UL.mp hx with e | hx
   ·subst e
    exact Av ok (by rw [<- hq.1];exact hq.2.1)
   ·exact ih x hx
 exact all r x hx
theorem SO {kvs:List (List Key × V)} (ok:xE P w H h) (e:H a=some (.dT kvs)):kvs.length<=sizeLine/\(a == sysModules)=false /\
  ∃ xs,KT H kvs xs/\h.DictOfH (tupleKind (aZ P w)) a xs:=Cs ok (.inl e)
end
def mw (H:Hp) (a:Addr) (y:V) (r:Option V):Prop :=
 (∃ kvs k,Rd H a (.dK kvs)/\y=kV k/\r=k6 kvs k)∨∃ kvs k b,Rd H a (.dT kvs)/\y=.ref b/\H b=some (.tup (k.map kV))/\r=k6 kvs k
def Hz (H:Hp) (a:Addr) (y v:V) (H':Hp):Prop :=
 (∃ kvs k,H a=some (.dK kvs)/\y=kV k/\kvs.length < sizeLine/\H'=upd H a (.dK (putK kvs k v))) ∨
 ∃ kvs k b,H a=some (.dT kvs)/\y=.ref b/\H b=some (.tup (k.map kV))/\kvs.length < sizeLine/\H'=upd H a (.dT (putK kvs k v))
theorem mw.k {H:Hp} {a:Addr} {kvs:List (Key × V)} {k:Key} (e:H a=some (.dK kvs)):mw H a (kV k) (k6 kvs k):=.inl ⟨kvs,k,.inl e,rfl,rfl⟩
theorem Hz.k {H:Hp} {a:Addr} {kvs:List (Key × V)} {k:Key} {v:V} (e:H a=some (.dK kvs)) (hl:kvs.length < sizeLine):Hz H a (kV k) v (upd H a (.dK (putK kvs k v))):=.inl ⟨kvs,k,e,rfl,hl,rfl⟩
section
variable {X:Cx} {pins:List (Addr × Obj)} {σ:St} {H:Hp} {s:Shared} {a:Addr} {y v:V} {u r:Value} {o:Option V} {A:Around} {E:Value->Shared->Prop}
theorem Inv.big (I:Inv X pins σ H s):sysModules < s.heap.objs.size:=by
 have h:mainGlobals < s.heap.objs.size:=(I.mod.glob.keeps I.bk).lt
 exact Nat.lt_trans (by decide) h
theorem F7 {Q:Value->Shared->Prop} (hu:A.units+1 < cLine) (I:Inv X pins σ H s) (g:mw H a y (some v)) (ry:RelV y u) (h:∀ w' s',Inv X pins σ H s'->RelV v w'->Q w' s') :
  wpAny (model X.prog X.w) A (getItem (.ref a) u) Q E s:=by
 rcases g with ⟨kvs,k,e,ey,l⟩ | ⟨kvs,k,b,e,ey,eb,l⟩
 ·subst ey
  obtain ⟨z,hd,vs,rel,dd⟩:=Bl I.dz e
  obtain ⟨w',hw,rw'⟩:=vv.some_of (v:=v) (o:=valueAt vs k) (by rw [l];exact rel.val k)
  exact wpAny_getItem_of (xk ry) dd.mapOf hw (h w' _ (I.tok _) rw')
 ·subst ey
  cases (show u=Value.ref b from ry)
  obtain ⟨z,hd,xs,rel,dd⟩:=Cs I.dz e
  obtain ⟨w',hw,rw'⟩:=vv.some_of (v:=v) (o:=(atKey xs k).map (·.2)) (by rw [l];exact rel.val k)
  obtain ⟨p,hp,hp2⟩:=Option.map_eq_some_iff.mp hw
  refine wpAny_getItem_heap (tupleKind_room_in1 hu) (Av I.dz eb) dd hp ?_
  rw [hp2]
  exact h w' _ (I.tok _) rw'
theorem T9 {Q:Value->Shared->Prop} (hu:A.units+1 < cLine) (I:Inv X pins σ H s) (g:mw H a y o) (ry:RelV y u) (h:∀ s',Inv X pins σ H s'->Q (.bool o.isSome) s') :
  wpAny (model X.prog X.w) A (compareOp .In u (.ref a)) Q E s:=by
 rcases g with ⟨kvs,k,e,ey,l⟩ | ⟨kvs,k,b,e,ey,eb,l⟩
 ·subst ey
  obtain ⟨z,hd,vs,rel,dd⟩:=Bl I.dz e
  refine wpAny_in_of (xk ry) hd dd.mapOf ?_
  rw [<- (rel.val k).vt,<- l]
  exact h _ (I.tok _)
 ·subst ey
  cases (show u=Value.ref b from ry)
  obtain ⟨z,hd,xs,rel,dd⟩:=Cs I.dz e
  refine wpAny_in_heap (tupleKind_room_in1 hu) (Av I.dz eb) hd dd ?_
  have q:=(rel.val k).vt
  rw [Option.isSome_map] at q
  rw [<- q,<- l]
  exact h _ (I.tok _)
theorem Pc {Q:Value->Shared->Prop} (hu:A.units+1 < cLine) (I:Inv X pins σ H s) (g:mw H a y o) (ry:RelV y u) (h:∀ s',Inv X pins σ H s'->Q (.bool (!o.isSome)) s') :
  wpAny (model X.prog X.w) A (compareOp .NotIn u (.ref a)) Q E s:=by
 rcases g with ⟨kvs,k,e,ey,l⟩ | ⟨kvs,k,b,e,ey,eb,l⟩
 ·subst ey
  obtain ⟨z,hd,vs,rel,dd⟩:=Bl I.dz e
  refine wpAny_notIn_of (xk ry) hd dd.mapOf ?_
  rw [<- (rel.val k).vt,<- l]
  exact h _ (I.tok _)
 ·subst ey
  cases (show u=Value.ref b from ry)
  obtain ⟨z,hd,xs,rel,dd⟩:=Cs I.dz e
  refine wpAny_notIn_heap (tupleKind_room_in1 hu) (Av I.dz eb) hd dd ?_
  have q:=(rel.val k).vt
  rw [Option.isSome_map] at q
  rw [<- q,<- l]
  exact h _ (I.tok _)
theorem Hs {h':Heap} {t':Nat} {ob:HO} (I:Inv X pins σ H s) (mu:Qc (H a)) (hs:Heap.SameBut a s.heap h') (he:∃ q,h'.get? a=some q) (new:iH X.prog X.w (upd H a ob) h' a ob) :
  Inv X pins σ (upd H a ob) { s with heap:=h',toks:=t' } :=
 I.write (x:=a) (e:=a) mu (.inl rfl) (λb q hb z=>(hs.2 b hb).trans z) he new
theorem M9 {P:Program} {w:World} {H':Hp} {h':Heap} {kvs:List (Key × V)} {vs:List (Key × Value)} (z:kvs.length<=sizeLine) (hd:(a == sysModules)=false) (rel:KV kvs vs) (dd:h'.DictOf (aZ P w) a vs) :
  iH P w H' h' a (.dK kvs):=⟨z,hd,vs,rel,dd⟩
theorem FY {H':Hp} {Q:Unit->Shared->Prop} (hu:A.units+1 < cLine) (I:Inv X pins σ H s) (g:Hz H a y v H') (ry:RelV y u) (rv:RelV v r) (h:∀ s',Inv X pins σ H' s'->Q () s') :
  wpAny (model X.prog X.w) A (setItem (.ref a) u r) Q E s:=by
 rcases g with ⟨kvs,k,e,ey,l,eH⟩ | ⟨kvs,k,b,e,ey,eb,l,eH⟩
 ·subst ey eH
  obtain ⟨z,hd,vs,rel,dd⟩:=KQ I.dz e
  have hz:vs.length<=sizeLine:=by rw [<- rel.length];exact z
  have hl:(putK kvs k v).length<=sizeLine:=by have:=yY kvs k v;omega
  refine wpAny_setItem_pairs (hsz:=hz) (xk ry) dd λh' dd' hs=>h _ ?_
  have he:∃ q,h'.get? a=some q:=let ⟨q,_,_,hq,_⟩:=dd';⟨q,hq⟩
  exact Hs I (by rw [e];exact True.intro) hs he (M9 hl hd (rel.put k rv) dd')
 ·subst ey eH
  cases (show u=Value.ref b from ry)
  obtain ⟨z,hd,xs,rel,dd⟩:=SO I.dz e
  have hz:xs.length<=sizeLine:=by rw [<- Paired.length rel];exact z
  have hl:(putK kvs k v).length<=sizeLine:=by have:=yY kvs k v;omega
  refine wpAny_setItem_heap (hsz:=hz) (tupleKind_room_in1 hu) (Av I.dz eb) dd λh' dd' hs=>h _ ?_
  obtain ⟨q,es,ep,hq,h2,h3,h4,_,h5⟩:=dd'
  refine Hs I (by rw [e];exact True.intro) hs ⟨q,hq⟩ ⟨hl,hd,_,(rel.put k eb rv).keeps λc ys ec=>?_,q,es,ep,hq,h2,h3,h4,h5⟩
  rw [ak (aV ec e (λz=>nomatch z))]
  exact ec
end
section
variable {X:Cx} {pins:List (Addr × Obj)} {σ:St} {H:Hp} {s:Shared} {a:Addr} {kvs:List (Key × V)} {k:Key} {u:Value} {A:Around} {E:Value->Shared->Prop}
theorem P6 {v:V} {more:List Value} {Q:Value->Shared->Prop} (I:Inv X pins σ H s) (e:H a=some (.dK kvs)) (ry:RelV (kV k) u) (l:k6 kvs k=some v) (hm:more=[]∨∃ x,more=[x])
  (h:∀ w' s',Inv X pins σ (upd H a (.dK (tS kvs k))) s'->RelV v w'->Q w' s'):wpAny (model X.prog X.w) A (call (.builtin "dict.pop") (.ref a::u::more)) Q E s:=by
 obtain ⟨z,hd,vs,rel,dd⟩:=KQ I.dz e
 obtain ⟨w',hw,rw'⟩:=vv.some_of (v:=v) (o:=valueAt vs k) (by rw [<- l];exact rel.val k)
 have hp:(keyPart u).isSome=true:=by
  cases k with
  | inl i=>obtain ⟨t,q⟩:=(show ∃ t,u=Value.int i t from ry);subst q;rfl
  | inr x=>obtain ⟨t,q⟩:=(show ∃ t,u=Value.str x t from ry);subst q;rfl
 have ha:argsOk "dict.pop" ⟨.ref a::u::more,[]⟩:=by
  rcases hm with q | ⟨x,q⟩
  ·subst q;exact PySem.F.args_dict_pop_2 _ _
  ·subst q;exact PySem.F.args_dict_pop_3 _ _ _
 refine call_meetsIn WT dd.typeIs PySem.F.entry_dict_pop ha (meets_dict_pop_there (aZ X.prog X.w) a (xk ry) more hm hp)
  ⟨vs,w',dd,by rw [<- rel.length];exact z,hw,λh' dd' hs=>h w' _ ?_ rw'⟩
 have he:∃ q,h'.get? a=some q:=let ⟨q,_,_,hq,_⟩:=dd';⟨q,hq⟩
 exact Hs I (by rw [e];exact True.intro) hs he (M9 (US (NO kvs k) z) hd (rel.drop k) dd')
theorem QU {r:Value} {Q:Value->Shared->Prop} (I:Inv X pins σ H s) (e:H a=some (.dK kvs)) (ry:RelV (kV k) u) (l:k6 kvs k=none) (h:∀ s',Inv X pins σ H s'->Q r s') :
  wpAny (model X.prog X.w) A (call (.builtin "dict.pop") [.ref a,u,r]) Q E s:=by
 obtain ⟨z,hd,vs,rel,dd⟩:=KQ I.dz e
 have hn:valueAt vs k=none:=vv.none_of (by rw [<- l];exact rel.val k)
 have hp:(keyPart u).isSome=true:=by
  cases k with
  | inl i=>obtain ⟨t,q⟩:=(show ∃ t,u=Value.int i t from ry);subst q;rfl
  | inr x=>obtain ⟨t,q⟩:=(show ∃ t,u=Value.str x t from ry);subst q;rfl
 exact call_meetsIn WT dd.typeIs PySem.F.entry_dict_pop (PySem.F.args_dict_pop_3 _ _ _) (meets_dict_pop_default (aZ X.prog X.w) a (xk ry) hd hp r) ⟨vs,dd,hn,h _ (I.tok _)⟩
theorem Sg {Q:Value->Shared->Prop} (I:Inv X pins σ H s) (e:Rd H a (.dK kvs)) (h:∀ t s',Inv X pins σ H s'->Q (.int kvs.length t) s'):wpAny (model X.prog X.w) A (call (.builtin "len") [.ref a]) Q E s:=by
 obtain ⟨z,hd,vs,rel,dd⟩:=Bl I.dz e
 refine call_len_dict hd dd (by rw [<- rel.length];rw [sizeLine_eq] at z;omega) ?_
 rw [<- rel.length]
 exact h _ _ (I.tok _)
end
def Rg (i:Expr):Prop:=∀ ov iv,subscripted i false ov iv=operate [ov,iv] (getItem ov iv)
theorem KS {prog:Program} {w:World} {A:Around} {E:Value->Shared->Prop} {s:Shared} {env:Env} {value slice:Expr} {pos:Pos} {T id:String} {Q:Value->Shared->Prop}
  (hl:typeLookup (.type T) "__getitem__"=pure (some (.builtin id))) (hs:Rg slice)
  (h:wpAny (model prog w) A (eval value env) (λo s₁=>wpAny (model prog w) A (eval slice env) (λi s₂=>s₂.TypeIs o T/\wpAny (model prog w) A (getItem o i) Q E s₂) E s₁) E s) :
  wpAny (model prog w) A (eval (.Subscript value slice pos) env) Q E s:=by
 refine Subscript_ (wpAny_mono h (λo s₁ h₁=>wpAny_mono h₁ (λi s₂ h₂=>?_) λ_ _ x=>x) λ_ _ x=>x)
 obtain ⟨hT,h₂⟩:=h₂
 unfold subscriptTail
 refine wpAny_bind ?_
 rw [getitemInPython_of_ne hT.not_modules]
 refine wpAny_bind (wpAny_specialOf hT hl ?_)
 have fin:wpAny (model prog w) A (subscripted slice false o i) (λr s₃=>wpAny (model prog w) A (letTemporaryGo value o r >>= λ_=>pure r) Q E s₃) E s₂:=by
  rw [hs o i]
  exact wpAny_operating (wpAny_mono h₂ (λr s₃ h₃=>wpAny_bind (wpAny_letTemporaryGo (wpAny_pure h₃))) λ_ _ x=>x)
 first
  | exact wpAny_pure (wpAny_bind fin)
  | exact wpAny_bind (wpAny_pure (wpAny_bind fin))
  | exact wpAny_bind fin
theorem JN {X:Cx} {pins:List (Addr × Obj)} {σ:St} {H:Hp} {s:Shared} {a:Addr} {y:V} {o:Option V} (I:Inv X pins σ H s) (g:mw H a y o):s.TypeIs (.ref a) "dict":=by
 rcases g with ⟨kvs,k,e,_,_⟩ | ⟨kvs,k,b,e,_,_,_⟩
 ·obtain ⟨_,_,vs,_,dd⟩:=Bl I.dz e
  exact dd.typeIs
 ·obtain ⟨_,_,xs,_,dd⟩:=Cs I.dz e
  exact dd.typeIs
def Sw (td ty:TE):TE:=λσ H Q=>td σ H λx H1=>ty σ H1 λy H2=>∃ a v,x=.ref a/\mw H2 a y (some v)/\Q v H2
def Ua (ty td:TE):TE:=λσ H Q=>ty σ H λy H1=>td σ H1 λx H2=>∃ a o,x=.ref a/\mw H2 a y o/\Q (.bl o.isSome) H2
def Pn (ty td:TE):TE:=λσ H Q=>ty σ H λy H1=>td σ H1 λx H2=>∃ a o,x=.ref a/\mw H2 a y o/\Q (.bl (!o.isSome)) H2
def Sy (td ty tv:TE):TS:=λD σ H=>tv σ H λv H1=>td σ H1 λx H2=>ty σ H2 λy H3=>∃ a H4,x=.ref a/\Hz H3 a y v H4/\D.nx σ H4
def Sk (td ty tv:TE) (rd:V->V->Hp->VK->Prop):TS:=λD σ H=>td σ H λx H1=>ty σ H1 λy H2=>∃ a v,x=.ref a/\mw H2 a y (some v) /\
 tv σ H2 λy2 H3=>rd v y2 H3 λz H4=>∃ H5,Hz H4 a y z H5/\D.nx σ H5
section
variable {X:Cx} {o i e value:Expr} {pos pos' tpos:Pos} {td ty tv:TE}
theorem tP (hu:X.A.units+1 < cLine) (ho:PE X o td) (hi:PE X i ty) (hs:Rg i):PE X (.Subscript o i pos) (Sw td ty):=by
 intro pins s σ H Q I h
 refine KS PySem.F.slot_dict_getitem.lookup hs (dP (ho pins s σ H _ I h) λu s1 ⟨x,H1,I1,rx,q1⟩=>dP (hi pins s1 σ H1 _ I1 q1) λiv s2 ⟨y,H2,I2,ry,a,v,ex,g,q2⟩=>?_)
 subst ex
 obtain rfl:u=Value.ref a:=rx
 exact ⟨JN I2 g,F7 hu I2 g ry λw' s3 I3 rw'=>⟨v,H2,I3,rw',q2⟩⟩
theorem QQ (hu:X.A.units+1 < cLine) (hi:PE X i ty) (ho:PE X o td):PC X .In i o (Ua ty td):=by
 intro pins s σ H Q I h
 refine dP (hi pins s σ H _ I h) λiv s1 ⟨y,H1,I1,ry,q1⟩=>dP (ho pins s1 σ H1 _ I1 q1) λu s2 ⟨x,H2,I2,rx,a,ov,ex,g,q2⟩=>?_
 subst ex
 obtain rfl:u=Value.ref a:=rx
 exact T9 hu I2 g ry λs3 I3=>⟨.bl ov.isSome,H2,I3,rfl,q2⟩
theorem zc (hu:X.A.units+1 < cLine) (hi:PE X i ty) (ho:PE X o td):PC X .NotIn i o (Pn ty td):=by
 intro pins s σ H Q I h
 refine dP (hi pins s σ H _ I h) λiv s1 ⟨y,H1,I1,ry,q1⟩=>dP (ho pins s1 σ H1 _ I1 q1) λu s2 ⟨x,H2,I2,rx,a,ov,ex,g,q2⟩=>?_
 subst ex
 obtain rfl:u=Value.ref a:=rx
 exact Pc hu I2 g ry λs3 I3=>⟨.bl (!ov.isSome),H2,I3,rfl,q2⟩
theorem G8 (hu:X.A.units+1 < cLine) (ho:PE X o td) (hi:PE X i ty) (hv:PE X value tv) (hs:swapsWith value (some (.Subscript o i pos')) pos.line X.env=pure false) :
  PS X (.Assign [.Subscript o i pos'] value pos) (Sy td ty tv):=by
 intro pins s σ H D I h
 refine wpAny_Assign_Subscript (dP (hv pins s σ H _ I h) λr s1 ⟨v,H1,I1,rv,q1⟩=>dP (ho pins s1 σ H1 _ I1 q1) λu s2 ⟨x,H2,I2,rx,q2⟩=>dP (hi pins s2 σ H2 _ I2 q2) λiv s3 ⟨y,H3,I3,ry,a,H4,ex,g,q3⟩=>?_) hs
 subst ex
 obtain rfl:u=Value.ref a:=rx
 exact FY hu I3 g ry rv λs4 I4=>⟨σ,H4,I4,q3⟩
theorem Pa {op:Operator} {rd:V->V->Hp->VK->Prop} (hu:X.A.units+1 < cLine) (ho:PE X o td) (hi:PE X i ty) (hv:PE X value tv) (hop:Ov X op rd)
  (ha:∀ ov iv new,augStore i ov iv new=(do holding [new,ov,iv] (setItem ov iv new);release [new,ov,iv] [];pure .next)):PS X (.AugAssign (.Subscript o i tpos) op value pos) (Sk td ty tv rd):=by
 intro pins s σ H D I h
 refine wpAny_AugAssign_SubscriptAny (dP (ho pins s σ H _ I h) λu s1 ⟨x,H1,I1,rx,q1⟩=>dP (hi pins s1 σ H1 _ I1 q1) λiv s2 ⟨y,H2,I2,ry,a,v,ex,g,q2⟩=>?_) ha
 subst ex
 obtain rfl:u=Value.ref a:=rx
 refine F7 hu I2 g ry λw' s3 I3 rw'=>dP (hv pins s3 σ H2 _ I3 q2) λw2 s4 ⟨y2,H3,I4,ry2,q3⟩=>dP (hop pins s4 σ H3 v y2 w' w2 _ I4 rw' ry2 q3) λw3 s5 ⟨z,H4,I5,rz,H5,g5,q4⟩=>?_
 exact FY hu I5 g5 ry rz λs6 I6=>⟨σ,H5,I6,q4⟩
end
theorem N5 {P:Program} {w:World} {H:Hp} (h:Heap) (hb:sysModules < h.objs.size):iH P w H (h.push { cls:=.type "dict",data:=.dict #[] }) h.objs.size (.dK []) :=
 ⟨U9 _,beq_eq_false_iff_ne.mpr (Ne.symm (U7 hb)),[],.nil,Heap.DictOf.new h⟩
def RE:TE:=λ_ H Q=>∀ p,H p=none->Q (.ref p) (upd H p (.dK []))
section
variable {X:Cx} {pos:Pos}
theorem DV:PE X (.Dict [] [] pos) RE:=λpins s σ H Q I h =>
 wpAny_Dict_empty ⟨.ref s.heap.objs.size,_,I.laid (a:=s.heap.objs.size) (o:=.dK []) (t':=s.toks) (λ_ _ q=>Heap.get?_push_of_some _ q) (UI _) (N5 s.heap I.big),rfl,h _ (I.dz.fresh (UI _))⟩
end
def u5 (kvs more:List (Key × V)):List (Key × V):=more.foldl (λacc kv=>putK acc kv.1 kv.2) kvs
theorem KV.merge:∀ {more:List (Key × V)} {rs:List (Key × Value)} {kvs:List (Key × V)} {vs:List (Key × Value)},KV more rs->KV kvs vs->KV (u5 kvs more) (merged vs rs):=by
 intro more rs kvs vs r
 unfold KV at r
 induction r generalizing kvs vs with
 | nil=>intro q;exact q
 | @cons p q ps qs h t ih =>
  intro r0
  have e:KV (putK kvs p.1 p.2) (stored vs q.1 q.2):=by
   have:=r0.put p.1 h.2
   rw [<- h.1];exact this
  exact ih e
theorem zv:∀ (more kvs:List (Key × V)),(u5 kvs more).length<=kvs.length+more.length
 | [],kvs=>by show kvs.length<=kvs.length+0;omega
 | p::r,kvs=>by
  have h1:=zv r (putK kvs p.1 p.2)
  have h2:=yY kvs p.1 p.2
  show (u5 (putK kvs p.1 p.2) r).length<=_
  rw [U0];omega
structure M1 (X:Cx) (o:Expr) (m:Str) (apos:Pos) (e:Expr) (cpos:Pos):Prop where
 base:attributeBase o m X.env (eval o X.env)=eval o X.env
 O6:((backTo cpos (starEach [e] X.env)).all (λx=>!x.1)&&(backToKw cpos (keywordEach [] X.env)).all (λx=>x.1.isSome)
  && decide (([e]:List Expr).length+([]:List Keyword).length+(if ([]:List Keyword).isEmpty then 0 else 1) < 30))=true
 line:(apos.endLine == cpos.line)=true
 trees:backTo cpos (starEach [e] X.env)=[(false,eval e X.env)]
structure M2 (X:Cx) (o:Expr) (m:Str) (apos:Pos) (e f:Expr) (cpos:Pos):Prop where
 base:attributeBase o m X.env (eval o X.env)=eval o X.env
 O6:((backTo cpos (starEach [e,f] X.env)).all (λx=>!x.1)&&(backToKw cpos (keywordEach [] X.env)).all (λx=>x.1.isSome)
  && decide (([e,f]:List Expr).length+([]:List Keyword).length+(if ([]:List Keyword).isEmpty then 0 else 1) < 30))=true
 line:(apos.endLine == cpos.line)=true
 trees:backTo cpos (starEach [e,f] X.env)=[(false,eval e X.env),(false,eval f X.env)]
def SX (H:Hp) (a:Addr):Prop:=(∃ kvs,Rd H a (.dK kvs))∨∃ kvs,Rd H a (.dT kvs)
theorem GP {X:Cx} {pins:List (Addr × Obj)} {σ:St} {H:Hp} {s:Shared} {a:Addr} (I:Inv X pins σ H s) (d:SX H a) :
  s.TypeIs (.ref a) "dict"/\(∀ b,Value.ref a=.ref b->∃ ob,s.heap.get? b=some ob/\ob.dict=none)/\(a == sysModules)=false:=by
 rcases d with ⟨kvs,e⟩ | ⟨kvs,e⟩
 ·obtain ⟨_,hd,vs,_,dd⟩:=Bl I.dz e
  refine ⟨dd.typeIs,λb q=>?_,hd⟩
  cases q
  obtain ⟨ob,_,_,h1,h2,_⟩:=dd
  exact ⟨ob,h1,h2.2.1⟩
 ·obtain ⟨_,hd,xs,_,dd⟩:=Cs I.dz e
  refine ⟨dd.typeIs,λb q=>?_,hd⟩
  cases q
  obtain ⟨ob,_,_,h1,h2,_⟩:=dd
  exact ⟨ob,h1,h2.2.1⟩
section
variable {X:Cx} {pins:List (Addr × Obj)} {σ:St} {H:Hp} {s:Shared} {a:Addr} {y d:V} {u r:Value} {o:Option V} {A:Around} {E:Value->Shared->Prop}
theorem QT {Q:Value->Shared->Prop} (hu:A.units+1 < cLine) (I:Inv X pins σ H s) (g:mw H a y o) (ry:RelV y u) (h:∀ w' s',Inv X pins σ H s'->RelV (o.getD .dH) w'->Q w' s') :
  wpAny (model X.prog X.w) A (call (.builtin "dict.get") [.ref a,u]) Q E s:=by
 rcases g with ⟨kvs,k,e,ey,l⟩ | ⟨kvs,k,b,e,ey,eb,l⟩
 ·subst ey
  obtain ⟨z,hd,vs,rel,dd⟩:=Bl I.dz e
  refine call_meetsIn WH dd.typeIs WU (PySem.F.args_dict_get_2 _ _) (meets_dict_get (aZ X.prog X.w) a (xk ry) hd) ⟨_,dd.mapOf,h _ _ (I.tok _) ?_⟩
  rw [l]
  exact (rel.val k).getD rfl
 ·subst ey
  cases (show u=Value.ref b from ry)
  obtain ⟨z,hd,xs,rel,dd⟩:=Cs I.dz e
  refine call_meetsIn WH dd.typeIs WU (PySem.F.args_dict_get_2 _ _) (meetsH_dict_get (tupleKind (aZ X.prog X.w)) a b hd) ⟨tupleKind_room_in1 hu,k,xs,Av I.dz eb,dd,h _ _ (I.tok _) ?_⟩
  rw [l]
  exact (rel.val k).getD rfl
theorem Ry {Q:Value->Shared->Prop} (hu:A.units+1 < cLine) (I:Inv X pins σ H s) (g:mw H a y o) (ry:RelV y u) (rd:RelV d r) (h:∀ w' s',Inv X pins σ H s'->RelV (o.getD d) w'->Q w' s') :
  wpAny (model X.prog X.w) A (call (.builtin "dict.get") [.ref a,u,r]) Q E s:=by
 rcases g with ⟨kvs,k,e,ey,l⟩ | ⟨kvs,k,b,e,ey,eb,l⟩
 ·subst ey
  obtain ⟨z,hd,vs,rel,dd⟩:=Bl I.dz e
  refine call_meetsIn WH dd.typeIs WU (PySem.F.args_dict_get_3 _ _ _) (meets_dict_get_default (aZ X.prog X.w) a (xk ry) hd r) ⟨_,dd.mapOf,h _ _ (I.tok _) ?_⟩
  rw [l]
  exact (rel.val k).getD rd
 ·subst ey
  cases (show u=Value.ref b from ry)
  obtain ⟨z,hd,xs,rel,dd⟩:=Cs I.dz e
  refine call_meetsIn WH dd.typeIs WU (PySem.F.args_dict_get_3 _ _ _) (meetsH_dict_get_default (tupleKind (aZ X.prog X.w)) a b hd r) ⟨tupleKind_room_in1 hu,k,xs,Av I.dz eb,dd,h _ _ (I.tok _) ?_⟩
  rw [l]
  exact (rel.val k).getD rd
end
def Rl (td ty:TE):TE:=λσ H Q=>td σ H λx H1=>∃ a,x=.ref a/\SX H1 a/\ty σ H1 λy H2=>∃ o,mw H2 a y o/\Q (o.getD .dH) H2
def Rt (td ty tx:TE):TE:=λσ H Q=>td σ H λx H1=>∃ a,x=.ref a/\SX H1 a/\ty σ H1 λy H2=>tx σ H2 λz H3=>∃ o,mw H3 a y o/\Q (o.getD z) H3
def Rq (td ty:TE):TE:=λσ H Q=>td σ H λx H1=>∃ a,x=.ref a/\SX H1 a/\ty σ H1 λy H2=>∃ kvs k v,H2 a=some (.dK kvs)/\y=kV k/\k6 kvs k=some v/\Q v (upd H2 a (.dK (tS kvs k)))
def Rk (td ty tx:TE):TE:=λσ H Q=>td σ H λx H1=>∃ a,x=.ref a/\SX H1 a/\ty σ H1 λy H2=>tx σ H2 λz H3=>∃ kvs k,H3 a=some (.dK kvs)/\y=kV k /\
 (∀ v,k6 kvs k=some v->Q v (upd H3 a (.dK (tS kvs k))))/\(k6 kvs k=none->Q z H3)
section
variable {X:Cx} {o e f:Expr} {apos cpos:Pos} {td ty tx:TE}
theorem E8 (hu:X.A.units+1 < cLine) (ho:PE X o td) (he:PE X e ty) (m:M1 X o "get" apos e cpos):PE X (.Call (.Attribute o "get" apos) [e] [] cpos) (Rl td ty):=by
 intro pins s σ H Q I h
 refine wpAny_Call_method m.base m.O6 m.line WV WH PySem.F.type_dict_get (dP (ho pins s σ H _ I h) λu s1 ⟨x,H1,I1,rx,a,ex,d,q1⟩=>?_)
 subst ex
 obtain rfl:u=Value.ref a:=rx
 obtain ⟨t1,t2,_⟩:=GP I1 d
 refine ⟨t1,t2,?_⟩
 rw [m.trees]
 refine Calls.callWith_builtin rfl (Calls.evalArgs_plain (Calls.spliced_cons (dP (he pins s1 σ H1 _ I1 q1) λiv s2 ⟨y,H2,I2,ry,ov,g,q2⟩=>Calls.spliced_nil ?_)))
 exact QT hu I2 g ry λw' s3 I3 rw'=>⟨_,H2,I3,rw',q2⟩
theorem Ni (hu:X.A.units+1 < cLine) (ho:PE X o td) (he:PE X e ty) (hf:PE X f tx) (m:M2 X o "get" apos e f cpos):PE X (.Call (.Attribute o "get" apos) [e,f] [] cpos) (Rt td ty tx):=by
 intro pins s σ H Q I h
 refine wpAny_Call_method m.base m.O6 m.line WV WH PySem.F.type_dict_get (dP (ho pins s σ H _ I h) λu s1 ⟨x,H1,I1,rx,a,ex,d,q1⟩=>?_)
 subst ex
 obtain rfl:u=Value.ref a:=rx
 obtain ⟨t1,t2,_⟩:=GP I1 d
 refine ⟨t1,t2,?_⟩
 rw [m.trees]
 refine Calls.callWith_builtin rfl (Calls.evalArgs_plain (Calls.spliced_cons (dP (he pins s1 σ H1 _ I1 q1) λiv s2 ⟨y,H2,I2,ry,q2⟩ =>
  Calls.spliced_cons (dP (hf pins s2 σ H2 _ I2 q2) λfv s3 ⟨z,H3,I3,rz,ov,g,q3⟩=>Calls.spliced_nil ?_))))
 exact Ry hu I3 g ry rz λw' s4 I4 rw'=>⟨_,H3,I4,rw',q3⟩
theorem JQ (ho:PE X o td) (he:PE X e ty) (m:M1 X o "pop" apos e cpos):PE X (.Call (.Attribute o "pop" apos) [e] [] cpos) (Rq td ty):=by
 intro pins s σ H Q I h
 refine wpAny_Call_method m.base m.O6 m.line WV WT PySem.F.type_dict_pop (dP (ho pins s σ H _ I h) λu s1 ⟨x,H1,I1,rx,a,ex,d,q1⟩=>?_)
 subst ex
 obtain rfl:u=Value.ref a:=rx
 obtain ⟨t1,t2,_⟩:=GP I1 d
 refine ⟨t1,t2,?_⟩
 rw [m.trees]
 refine Calls.callWith_builtin rfl (Calls.evalArgs_plain (Calls.spliced_cons (dP (he pins s1 σ H1 _ I1 q1) λiv s2 ⟨y,H2,I2,ry,kvs,k,v,ea,ey,l,q2⟩=>Calls.spliced_nil ?_)))
 subst ey
 exact P6 I2 ea ry l (.inl rfl) λw' s3 I3 rw'=>⟨v,_,I3,rw',q2⟩
theorem Nc (ho:PE X o td) (he:PE X e ty) (hf:PE X f tx) (m:M2 X o "pop" apos e f cpos):PE X (.Call (.Attribute o "pop" apos) [e,f] [] cpos) (Rk td ty tx):=by
 intro pins s σ H Q I h
 refine wpAny_Call_method m.base m.O6 m.line WV WT PySem.F.type_dict_pop (dP (ho pins s σ H _ I h) λu s1 ⟨x,H1,I1,rx,a,ex,d,q1⟩=>?_)
 subst ex
 obtain rfl:u=Value.ref a:=rx
 obtain ⟨t1,t2,_⟩:=GP I1 d
 refine ⟨t1,t2,?_⟩
 rw [m.trees]
 refine Calls.callWith_builtin rfl (Calls.evalArgs_plain (Calls.spliced_cons (dP (he pins s1 σ H1 _ I1 q1) λiv s2 ⟨y,H2,I2,ry,q2⟩ =>
  Calls.spliced_cons (dP (hf pins s2 σ H2 _ I2 q2) λfv s3 ⟨z,H3,I3,rz,kvs,k,ea,ey,q3,q4⟩=>Calls.spliced_nil ?_))))
 subst ey
 cases l:k6 kvs k with
 | some v=>exact P6 I3 ea ry l (.inr ⟨fv,rfl⟩) λw' s4 I4 rw'=>⟨v,_,I4,rw',q3 v l⟩
 | none=>exact QU I3 ea ry l λs4 I4=>⟨z,H3,I4,rz,q4 l⟩
end
end L2
namespace L2
open PySem PySem.Spec PyProof.Rows
theorem Fb:typeLookup (.type "list") "keys"=pure none:=am_miss_of_fast (by first | decide +kernel | rfl)
theorem IQ:entryFor table "dict.update.loop"=some Builtin.«dict.update.loop»:=entryFor_of_tree (by kernel_rfl)
theorem yF:plainId "dict.update.loop"=true:=by decide +kernel
section
variable {prog:Program} {w:World} {A:Around} {E:Value->Shared->Prop}
theorem ML {s:Shared} {a:Addr} {o:Obj} {xs:Array Value} {k:Nat} {Q:Option Value->Shared->Prop} (hx:s.heap.get? a=some o) (hc:o.cls=.type "list") (hdat:o.data=.seq xs k) (hd:o.dict=none) (hA:A.handled=none)
  (h:∀ h' tk,(∀ b ob,s.heap.get? b=some ob->h'.get? b=some ob)->Q none { s with heap:=h',toks:=tk }):wpAny (model prog w) A (getAttr? (.ref a) "keys") Q E s:=by
 obtain ⟨c,dct,dat,sl⟩:=o
 simp only at hc hdat hd
 subst hc hdat hd
 obtain ⟨hp,g,d,tk,os⟩:=s
 have hT:∀ tk',(⟨hp,g,d,tk',os⟩:Shared).TypeIs (.ref a) "list":=λ_=>⟨_,hx,rfl⟩
 have hmiss:=Fb
 have hname:(["__module__","__name__","__qualname__","__doc__","__annotations__"]:List Str).contains "keys"=false:=by decide +kernel
 have hsz:("keys":Str).length+100<=sizeLine:=by first | size_fits | decide +kernel
 have f1:=sub_AttributeError
 have f3:=WZ.lookup
 have f4:=WZ.bind (.ref a)
 have f5:=am_list_getattr_none
 unfold getAttr? getAttrBy? getAttrBy
 repeat (any_goals (first | assumption | exact hT _ | ((with_reducible show wpAny _ _ (call (Value.builtin "list.__getattribute__") _ _) _ _ _);refine call_meets WZ (hT _) am_entry_list_getattribute (PySem.F.args_list_getattribute_2 _ _) (meets_getattribute_miss_list a xs k sl "keys" _ hmiss hname hsz) ⟨hx,hA,λh' tk' e hx'=>?_⟩) | wp_step))
 obtain ⟨t',u',he⟩:=hx'.there
 show wpAny _ _ (getattributeRaised _ _ _ _ _ _ _) _ _ _
 unfold getattributeRaised
 repeat (any_goals (first | assumption | wp_step))
 all_goals first | exact h _ _ hx'.keeps | (dsimp only;repeat (any_goals (first | assumption | exact h _ _ hx'.keeps | wp_step)))
theorem Iw {R:Result->Shared->Prop} {S I l:Addr} {items:Array Value} {res:Value} (hh:A.handled=none) (hlI:l≠I) (hSI:S≠I) (hSl:S≠l) :
  ∀ (rest:List (Key × Value)) (i:Nat) (acc:List (Key × Value)) (ix:Int) (t:Tok) (s:Shared),items.size=i+rest.length->acc.length+rest.length<=sizeLine ->
   (∀ (j:Nat) (q:Key × Value),rest[j]?=some q->∃ (b:Addr) (u:Value),items[i+j]?=some (.ref b)/\b≠S/\b≠I/\IsTup s.heap b #[u,q.2]/\zr q.1 u=true) ->
   s.heap.IsListIter I l i->s.heap.IsList l items->s.heap.DictOf (aZ prog w) S acc ->
   (∀ h' tk,h'.DictOf (aZ prog w) S (merged acc rest)->(∀ b o,b≠S->b≠I->s.heap.get? b=some o->h'.get? b=some o)->R (.ok (.ret res)) { s with heap:=h',toks:=tk }) ->
   codeAny (model prog w) A (.builtin "dict.update.loop" ⟨[.ref S,.ref I,.int ix t,res],[]⟩) R s
 | [],i,acc,ix,t,s,hsz,hln,ht,hit,hl,hm,hR=>by
  refine codeAny_builtin IQ ?_
  rw [Around.under_plainId yF _]
  show wpAny _ A.in1 (pyNext (.ref I) >>= _) _ _ s
  refine wpAny_bind (wpAny_pyNext_list_end (A:=A.in1) hh hit hl (by first | exact Array.getElem?_eq_none (Nat.le_of_eq hsz) | (simp at hsz;simp;omega)) λh' he=>?_)
  show wpAny _ A.in1 (Builtin.Dict.addKeywords S [] >>= _) _ _ _
  refine wpAny_bind (wpAny_pure (wpAny_pure ?_))
  exact hR h' s.toks (hm.extBut he hSI) λb o _ hb e=>he b o hb e
 | q::rest,i,acc,ix,t,s,hsz,hln,ht,hit,hl,hm,hR=>by
  obtain ⟨b,u,hb,hbS,hbI,htup,hk⟩:=ht 0 q rfl
  rw [U0] at hsz hln
  refine codeAny_builtin IQ ?_
  rw [Around.under_plainId yF _]
  show wpAny _ A.in1 (pyNext (.ref I) >>= _) _ _ s
  refine wpAny_bind (wpAny_pyNext_list_item (x:=.ref b) hit hl (by simpa using hb) λh1 hit1 hs1=>?_)
  have ht1:IsTup h1 b #[u,q.2]:=htup.extBut hs1.extBut hbI
  have hl1:h1.IsList l items:=hl.extBut hs1.extBut hlI
  have hm1:h1.DictOf (aZ prog w) S acc:=hm.extBut hs1.extBut hSI
  obtain ⟨o,ho,hc,n,hd⟩:=id ht1
  show wpAny _ A.in1 (holding [Value.ref b] _ >>= _) _ _ _
  refine wpAny_bind (wpAny_holding ?_)
  refine wpAny_bind (wpAny_tryCatch ?_)
  unfold Builtin.Dict.pairItems
  refine wpAny_bind (wpAny_typeOf (T:="tuple") ⟨o,ho,hc⟩ ?_)
  rw [if_pos (by first | decide | rfl | simp)]
  refine wpAny_bind (wpAny_seqItems ho hd (wpAny_pure ?_))
  show wpAny _ A.in1 (holding [u,q.2] (dictSet S u q.2)) _ _ _
  refine wpAny_holding (wpAny_dictSet_pairs (knd:=aZ prog w) (k:=q.1) hk hm1 (λh2 hm2 hs2=>?_) (by omega))
  refine wpAny_pure ⟨plainId_quiet yF _,Iw (items:=items) hh hlI hSI hSl rest (i+1) (stored acc q.1 q.2) (ix+1) 0 _ (show items.size=i+1+rest.length by omega) ?_ (λj q' e=>?_) ?_ ?_ hm2 λh' tk hd' k=>?_⟩
  ·have z:=stored_length_le acc q.1 q.2
   omega
  ·obtain ⟨b',u',hb',hbS',hbI',htup',hk'⟩:=ht (j+1) q' (by simpa using e)
   refine ⟨b',u',?_,hbS',hbI',(htup'.extBut hs1.extBut hbI').extBut hs2.extBut hbS',hk'⟩
   rw [show i+1+j=i+(j+1) by omega]
   exact hb'
  ·exact hit1.at λo' e=>hs2.extBut I o' (Ne.symm hSI) e
  ·exact hl1.extBut hs2.extBut (Ne.symm hSl)
  ·exact hR h' tk hd' λc oc h3 h4 e=>k c oc h3 h4 (hs2.extBut c oc h3 (hs1.extBut c oc h4 e))
theorem Dr {s:Shared} {l:Addr} {ol:Obj} {items:Array Value} {n:Nat} {prs:List (Key × Value)} {Q:Value->Shared->Prop} (hh:A.handled=none) (hl:s.heap.get? l=some ol) (hc:ol.cls=.type "list") (hd:ol.dict=none)
  (hdat:ol.data=.seq items n) (hsz:items.size=prs.length) (hln:prs.length<=sizeLine)
  (ht:∀ (j:Nat) (q:Key × Value),prs[j]?=some q->∃ (b:Addr) (u:Value),items[j]?=some (.ref b)/\IsTup s.heap b #[u,q.2]/\zr q.1 u=true)
  (h:∀ h' tk,h'.DictOf (aZ prog w) s.heap.objs.size (merged [] prs)->(∀ b o,s.heap.get? b=some o->h'.get? b=some o)->Q (.ref s.heap.objs.size) { s with heap:=h',toks:=tk }) :
  wpAny (model prog w) A (call (.type "dict") [.ref l]) Q E s:=by
 refine callType_codes (Q₁:=λobj s₁=>obj=.ref s.heap.objs.size/\s₁={ s with heap:=s.heap.push { cls:=.type "dict",data:=.dict #[] } }) PySem.F.kt_called_dict (PySem.F.kt_typeCall_dict_1 _) PySem.F.entry_dict_init (kt_code_dict_new _ ⟨rfl,rfl⟩) ?_
 rintro obj s₁ ⟨rfl,rfl⟩
 have hnew:(s.heap.push { cls:=.type "dict",data:=.dict #[] }).DictOf (aZ prog w) s.heap.objs.size []:=Heap.DictOf.new s.heap
 have k0:∀ b o,s.heap.get? b=some o->(s.heap.push { cls:=.type "dict",data:=.dict #[] }).get? b=some o:=λb o e=>Heap.get?_push_of_some _ e
 refine ⟨hnew.typeIs,PySem.F.args_dict_init_2 _ _,?_⟩
 unfold Builtin.«dict.__init__»
 refine wpAny_bind ?_
 unfold Builtin.Dict.selfAndRest
 refine wpAny_bind (wpAny_notOrdered_dict hnew.typeIs ?_)
 show wpAny _ _ (pure (s.heap.objs.size,[Value.ref l])) _ _ _
 refine wpAny_pure ?_
 show wpAny _ _ (Builtin.Dict.updateFrom "dict.__init__" s.heap.objs.size (.ref l) [] .none) _ _ _
 unfold Builtin.Dict.updateFrom
 refine wpAny_bind (wpAny_typeOf (T:="list") ⟨ol,k0 _ _ hl,hc⟩ ?_)
 rw [if_pos (by first | decide | rfl | simp)]
 refine wpAny_bind (ML (k0 _ _ hl) hc hdat hd hh λh1 tk1 hk1=>?_)
 rw [if_pos (show (none:Option Value).isNone=true from rfl)]
 refine wpAny_bind (wpAny_rule ?_)
 have hl1:h1.IsList l items:=⟨ol,hk1 _ _ (k0 _ _ hl),hc,n,hdat⟩
 have hS1:s.heap.objs.size < h1.objs.size:=by
  have e:(s.heap.push { cls:=.type "dict",data:=.dict #[] }).get? s.heap.objs.size=some { cls:=.type "dict",data:=.dict #[] }:=Heap.get?_push_size _ rfl
  exact Heap.lt_size (hk1 _ _ e)
 refine wpAny_bind (wpAny_pyIter_list hl1 ?_)
 have k2:∀ b o,h1.get? b=some o->(h1.push { cls:=.type "list_iterator",data:=.fields #[.ref l,.int 0 0] }).get? b=some o:=λb o e=>Heap.get?_push_of_some _ e
 have hlt:l < s.heap.objs.size:=Heap.lt_size hl
 have key:=Iw (prog:=prog) (w:=w) (A:=A.in1) (R:=wants (λr s₂=>r=.none/\Q (.ref s.heap.objs.size) s₂) E) (S:=s.heap.objs.size) (I:=h1.objs.size) (l:=l) (items:=items) (res:=Value.none) hh
  (U7 (Nat.lt_trans hlt hS1)) (U7 hS1) (Nat.ne_of_gt hlt) prs 0 [] 0 0
  { s with heap:=h1.push { cls:=.type "list_iterator",data:=.fields #[.ref l,.int 0 0] },toks:=tk1 } (by rw [hsz,Wr]) (by rw [List.length_nil,Wr];exact hln)
  (λj q e=>by
   obtain ⟨b,u,e1,e2,e3⟩:=ht j q e
   have hb:b < s.heap.objs.size:=e2.lt
   exact ⟨b,u,by rw [Wr];exact e1,U7 hb,U7 (Nat.lt_trans hb hS1),e2.keeps λc o z=>k2 _ _ (hk1 _ _ (k0 _ _ z)),e3⟩)
  ⟨_,Heap.get?_push_size _ rfl,rfl,rfl⟩ (hl1.at λo e=>k2 _ _ e) ((hnew.at λo e=>hk1 _ _ e).at λo e=>k2 _ _ e)
  (λh' tk hd' k=>⟨rfl,h h' tk hd' λb o e=>k b o (U7 (Heap.lt_size e)) (U7 (Nat.lt_trans (Heap.lt_size e) hS1)) (k2 _ _ (hk1 _ _ (k0 _ _ e)))⟩)
 first
  | exact wpAny_pure ⟨plainId_quiet yF _,key⟩
  | exact wpAny_bind (wpAny_pure (wpAny_pure ⟨plainId_quiet yF _,key⟩))
end
section
variable {X:Cx}
theorem Io {pins:List (Addr × Obj)} {σ:St} {H:Hp} {s:Shared} (I:Inv X pins σ H s):∀ {ps:List Addr} {kvs:List (Key × V)},Paired (λp kv=>gc X.K H p [kV kv.1,kv.2]) ps kvs ->
  ∃ prs:List (Key × Value),KV kvs prs/\prs.length=ps.length/\∀ (j:Nat) (q:Key × Value),prs[j]?=some q->∃ (b:Addr) (u:Value),ps[j]?=some b/\IsTup s.heap b #[u,q.2]/\zr q.1 u=true
 | _,_,.nil=>⟨[],.nil,rfl,λj q e=>by simp at e⟩
 | _,_,.cons (a:=p) (b:=kv) h t=>by
  obtain ⟨prs,r,hl,hp⟩:=Io I t
  obtain ⟨its,rv,ht,_⟩:=I.tuple h
  obtain ⟨u,y,ei,ru,ry⟩:=vals2 rv
  subst ei
  refine ⟨(kv.1,y)::prs,.cons ⟨rfl,ry⟩ r,by rw [U0,U0,hl],λj q e=>?_⟩
  cases j with
  | zero =>
   have e':(kv.1,y)=q:=Option.some.inj e
   subst e'
   exact ⟨p,u,rfl,ht,xk (P:=X.prog) (w:=X.w) ru⟩
  | succ j =>
   obtain ⟨b,u',e1,e2,e3⟩:=hp j q (by simpa using e)
   exact ⟨b,u',by simpa using e1,e2,e3⟩
theorem KL:∀ {ps:List Addr} {us:List Value},Vals (ps.map V.ref) us->us=ps.map Value.ref
 | [],us,r=>by
  rw [Wb] at r
  cases r
  rfl
 | p::ps,us,r=>by
  rw [UT] at r
  cases r with
  | cons h t =>
   cases h
   rw [UT,<- KL t]
theorem Kb (hcalm:X.calm=true):mZ X (.type "dict") (λxs H Q=>∃ (a:Addr) (ps:List Addr) (kvs:List (Key × V)),xs=[.ref a]/\bf X.K H a (ps.map V.ref)/\Paired (λp kv=>gc X.K H p [kV kv.1,kv.2]) ps kvs /\
  ∀ p,H p=none->Q (.ref p) (upd H p (.dK (u5 [] kvs)))):=by
 intro pins s σ H xs us Q I r q
 obtain ⟨a,ps,kvs,ex,hq,hp,q⟩:=q
 subst ex
 obtain ⟨u,eu,rx⟩:=vals1 r
 subst eu
 cases rx
 obtain ⟨its,rv,pl,hz⟩:=I.list hq
 have ei:=KL rv
 subst ei
 rw [UA] at hz
 obtain ⟨prs,rel,hl,hpr⟩:=Io I hp
 obtain ⟨o,n,ho,hc,hd,hdat⟩:=pl
 refine Dr (prs:=prs) (I.ok.hd hcalm) ho hc hd hdat (by simp [hl]) (by rw [hl];exact hz) (λj q' e=>?_) λh' tk hd' k=>?_
 ·obtain ⟨b,u,e1,e2,e3⟩:=hpr j q' e
  exact ⟨b,u,by simp [e1],e2,e3⟩
 ·have hm:(s.heap.objs.size == sysModules)=false:=beq_eq_false_iff_ne.mpr (Nat.ne_of_gt I.big)
  have hlen:(u5 [] kvs).length<=sizeLine:=by
   refine US (zv kvs []) ?_
   rw [List.length_nil,Wr,rel.length,hl]
   exact hz
  exact ⟨.ref s.heap.objs.size,upd H s.heap.objs.size (.dK (u5 [] kvs)),I.laid (t':=tk) k (UI _) (show iH X.prog X.w _ _ _ (.dK (u5 [] kvs)) from ⟨hlen,hm,merged [] prs,KV.merge rel .nil,hd'⟩),rfl,q _ (I.dz.fresh (UI _))⟩
end
end L2
namespace L2
open PySem PySem.Spec PyProof.Rows
section
variable {X:Cx} {pins:List (Addr × Obj)} {σ:St} {H:Hp} {s:Shared} {h':Heap}
theorem Inv.lock {d:Addr} {u:HO} (I:Inv X pins σ H s) (h:H d=some u) (mu:Qc (some u)):∃ od,Inv X pins σ (upd H d (.frz od u)) s:=by
 have x:=I.dz d u h
 have ex:∃ od,s.heap.get? d=some od:=by
  cases u with
  | lst xs=>obtain ⟨_,_,_,_,e⟩:=x;exact ⟨_,e⟩
  | dK kvs=>obtain ⟨_,_,_,_,o,_,_,e,_⟩:=x;exact ⟨o,e⟩
  | dT kvs=>obtain ⟨_,_,_,_,o,_,_,e,_⟩:=x;exact ⟨o,e⟩
  | set S n=>obtain ⟨o,_,_,_,e,_⟩:=x;exact ⟨o,e⟩
  | ins C dx fs=>obtain ⟨_,_,_,e,_⟩:=x;exact ⟨_,e⟩
  | ext φ=>obtain ⟨_,⟨_,e⟩,_⟩:=x;exact ⟨_,e⟩
  | _=>exact False.elim mu
 obtain ⟨od,e⟩:=ex
 have new:iH X.prog X.w (upd H d (.frz od u)) s.heap d (.frz od u):=by
  refine ⟨e,x.qr (λb v _ q=>q) (λb q=>?_) λb xs q=>?_⟩
  ·rw [ak (λz=>by rw [z,h] at q;cases q;exact mu)];exact q
  ·rw [ak (λz=>by rw [z,h] at q;cases q;exact mu)];exact q
 exact ⟨od,I.write (x:=d) (e:=d) (t':=s.toks) (h':=s.heap) (by rw [h];exact mu) (.inl rfl) (λb v _ q=>q) ⟨od,e⟩ new⟩
theorem Inv.SH {d:Addr} {u:HO} (I:Inv X pins σ H s) (h:H d=some u) (mu:Qc (some u)):∀ o' u',X.Ru d≠some (.frz o' u'):=λo' u' e=>by
 have q:=I.base.Ci d o' u' e
 rw [h] at q
 cases q
 exact mu
theorem Inv.unlock {d:Addr} {od:Obj} {u:HO} (I:Inv X pins σ H s) (h:H d=some (.frz od u)) (hn:∀ o' u',X.Ru d≠some (.frz o' u')):Inv X pins σ (upd H d u) s:=by
 have neH:∀ b o,H b=some o->(∀ o' u',o≠.frz o' u')->b≠d:=λb o e hne z=>by
  rw [z,h] at e
  cases e
  exact hne _ _ rfl
 have neN:∀ b,H b=none->b≠d:=λb e z=>by rw [z,h] at e;cases e
 refine ⟨I.ok,I.os,I.bare,⟨I.base.keep,I.base.slot,λb o e n hx=>?_,I.base.there,λb xs e=>?_,λb o x e=>?_,λb ps e=>?_⟩,I.loc,I.cell,?_,λx c e=>?_,λp hp=>?_,λb o e=>?_,I.len⟩
 ·rw [ak (neN b (I.base.free b o e n hx))];exact I.base.free b o e n hx
 ·have q:=I.base.Ar b xs e
  rw [ak (neH b _ q (λ_ _ z=>nomatch z))];exact q
 ·have q:=I.base.Ci b o x e
  rw [ak (λz=>by rw [z] at e;exact hn _ _ e)];exact q
 ·obtain ⟨m,q⟩:=I.base.Hx b ps e
  exact ⟨m,by rw [ak (neH b _ q (λ_ _ z=>nomatch z))];exact q⟩
 ·rw [ak (neN _ I.free)];exact I.free
 ·rw [ak (neN c (I.vL x c e))];exact I.vL x c e
 ·obtain ⟨e,n,r⟩:=I.pin p hp
  exact ⟨e,by rw [ak (neN _ n)];exact n,r⟩
 ·by_cases hb:b=d
  ·rw [hb,ae] at e
   cases e
   rw [hb]
   obtain ⟨_,x⟩:=I.dz d _ h
   exact x.qr (λc v _ q=>q) (λc q=>by rw [ak (neH c _ q (λ_ _ z=>nomatch z))];exact q) λc xs q=>by rw [ak (neH c _ q (λ_ _ z=>nomatch z))];exact q
  ·rw [ak hb] at e
   exact (I.dz b o e).qr (λc v _ q=>q) (λc q=>by rw [ak (neH c _ q (λ_ _ z=>nomatch z))];exact q) λc xs q=>by rw [ak (neH c _ q (λ_ _ z=>nomatch z))];exact q
end
def Rp (t:TE):TE:=λσ H Q=>∃ d u,H d=some u/\Qc (some u)/\∀ od,t σ (upd H d (.frz od u)) λv H'=>H' d=some (.frz od u)/\Q v (upd H' d u)
section
variable {X:Cx}
theorem Lx {e:Expr} {t:TE} (h:PE X e t):PE X e (Rp t):=by
 intro pins s σ H Q I hw
 obtain ⟨d,u,hd,mu,hw⟩:=hw
 obtain ⟨od,I1⟩:=I.lock hd mu
 refine dP (h pins s σ _ _ I1 (hw od)) λv s1 ⟨x,H1,I2,r,e2,q⟩=>?_
 exact ⟨x,_,I2.unlock e2 (I.SH hd mu),r,q⟩
theorem OF {tg:Expr} {pins:List (Addr × Obj)} {σ:St} {H:Hp} {s:Shared} {R:It->Hp->Prop} {J:It} {tn:Nat->Heap->Prop} {tk:Nat} (I:Inv X pins σ H s) (o:Obj)
  (T:Turn X.prog X.w X.K tg J [s.heap.objs.size] s.heap.objs.size tn) (st:tn 0 (s.heap.push o)) (q:R J H):Th X pins σ tg R (.ref s.heap.objs.size) { s with heap:=s.heap.push o,toks:=tk }:=by
 refine ⟨s.heap.objs.size,[s.heap.objs.size],tn,J,H,rfl,I.kept λb ob e=>Heap.get?_push_of_some _ e,T,st,λb hb=>?_,q⟩
 have e:b=s.heap.objs.size:=by simpa using hb
 subst e
 exact I.OW (UI _) (I.dz.fresh (UI _))
end
def S8 (lo c:Int) (n:Nat):It:=⟨λi _=>i < n,λi H x H'=>H'=H/\x=.int (lo+(i:Nat) * c),λi _=>n<=i⟩
theorem JC {P:Program} {w:World} {K:Uy} {tg:Expr} (it:Addr) (lo c:Int) (n:Nat):Turn P w K tg (S8 lo c n) [it] it (λi h=>IsRangeIter h it (lo+(i:Nat) * c) ((n:Int) - (i:Nat)) c) where
 mem:=by simp
 obj:=λi h st b hb=>by
  have e:b=it:=by simpa using hb
  subst e
  exact ⟨_,st,λv z=>nomatch z⟩
 keep:=λi h h' st k=>k it (by simp) _ st
 item:=by
  intro X hP hw hK hc i pins s σ H E I hf st hg
  subst hP hw hK
  obtain ⟨f0,f1,f2,f3,f4,f5⟩:=hf it (by simp)
  have W:=Walks.range (prog:=X.prog) (w:=X.w) (I.ok.hd hc) it lo c n
  refine W.item i s _ _ hg st λv h' tk hv st' kk=>?_
  obtain ⟨t,rfl⟩:=hv
  have I1:Inv X pins σ H { s with heap:=h',toks:=tk }:=I.turned (λb o hb e=>kk b o (by simpa using hb) e) f0 f1 f3 f4 f5
  exact ⟨_,rfl,JH (s:={ s with heap:=h',toks:=tk }) (n:="range_iterator") st' rfl rfl (by decide) ⟨.int (lo+(i:Nat) * c),H,I1,⟨t,rfl⟩,⟨rfl,rfl⟩,st',λb hb=>(hf b hb).1⟩⟩
 done:=by
  intro X hP hw hK hc i pins s σ H E I hf st hg
  subst hP hw hK
  obtain ⟨f0,f1,f2,f3,f4,f5⟩:=hf it (by simp)
  exact wpAny_pyNext_range_end (I.ok.hd hc) st (by have:n<=i:=hg;omega) λh' eb=>⟨rfl,I.turned (t':=s.toks) (λb o hb e=>eb b o hb e) f0 f1 f3 f4 f5⟩
 self:=λA i s Q E st h=>wpAny_pyIter_rangeiter st h
def Uv (i j c:Int) (n:Nat):Prop:=c≠0/\c.natAbs < 1073741824/\Builtin.Range.small i j c=true/\Builtin.Range.rangeSize i j c=n
def R0 (ta:TA):TI:=λσ H R=>ta σ H λvs H1=>∃ (i j c:Int) (n:Nat),vs=[.int i,.int j,.int c]/\Uv i j c n/\R (S8 i c n) H1
section
variable {X:Cx} {tg:Expr}
theorem My {a b c:Expr} {ta:TA} {p pos:Pos} (hg:Gl X "range") (hm:X.mg "range"=none) (ha:PA X [a,b,c] ta)
  (hs:starEach [a,b,c] X.env=(false,eval a X.env)::starEach [b,c] X.env:=by rfl) (hpl:(backTo pos (starEach [b,c] X.env)).any (·.1)=false:=by rfl) :
  PI X tg (.Call (.Name "range" p) [a,b,c] [] pos) (R0 ta):=by
 intro pins s σ H R I h
 refine Call_ (HC I hg hm boot_range (PyProof.Rows.callWith_type1 (dP (ha pos pins s σ H _ I h) λus s1 ⟨vs,H1,I1,r1,q1⟩=>?_) hs hpl))
 obtain ⟨i,j,k,n,e,⟨c0,c1,c2,c3⟩,q⟩:=q1
 subst e
 cases r1 with
 | cons r rr =>
  cases rr with
  | cons r' rr =>
   cases rr with
   | cons r'' rr =>
    cases rr
    obtain ⟨t,rfl⟩:=r
    obtain ⟨t',rfl⟩:=r'
    obtain ⟨t'',rfl⟩:=r''
    refine call_range_3 c0 ?_ (.inl (PyProof.noPylong_small c1))
    refine wpAny_pyIter_range (IsRange.new ..) c2 ?_
    have I2:Inv X pins σ H1 { s1 with heap:=s1.heap.push { cls:=.type "range",data:=.fields #[.int i t,.int j t',.int k t''] } }:=I1.kept (t':=s1.toks) λb o e=>Heap.get?_push_of_some _ e
    refine OF (tk:=s1.toks) I2 _ (JC _ i k n) ?_ q
    have e1:i+((0:Nat):Int) * k=i:=by simp
    have e2:(n:Int) - ((0:Nat):Int)=Builtin.Range.rangeSize i j k:=by rw [c3];simp
    show IsRangeIter _ _ (i+((0:Nat):Int) * k) ((n:Int) - ((0:Nat):Int)) k
    rw [e1,e2]
    exact Heap.get?_push_size _ rfl
end
theorem RA {κ:Type} {kvs:List (κ × V)} {vs:List (κ × Value)} (h:KV kvs vs):∀ {i:Nat} {k:κ} {v:V},kvs[i]?=some (k,v)->∃ u,vs[i]?=some (k,u)/\RelV v u:=by
 unfold KV at h
 induction h with
 | nil=>intro i k v e;simp at e
 | @cons a b l₁ l₂ r t ih =>
  intro i k v e
  cases i with
  | zero =>
   simp only [List.getElem?_cons_zero,Option.some.injEq] at e
   subst e
   refine ⟨b.2,?_,r.2⟩
   simp only [List.getElem?_cons_zero]
   exact congrArg some (Prod.ext r.1.symm rfl)
  | succ j =>
   simp only [List.getElem?_cons_succ] at e ⊢
   exact ih e
section
variable {X:Cx} {pins:List (Addr × Obj)} {σ:St} {H:Hp} {s:Shared} {d:Addr} {o:Obj}
theorem Inv.QM {kvs:List (Key × V)} (I:Inv X pins σ H s) (h:H d=some (.frz o (.dK kvs))) :
  (d == sysModules)=false/\s.heap.get? d=some o/\o.ExactDict/\∃ (es:Array DictEntry) (ep:Nat) (vs:List (Key × Value)),o.data=.dict es ep/\es.size=kvs.length/\KV kvs vs/\s.heap.DictAt (aZ X.prog X.w) d vs ep:=by
 obtain ⟨hd,z,hs,vs,kv,o',es,ep,ho,hx,hdt,r⟩:=I.dz d _ h
 rw [hd] at ho
 cases ho
 refine ⟨hs,hd,hx,es,ep,vs,hdt,?_,kv,o,es,hd,hx,hdt,r⟩
 have l1:=r.2.1.length
 have l2:kvs.length=vs.length:=Paired.length kv
 rw [Array.length_toList] at l1
 omega
end
def Sn (d:Addr) (o:Obj) (kvs:List (Key × V)):It :=
 ⟨λi H=>H d=some (.frz o (.dK kvs))/\i < kvs.length,λi H x H'=>H'=H/\∃ k,kvs[i]?=some (k,x),λi H=>H d=some (.frz o (.dK kvs))/\kvs.length<=i⟩
theorem LJ {o:Obj} {es es':Array DictEntry} {ep ep':Nat} (h:o.data=.dict es ep) (h':o.data=.dict es' ep'):es'=es/\ep'=ep:=by
 rw [h] at h'
 cases h'
 exact ⟨rfl,rfl⟩
section
variable {P:Program} {w:World} {K:Uy} {tg:Expr} {d:Addr} {o:Obj} {es:Array DictEntry} {ep:Nat}
theorem Mq {kvs:List (Key × V)} (it:Addr) (hod:o.data=.dict es ep):Turn P w K tg (Sn d o kvs) [it] it (λi h=>h.IsValIter it d i kvs.length ep) where
 mem:=by simp
 obj:=λi h st b hb=>by
  have e:b=it:=by simpa using hb
  subst e
  obtain ⟨oi,e,c,dd⟩:=st
  exact ⟨oi,e,λv z=>by rw [dd] at z;cases z⟩
 keep:=λi h h' st k=>st.at λoi e=>k it (by simp) oi e
 item:=by
  intro X hP hw hK hc i pins s σ H E I hf st hg
  subst hP hw hK
  obtain ⟨hd,hi⟩:=hg
  obtain ⟨f0,f1,f2,f3,f4,f5⟩:=hf it (by simp)
  obtain ⟨hs,hgd,hx,es',ep',vs,hdt,hsz,kv,hm⟩:=I.QM hd
  obtain ⟨rfl,rfl⟩:=LJ hod hdt
  obtain ⟨⟨k,v⟩,hkv⟩:∃ p,kvs[i]?=some p:=⟨kvs[i],Vo hi⟩
  obtain ⟨u,hu,ru⟩:=RA kv hkv
  have hl:kvs.length=vs.length:=Paired.length kv
  rw [hl] at st
  refine wpAny_pyNext_values_item st hm hu λh' st' sb=>?_
  have I1:Inv X pins σ H { s with heap:=h' }:=I.turned (t':=s.toks) (λb ob hb e=>(sb.2 b hb).trans e) f0 f1 f3 f4 f5
  obtain ⟨oi,e,c,dd⟩:=id st'
  refine ⟨u,rfl,JH (s:={ s with heap:=h' }) e c dd (by decide) ⟨v,H,I1,ru,⟨rfl,k,hkv⟩,?_,λb hb=>(hf b hb).1⟩⟩
  show h'.IsValIter it d (i+1) kvs.length _
  rw [hl]
  exact st'
 done:=by
  intro X hP hw hK hc i pins s σ H E I hf st hg
  subst hP hw hK
  obtain ⟨hd,hi⟩:=hg
  obtain ⟨f0,f1,f2,f3,f4,f5⟩:=hf it (by simp)
  obtain ⟨hs,hgd,hx,es',ep',vs,hdt,hsz,kv,hm⟩:=I.QM hd
  obtain ⟨rfl,rfl⟩:=LJ hod hdt
  have hl:kvs.length=vs.length:=Paired.length kv
  rw [hl] at st
  exact wpAny_pyNext_values_end (I.ok.hd hc) st hm (VT (by omega)) λh' eb=>⟨rfl,I.turned (t':=s.toks) (λb ob hb e=>eb b ob hb e) f0 f1 f3 f4 f5⟩
 self:=λA i s Q E st h=>wpAny_pyIter_valiter st h
end
def Se (td:TE):TI:=λσ H R=>td σ H λx H1=>∃ d o kvs,x=.ref d/\H1 d=some (.frz o (.dK kvs))/\R (Sn d o kvs) H1
section
variable {X:Cx} {tg e:Expr} {td:TE} {apos cpos:Pos}
theorem GD (he:PE X e td) (hbase:attributeBase e "values" X.env (eval e X.env)=eval e X.env:=by rfl) (hline:(apos.endLine == cpos.line)=true:=by rfl):PI X tg (.Call (.Attribute e "values" apos) [] [] cpos) (Se td):=by
 intro pins s σ H R I h
 refine wpAny_Call_method (T:="dict") (id:="dict.values") hbase rfl hline F.plainAttrs_dict F.slot_dict_values F.type_dict_values (dP (he pins s σ H _ I h) λu s1 ⟨x,H1,I1,rx,d,o,kvs,ex,hd,q⟩=>?_)
 subst ex
 obtain rfl:u=Value.ref d:=rx
 obtain ⟨hs,hgd,hx,es,ep,vs,hdt,hsz,kv,hm⟩:=I1.QM hd
 have hl:kvs.length=vs.length:=Paired.length kv
 refine ⟨hm.dictOf.typeIs,hm.dictOf.mapOf.noDict,?_⟩
 have I2:Inv X pins σ H1 { s1 with heap:=s1.heap.push { cls:=.type "dict_values",data:=.fields #[.ref d] } }:=I1.kept (t':=s1.toks) λb ob q=>Heap.get?_push_of_some _ q
 have fin:wpAny (model X.prog X.w) X.A (pyIter (.ref s1.heap.objs.size)) (Th X pins σ tg R) X.xe { s1 with heap:=s1.heap.push { cls:=.type "dict_values",data:=.fields #[.ref d] } }:=by
  refine wpAny_pyIter_values (d:=d) (knd:=aZ X.prog X.w) ⟨_,Heap.get?_push_size _ rfl,rfl,rfl⟩ (hm.push _) (OF (tk:=s1.toks) I2 _ (Mq _ hdt) ⟨_,Heap.get?_push_size _ rfl,rfl,?_⟩ q)
  rw [hl]<;>rfl
 show wpAny _ _ (callWith cpos (.builtin "dict.values") [.ref d] [] []) _ X.xe s1
 exact method_meetsIn F.slot_dict_values F.entry_dict_values rfl (PySem.evalArgs_none ⟨rfl,hm.dictOf.typeIs,F.args_dict_values_1 _,_,meets_dict_values (aZ X.prog X.w) d hs,⟨vs,hm.dictOf⟩,fin⟩)
end
end L2
namespace L2
open PySem PySem.Spec PyProof.Rows
def inClass (s:Stmt) (j:Nat):Stmt:=match s with
 | .ClassDef _ _ _ body _ _ _ _ _ _ _=>body.getD j (.Pass ⟨0,0,0,0⟩)
 | _=>.Pass ⟨0,0,0,0⟩
def pY (s:Stmt):Arguments:=match s with
 | .FunctionDef _ a _ _ _ _ _ _ _ _=>a
 | _=>{ posonlyargs:=[],args:=[],vararg:=none,kwonlyargs:=[],kw_defaults:=[],kwarg:=none,defaults:=[] }
def oJ (s:Stmt):List Stmt:=match s with
 | .FunctionDef _ _ b _ _ _ _ _ _ _=>b
 | _=>[]
def aq (s:Stmt):Scope:=match s with
 | .FunctionDef _ _ _ _ _ _ sc _ _ _=>sc
 | _=>{ kind:=.function,names:=[],isGenerator:=false,isCoroutine:=false }
abbrev eS:Ow:=λ_ _ _ _ _ _=>False
abbrev E0:XK:=λ_ _ _=>False
theorem aG {X:Cx}:Passes eS X E0:=λ_ _ _ _ _ _ _ h=>h.elim
structure eO (K:Uy) (x qual:Str) (st:Stmt) (f:Addr) (fd:FuncData):Prop where
 ex:∃ (oc:Value) (od:Option Addr) (kV doc pm:Value) (an:Option Addr) (cdv ct:Value) (osl:Array (Option Value)),
  fd=VP x qual (pY st) (oJ st) (aq st) .none kV doc pm an cdv ct/\K.lookup f=some ⟨oc,od,.func fd,osl⟩/\WC K cdv qual=true
 kp:VS K (.ref f)=true
section
variable {P:Program} {w:World} {K:Uy} {mg:Str->Option Value} {base:Heap}
theorem eO.ok {x qual:Str} {st:Stmt} {f:Addr} {fd:FuncData} {N ps:List Str} {k:Nat} {sp:Sp} (F:eO K x qual st f fd) (S:aC N ps (aq st)) (len:∀ vs H Q E,sp vs H Q E->vs.length=ps.length)
  (hbody:∀ (cdv:Value) (A:Around) (outer:List Env) (s:Shared) (H:Hp) (vs:List V) (Q:VK) (E:XK),l3 k (A.deeper (envOfC qual (aq st) s.heap.objs.size f cdv))->sp vs H Q E ->
   ∃ t,MN (LP eS P w K mg base N qual (aq st) f cdv A outer s H E).Tc (oJ st) t/\t { nx:=λ_ H'=>Q .dH H',rt:=Q } (start N vs) H):a8 P w K mg base eS (k+1) f fd ps sp:=by
 obtain ⟨oc,od,kV,doc,pm,an,cdv,ct,osl,rfl,lk,hcd⟩:=F.ex
 refine RX lk hcd S len λA outer s H vs Q E hr hsp=>?_
 obtain ⟨t,h,q⟩:=hbody cdv A outer s H vs Q E hr hsp
 exact ⟨t,h.Tc,q⟩
theorem eO.binds {x qual:Str} {st:Stmt} {f:Addr} {fd:FuncData} {ps:List Str} (F:eO K x qual st f fd)
  (h:∀ (kV doc pm:Value) (an:Option Addr) (cdv ct:Value) (us:List Value),us.length=ps.length->bindArgs (VP x qual (pY st) (oJ st) (aq st) .none kV doc pm an cdv ct) ⟨us,[]⟩=pure (ps.zip us)):Binds K fd ps []:=by
 obtain ⟨oc,od,kV,doc,pm,an,cdv,ct,osl,rfl,lk,hcd⟩:=F.ex
 exact .all (h kV doc pm an cdv ct)
theorem J3 {x qual:Str} {st:Stmt} {f:Addr} {oc:Value} {od an:Option Addr} {osl:Array (Option Value)} {kV doc pm cdv ct:Value} (l:K.lookup f=some ⟨oc,od,.func (VP x qual (pY st) (oJ st) (aq st) .none kV doc pm an cdv ct),osl⟩)
  (c:WC K cdv qual=true) (k:VS K (.ref f)=true):eO K x qual st f (VP x qual (pY st) (oJ st) (aq st) .none kV doc pm an cdv ct):=⟨⟨oc,od,kV,doc,pm,an,cdv,ct,osl,rfl,l,c⟩,k⟩
end
theorem md {A:Around} {k:Nat} (hr:l3 k A):A.units+1 < cLine:=Nat.lt_of_le_of_lt (Nat.add_le_add_left (by decide:1<=64) _) hr.units
section
variable {X:Cx}
theorem pv (i:Nat) {x:Str} {pos:Pos} (hN:X.N[i]?=some x:=by rfl) (hv:RN X.env.scope x:=by first | exact Or.inl rfl | exact Or.inr (Or.inl rfl) | exact Or.inr (Or.inr rfl)) (hd:(x == ("__debug__":Str))=false:=by decide)
  (hcd:(x == ("__classdict__":Str))=false:=by decide):PE X (.Name x pos) (PH i):=Nb hN hv hd hcd
theorem vC:mZ X (.builtin "len") (λxs H Q=>∃ a kvs,xs=[V.ref a]/\H a=some (.dK kvs)/\Q (.int kvs.length) H):=by
 intro pins s σ H xs us Q I r h
 obtain ⟨a,kvs,rfl,ha,q⟩:=h
 obtain ⟨u,rfl,ru⟩:=vals1 r
 cases ru
 exact Sg I (.inl ha) λt s' I'=>⟨.int kvs.length,H,I',⟨t,rfl⟩,q⟩
end
theorem bu {A B:Prop} (h:B):if false=true then A else B:=by
 rw [if_neg U3]
 exact h
theorem bc {A B:Prop} (h:A):if true=true then A else B:=by
 rw [if_pos rfl]
 exact h
def az (H H':Hp):Prop:=∀ b o,H b=some o->H' b=some o
theorem az.refl (H:Hp):az H H:=λ_ _ h=>h
theorem az.trans {H H1 H2:Hp} (a:az H H1) (b:az H1 H2):az H H2:=λc o h=>b c o (a c o h)
theorem az.free {H H':Hp} (e:az H H') {l:Addr} (h:H' l=Option.none):H l=Option.none:=by
 cases q:H l with
 | none=>rfl
 | some o =>
  rw [e l o q] at h
  cases h
theorem az.seq {K:Uy} {H H':Hp} {a:Addr} {xs:List V} (e:az H H') (h:bf K H a xs):bf K H' a xs:=by
 rcases h with (h | ⟨o,h⟩) | h
 ·exact .inl (.inl (e _ _ h))
 ·exact .inl (.inr ⟨o,e _ _ h⟩)
 ·exact .inr h
section
variable {κ:Type} [DecidableEq κ]
theorem N6 {kvs:List (κ × V)} {k:κ} (h:k6 kvs k=none):¬ k∈kvs.map (·.1):=by
 intro m
 obtain ⟨p,hp,e⟩:=UR.mp m
 have q:(kvs.any λkv=>decide (kv.1=k))=true:=Ws.mpr ⟨p,hp,decide_eq_true e⟩
 rw [xQ,h] at q
 exact absurd q (by simp)
theorem LN {kvs:List (κ × V)} {k:κ} {v:V} (h:k6 kvs k=some v):k∈kvs.map (·.1):=by
 have q:(kvs.any λkv=>decide (kv.1=k))=true:=by
  rw [xQ,h]
  all_goals rfl
 obtain ⟨p,hp,e⟩:=Ws.mp q
 exact UR.mpr ⟨p,hp,of_decide_eq_true e⟩
theorem Ha:∀ {l:List κ} {k:κ},l.Nodup->¬ k∈l->(l++[k]).Nodup
 | [],k,_,_=>by simp
 | a::r,k,h,hk=>by
  obtain ⟨h1,h2⟩:=VO.mp h
  show (a::(r++[k])).Nodup
  refine VO.mpr ⟨λm=>?_,Ha h2 λm=>hk (UL.mpr (Or.inr m))⟩
  rcases VW.mp m with q | q
  ·exact h1 q
  ·exact hk (UL.mpr (Or.inl (UE.mp q).symm))
theorem Mt {p:κ × V} {r:List (κ × V)} {k:κ} (e:¬ p.1=k):tS (p::r) k=p::tS r k:=by
 unfold tS
 rw [UW,if_pos (by simp [e])]
theorem Jb:∀ {kvs:List (κ × V)} {k:κ},¬ k∈kvs.map (·.1)->tS kvs k=kvs
 | [],_,_=>rfl
 | p::r,k,h=>by
  have h':¬ k∈r.map (·.1):=λm=>by
   obtain ⟨q,hq,e⟩:=UR.mp m
   exact h (UR.mpr ⟨q,UL.mpr (Or.inr hq),e⟩)
  rw [Mt λe=>h (UR.mpr ⟨p,UL.mpr (Or.inl rfl),e⟩),Jb h']
end
theorem at_of {xs:List V} {z:Int} {j:Nat} {v:V} (e:z=(j:Int)) (h:xs[j]?=some v):O2 xs z=some v:=by
 rw [e]
 exact PK h
theorem az.made {H H1:Hp} {x dx C:Addr} (nx:H x=Option.none) (nd:H dx=Option.none) (k:∀ b o,(upd (upd H dx (.own x)) x (.ins C dx [])) b=some o->b≠x->H1 b=some o):az H H1:=λb o e =>
 k b o (by rw [ak (aF e nx),ak (aF e nd)];exact e) (aF e nx)
end L2
section
namespace L2
open PySem PySem.Spec PyProof.Rows
open PySem.W (WData Codec OpenSpec Well WellAll ReadsW ReadsAllW)
mutual
inductive Dw (K:Uy) (H:Hp):V->WData->Prop
 | dH:Dw K H .dH .none
 | bl (b:Bool):Dw K H (.bl b) (.bool b)
 | int (i:Int):Dw K H (.int i) (.int i)
 | str (x:Str):Dw K H (.str x) (.str x)
 | Im (b:Array UInt8):Dw K H (.Im b) (.bytes b.toList)
 | lst {a:Addr} {xs:List V} {ds:List WData}:bf K H a xs->wV K H xs ds->Dw K H (.ref a) (.list ds)
 | tup {a:Addr} {xs:List V} {ds:List WData}:gc K H a xs->wV K H xs ds->Dw K H (.ref a) (.tuple ds)
inductive wV (K:Uy) (H:Hp):List V->List WData->Prop
 | nil:wV K H [] []
 | cons {v:V} {vs:List V} {d:WData} {ds:List WData}:Dw K H v d->wV K H vs ds->wV K H (v::vs) (d::ds)
end
theorem Ly {K:Uy} {H:Hp}:∀ ns:List Int,wV K H (ns.map V.int) (ns.map WData.int)
 | []=>.nil
 | n::r=>.cons (.int n) (Ly r)
theorem LK {K:Uy} {H:Hp}:∀ (ns:List Int) (xs:List V),wV K H xs (ns.map WData.int)->xs=ns.map V.int
 | [],xs,h=>by
  cases h
  rfl
 | n::r,xs,h=>by
  cases h with
  | cons h1 h2 =>
   cases h1
   rw [LK r _ h2]<;>rfl
section
variable {P:Program} {w:World} {K:Uy} {H:Hp} {h:Heap} {R:PySem.W.WRecords} {cl:Str->Option Addr}
theorem QW {a:Addr} {xs:List V} (dz:xE P w H h) (KX:K.In h) (q:bf K H a xs):∃ (its:List Value) (o:Obj) (n:Nat),Vals xs its/\h.get? a=some o/\o.cls=.type "list"/\o.data=.seq its.toArray n:=by
 rcases q with q | ⟨o,its,n,e,hc,_,hd,_,hv⟩
 ·obtain ⟨_,its,n,hv,e⟩:=(show iH P w H h a (.lst xs) from q.ok dz)
  exact ⟨its,_,n,hv,e,rfl,rfl⟩
 ·exact ⟨its.toList,o,n,hv,KX _ _ e,hc,by simp [hd]⟩
theorem QY {a:Addr} {xs:List V} (dz:xE P w H h) (KX:K.In h) (q:gc K H a xs):∃ (its:List Value) (o:Obj) (n:Nat),Vals xs its/\h.get? a=some o/\o.cls=.type "tuple"/\o.data=.seq its.toArray n:=by
 rcases q with q | ⟨o,its,n,e,hc,hd,_,hv⟩
 ·obtain ⟨_,its,hv,o,e,hc,n,hd⟩:=(show iH P w H h a (.tup xs) from q.ok dz)
  exact ⟨its,o,n,hv,e,hc,hd⟩
 ·exact ⟨its.toList,o,n,hv,KX _ _ e,hc,by simp [hd]⟩
mutual
theorem Dw.reads (dz:xE P w H h) (KX:K.In h):∀ (d:WData) (v:V) (u:Value),Dw K H v d->RelV v u->∃ as,ReadsW R cl h u d as
 | .none,_,_,x,r=>by
  cases x
  cases r
  exact ⟨_,ReadsW.none⟩
 | .bool b,_,_,x,r=>by
  cases x
  cases r
  exact ⟨_,ReadsW.bool b⟩
 | .int i,_,_,x,r=>by
  cases x
  obtain ⟨t,rfl⟩:=r
  exact ⟨_,ReadsW.int i t⟩
 | .str s,_,_,x,r=>by
  cases x
  obtain ⟨t,rfl⟩:=r
  exact ⟨_,ReadsW.str s t⟩
 | .bytes b,_,_,x,r=>by
  cases x
  obtain ⟨t,rfl⟩:=r
  exact ⟨_,ReadsW.bytes _ t⟩
 | .list ds,_,_,x,r=>by
  cases x with
  | lst hs ha =>
   cases r
   obtain ⟨its,o,n,rv,ho,hc,hd⟩:=QW dz KX hs
   obtain ⟨as,hr⟩:=Dw.readsAll dz KX ds _ its ha rv
   exact ⟨_,ReadsW.list ho hc hd hr⟩
 | .tuple ds,_,_,x,r=>by
  cases x with
  | tup hs ha =>
   cases r
   obtain ⟨its,o,n,rv,ho,hc,hd⟩:=QY dz KX hs
   obtain ⟨as,hr⟩:=Dw.readsAll dz KX ds _ its ha rv
   exact ⟨_,ReadsW.tuple ho hc hd hr⟩
 | .float _,_,_,x,_=>by cases x
 | .dict _,_,_,x,_=>by cases x
 | .bytearray _,_,_,x,_=>by cases x
 | .set _,_,_,x,_=>by cases x
 | .frozenset _,_,_,x,_=>by cases x
 | .obj _ _,_,_,x,_=>by cases x
theorem Dw.readsAll (dz:xE P w H h) (KX:K.In h):∀ (ds:List WData) (vs:List V) (us:List Value),wV K H vs ds->Vals vs us->∃ as,ReadsAllW R cl h us ds as
 | [],_,_,x,r=>by
  cases x
  cases r
  exact ⟨_,ReadsAllW.nil⟩
 | d::ds,_,_,x,r=>by
  cases x with
  | cons h1 h2 =>
   cases r with
   | cons r1 r2 =>
    obtain ⟨as,q1⟩:=Dw.reads dz KX d _ _ h1 r1
    obtain ⟨bs,q2⟩:=Dw.readsAll dz KX ds _ _ h2 r2
    exact ⟨_,ReadsAllW.cons q1 q2⟩
end
end
mutual
def LF:WData->Bool
 | .none=>true
 | .bool _=>true
 | .int _=>true
 | .str _=>true
 | .bytes _=>true
 | .list xs=>Dg xs
 | .tuple xs=>Dg xs
 | _=>false
def Dg:List WData->Bool
 | []=>true
 | x::r=>LF x&&Dg r
end
theorem Iu {α:Type} {f:α->WData} (h:∀ a,LF (f a)=true):∀ l:List α,Dg (l.map f)=true
 | []=>rfl
 | x::r=>by
  show (LF (f x)&&Dg (r.map f))=true
  rw [h x,Iu h r]<;>rfl
theorem x4:∀ (c:Codec) (a:c.denote),LF (c.enc a)=true
 | .unit,_=>rfl
 | .bool,_=>rfl
 | .int _ _,_=>rfl
 | .nat _ _,_=>rfl
 | .u8,_=>rfl
 | .bytes _ _,_=>rfl
 | .text _ _ _ _,_=>rfl
 | .list _ _ c,a=>Iu (λx=>x4 c x) a
 | .pair c d,a=>by
  show (LF (c.enc a.1)&&(LF (d.enc a.2)&&true))=true
  rw [x4 c a.1,x4 d a.2]<;>rfl
 | .triple c d e,a=>by
  show (LF (c.enc a.1)&&(LF (d.enc a.2.1)&&(LF (e.enc a.2.2)&&true)))=true
  rw [x4 c a.1,x4 d a.2.1,x4 e a.2.2]<;>rfl
 | .option c,none=>rfl
 | .option c,some x=>x4 c x
theorem FW:∀ (cs:List Codec) (a:Codec.denoteAll cs),Dg (Codec.encAll cs a)=true
 | [],_=>rfl
 | c::cs,a=>by
  show (LF (c.enc a.1)&&Dg (Codec.encAll cs a.2))=true
  rw [x4 c a.1,FW cs a.2]<;>rfl
theorem zQ:∀ {xs:List WData} {d:WData},d∈xs->d.weight<=WData.weightAll xs
 | [],d,h=>absurd h (by simp)
 | x::r,d,h=>by
  show d.weight<=x.weight+1+WData.weightAll r
  rcases UL.mp h with e | m
  ·rw [e]
   omega
  ·have z:=zQ m
   omega
def toV:Value->V
 | .none=>.dH
 | .bool b=>.bl b
 | .int i _=>.int i
 | .str x _=>.str x
 | .bytes b _=>.Im b
 | .ref a=>.ref a
 | _=>.dH
def MK (A:List Addr):Value->Prop
 | .none=>True
 | .bool _=>True
 | .int _ _=>True
 | .str _ _=>True
 | .bytes _ _=>True
 | .ref a=>a∈A
 | _=>False
theorem MK.mono {A B:List Addr} (h:∀ a∈A,a∈B):∀ {u:Value},MK A u->MK B u:=λ{u} x=>by
 cases u with
 | ref a=>exact h a x
 | none=>trivial
 | bool b=>trivial
 | int i t=>trivial
 | str s t=>trivial
 | bytes b t=>trivial
 | _=>exact False.elim x
theorem Oi {A:List Addr} {u:Value} (x:MK A u):RelV (toV u) u:=by
 cases u with
 | ref a=>rfl
 | none=>rfl
 | bool b=>rfl
 | int i t=>exact ⟨t,rfl⟩
 | str s t=>exact ⟨t,rfl⟩
 | bytes b t=>exact ⟨t,rfl⟩
 | _=>exact False.elim x
theorem vG {A:List Addr}:∀ {vs:List Value},(∀ u∈vs,MK A u)->Vals (vs.map toV) vs
 | [],_=>.nil
 | u::r,h=>.cons (Oi (h u (UZ ..))) (vG λx hx=>h x (U2 _ hx))
def wU (h:Heap) (A:List Addr) (a:Addr):Prop:=∃ vs:List Value,vs.length<=sizeLine/\(∀ u∈vs,MK A u) /\
 (h.get? a=some { cls:=.type "list",data:=.seq vs.toArray }∨h.get? a=some { cls:=.type "tuple",data:=.seq vs.toArray })
theorem wU.mono {h:Heap} {A B:List Addr} {a:Addr} (k:∀ a∈A,a∈B) (x:wU h A a):wU h B a:=by
 obtain ⟨vs,h1,h2,h3⟩:=x
 exact ⟨vs,h1,λu hu=>(h2 u hu).mono k,h3⟩
theorem tL {P:Params} {h:Heap}:∀ {vs:List Value} {ds:List WData},WellAll P h vs ds->vs.length=ds.length
 | _,_,.nil=>rfl
 | _,_,.cons _ b=>by
  show _+1=_+1
  rw [tL b]
theorem Gh {P:Params} {h:Heap} {v:Value} {ds:List WData} (x:Well P h v (.list ds)):∃ (a:Addr) (vs:List Value),v=.ref a/\h.get? a=some { cls:=.type "list",data:=.seq vs.toArray }/\WellAll P h vs ds:=by
 cases x with
 | list ho hall=>exact ⟨_,_,rfl,ho,hall⟩
theorem Eo {P:Params} {h:Heap} {v:Value} {ds:List WData} (x:Well P h v (.tuple ds)):∃ (a:Addr) (vs:List Value),v=.ref a/\h.get? a=some { cls:=.type "tuple",data:=.seq vs.toArray }/\WellAll P h vs ds:=by
 cases x with
 | tuple ho hall=>exact ⟨_,_,rfl,ho,hall⟩
theorem Gg {P:Params} {h:Heap} {us:List Value} {d:WData} {ds:List WData} (x:WellAll P h us (d::ds)):∃ (v:Value) (vs:List Value),us=v::vs/\Well P h v d/\WellAll P h vs ds:=by
 cases x with
 | cons a b=>exact ⟨_,_,rfl,a,b⟩
theorem La {n:Nat} (h:n<=1048576):n<=sizeLine:=US h (by decide)
section
variable {P:Params} {h:Heap}
mutual
theorem NZ:∀ (d:WData) (v:Value),Well P h v d->LF d=true->d.weight<=1048576->∃ A:List Addr,MK A v/\∀ a∈A,wU h A a
 | .none,_,x,_,_=>by
  cases x
  exact ⟨[],trivial,λa m=>absurd m (by simp)⟩
 | .bool b,_,x,_,_=>by
  cases x
  exact ⟨[],trivial,λa m=>absurd m (by simp)⟩
 | .int i,_,x,_,_=>by
  cases x
  exact ⟨[],trivial,λa m=>absurd m (by simp)⟩
 | .str s,_,x,_,_=>by
  cases x
  exact ⟨[],trivial,λa m=>absurd m (by simp)⟩
 | .bytes b,_,x,_,_=>by
  cases x
  exact ⟨[],trivial,λa m=>absurd m (by simp)⟩
 | .list ds,_,x,p,z=>by
  obtain ⟨a,vs,rfl,ho,hall⟩:=Gh x
  have z2:WData.weightAll ds<=1048576:=z
  obtain ⟨A,h1,h2⟩:=Bt ds _ hall p λd hd=>US (zQ hd) z2
  have k:∀ b∈A,b∈a::A:=λb hb=>U2 _ hb
  refine ⟨a::A,UZ ..,λb hb=>?_⟩
  rcases UL.mp hb with e | m
  ·rw [e]
   exact ⟨vs,La (by rw [tL hall];exact US (PySem.W.length_le_weightAllW ds) z2),λu hu=>(h1 u hu).mono k,.inl ho⟩
  ·exact (h2 b m).mono k
 | .tuple ds,_,x,p,z=>by
  obtain ⟨a,vs,rfl,ho,hall⟩:=Eo x
  have z2:WData.weightAll ds<=1048576:=z
  obtain ⟨A,h1,h2⟩:=Bt ds _ hall p λd hd=>US (zQ hd) z2
  have k:∀ b∈A,b∈a::A:=λb hb=>U2 _ hb
  refine ⟨a::A,UZ ..,λb hb=>?_⟩
  rcases UL.mp hb with e | m
  ·rw [e]
   exact ⟨vs,La (by rw [tL hall];exact US (PySem.W.length_le_weightAllW ds) z2),λu hu=>(h1 u hu).mono k,.inr ho⟩
  ·exact (h2 b m).mono k
 | .float _,_,_,p,_=>VF (show false=true from p)
 | .dict _,_,_,p,_=>VF (show false=true from p)
 | .bytearray _,_,_,p,_=>VF (show false=true from p)
 | .set _,_,_,p,_=>VF (show false=true from p)
 | .frozenset _,_,_,p,_=>VF (show false=true from p)
 | .obj _ _,_,_,p,_=>VF (show false=true from p)
theorem Bt:∀ (ds:List WData) (vs:List Value),WellAll P h vs ds->Dg ds=true->(∀ d∈ds,d.weight<=1048576)->∃ A:List Addr,(∀ u∈vs,MK A u)/\∀ a∈A,wU h A a
 | [],_,x,_,_=>by
  cases x
  exact ⟨[],λu m=>absurd m (by simp),λa m=>absurd m (by simp)⟩
 | d::ds,_,x,p,z=>by
  obtain ⟨v,vs,rfl,x1,x2⟩:=Gg x
  have q:LF d=true/\Dg ds=true:=Bool.and_eq_true_iff.mp p
  obtain ⟨A,a1,a2⟩:=NZ d v x1 q.1 (z d (UZ ..))
  obtain ⟨B,b1,b2⟩:=Bt ds vs x2 q.2 λe he=>z e (U2 _ he)
  have kA:∀ b∈A,b∈A++B:=λb hb=>VW.mpr (.inl hb)
  have kB:∀ b∈B,b∈A++B:=λb hb=>VW.mpr (.inr hb)
  refine ⟨A++B,λu hu=>?_,λb hb=>?_⟩
  ·rcases UL.mp hu with e | m
   ·rw [e]
    exact a1.mono kA
   ·exact (b1 u m).mono kB
  ·rcases VW.mp hb with m | m
   ·exact (a2 b m).mono kA
   ·exact (b2 b m).mono kB
end
end
def Pd (o:Obj):Option HO:=match o.data with
 | .seq vs _=>if (o.cls == Value.type "list")=true then some (.frz o (.lst (vs.toList.map toV))) else some (.frz o (.tup (vs.toList.map toV)))
 | _=>none
def wo (K:Uy) (h:Heap) (A:List Addr):Hp:=λb=>if b∈A then (if (K.lookup b).isNone=true then (h.get? b).bind Pd else none) else none
def Jn (H:Hp):Prop:=∀ b,H b=none∨∃ o u,H b=some (.frz o u)
theorem JB (vs:List Value):Pd { cls:=.type "list",data:=.seq vs.toArray }=some (.frz { cls:=.type "list",data:=.seq vs.toArray } (.lst (vs.map toV))):=by
 show (if (Value.type "list" == Value.type "list")=true then some (HO.frz { cls:=.type "list",data:=.seq vs.toArray } (.lst (vs.toArray.toList.map toV))) else some (HO.frz { cls:=.type "list",data:=.seq vs.toArray } (.tup (vs.toArray.toList.map toV))))=_
 rw [if_pos (beq_self_eq_true _)]
theorem IP (vs:List Value):Pd { cls:=.type "tuple",data:=.seq vs.toArray }=some (.frz { cls:=.type "tuple",data:=.seq vs.toArray } (.tup (vs.map toV))):=by
 show (if (Value.type "tuple" == Value.type "list")=true then some (HO.frz { cls:=.type "tuple",data:=.seq vs.toArray } (.lst (vs.toArray.toList.map toV))) else some (HO.frz { cls:=.type "tuple",data:=.seq vs.toArray } (.tup (vs.toArray.toList.map toV))))=_
 rw [if_neg (by decide)]
section
variable {P:Program} {w:World} {K:Uy} {h:Heap} {A:List Addr}
theorem DD {b:Addr} {o:Obj} (hb:b∈A) (hk:K.lookup b=none) (e:h.get? b=some o):wo K h A b=Pd o:=by
 unfold wo
 rw [if_pos hb,hk,if_pos (show (none:Option Obj).isNone=true from rfl),e]<;>rfl
theorem Ph {b:Addr} {u:HO} (q:wo K h A b=some u):b∈A/\K.lookup b=none:=by
 unfold wo at q
 by_cases hb:b∈A
 ·rw [if_pos hb] at q
  cases hk:K.lookup b with
  | none=>exact ⟨hb,rfl⟩
  | some o =>
   rw [hk,if_neg (by simp)] at q
   cases q
 ·rw [if_neg hb] at q
  cases q
theorem DE (ar:∀ a∈A,wU h A a) {b:Addr} {u:HO} (q:wo K h A b=some u):K.lookup b=none/\∃ vs:List Value,vs.length<=sizeLine/\(∀ u∈vs,MK A u) /\
    ((h.get? b=some { cls:=.type "list",data:=.seq vs.toArray }/\u=.frz { cls:=.type "list",data:=.seq vs.toArray } (.lst (vs.map toV))) ∨
     (h.get? b=some { cls:=.type "tuple",data:=.seq vs.toArray }/\u=.frz { cls:=.type "tuple",data:=.seq vs.toArray } (.tup (vs.map toV)))):=by
  obtain ⟨hb,hk⟩:=Ph q
  obtain ⟨vs,h1,h2,h3⟩:=ar b hb
  refine ⟨hk,vs,h1,h2,?_⟩
  rcases h3 with e | e
  · rw [DD hb hk e,JB] at q
    exact .inl ⟨e,(Option.some.inj q).symm⟩
  · rw [DD hb hk e,IP] at q
    exact .inr ⟨e,(Option.some.inj q).symm⟩
theorem MA (ar:∀ a∈A,wU h A a):Jn (wo K h A):=λb=>by
 cases q:wo K h A b with
 | none=>exact .inl rfl
 | some u =>
  obtain ⟨_,vs,_,_,⟨_,e⟩ | ⟨_,e⟩⟩:=DE ar q
  ·exact .inr ⟨_,_,by rw [e]⟩
  ·exact .inr ⟨_,_,by rw [e]⟩
theorem PN (ar:∀ a∈A,wU h A a):xE P w (wo K h A) h:=λb u q=>by
 obtain ⟨_,vs,h1,h2,⟨e,rfl⟩ | ⟨e,rfl⟩⟩:=DE ar q
 ·exact ⟨e,by rw [UA];exact h1,vs,_,vG h2,e⟩
 ·exact ⟨e,by rw [UA];exact h1,vs,vG h2,_,e,rfl,_,rfl⟩
theorem DF {c c':Value} {vs us:List Value} (e:(some { cls:=c,data:=.seq vs.toArray }:Option Obj)=some { cls:=c',data:=.seq us.toArray }):c=c'/\vs=us:=by
 have e1:=Option.some.inj e
 have e2:c=c':=congrArg Obj.cls e1
 have e3:Data.seq vs.toArray=Data.seq us.toArray:=congrArg Obj.data e1
 injection e3 with e4
 refine ⟨e2,?_⟩
 have e5:=congrArg Array.toList e4
 simpa using e5
theorem TN (KX:K.In h) (ar:∀ a∈A,wU h A a) {a:Addr} {vs:List Value} (ha:a∈A) (e:h.get? a=some { cls:=.type "list",data:=.seq vs.toArray }):(∀ u∈vs,MK A u)/\bf K (wo K h A) a (vs.map toV):=by
 obtain ⟨us,h1,h2,h3⟩:=ar a ha
 have hu:us=vs:=by
  rcases h3 with q | q
  ·rw [e] at q
   exact (DF q).2.symm
  ·rw [e] at q
   exact absurd (Value.type.inj (DF q).1) (by decide)
 subst hu
 refine ⟨h2,?_⟩
 cases hk:K.lookup a with
 | none=>exact .inl (.inr ⟨_,by rw [DD ha hk e,JB]⟩)
 | some o =>
  have e2:=KX a o hk
  rw [e] at e2
  obtain rfl:=Option.some.inj e2
  exact .inr ⟨_,us.toArray,_,hk,rfl,rfl,rfl,by rw [UX];exact h1,by simpa using vG h2⟩
theorem Ud (KX:K.In h) (ar:∀ a∈A,wU h A a) {a:Addr} {vs:List Value} (ha:a∈A) (e:h.get? a=some { cls:=.type "tuple",data:=.seq vs.toArray }):(∀ u∈vs,MK A u)/\gc K (wo K h A) a (vs.map toV):=by
 obtain ⟨us,h1,h2,h3⟩:=ar a ha
 have hu:us=vs:=by
  rcases h3 with q | q
  ·rw [e] at q
   exact absurd (Value.type.inj (DF q).1) (by decide)
  ·rw [e] at q
   exact (DF q).2.symm
 subst hu
 refine ⟨h2,?_⟩
 cases hk:K.lookup a with
 | none=>exact .inl (.inr ⟨_,by rw [DD ha hk e,IP]⟩)
 | some o =>
  have e2:=KX a o hk
  rw [e] at e2
  obtain rfl:=Option.some.inj e2
  exact .inr ⟨_,us.toArray,_,hk,rfl,rfl,by rw [UX];exact h1,by simpa using vG h2⟩
mutual
theorem Q9 {Pm:Params} (KX:K.In h) (ar:∀ a∈A,wU h A a):∀ (d:WData) (v:Value),Well Pm h v d->LF d=true->MK A v->Dw K (wo K h A) (toV v) d
 | .none,_,x,_,_=>by
  cases x
  exact .dH
 | .bool b,_,x,_,_=>by
  cases x
  exact .bl b
 | .int i,_,x,_,_=>by
  cases x
  exact .int i
 | .str s,_,x,_,_=>by
  cases x
  exact .str s
 | .bytes b,_,x,_,_=>by
  cases x
  have z:=Dw.Im (K:=K) (H:=wo K h A) b.toArray
  exact z
 | .list ds,_,x,p,hu=>by
  obtain ⟨a,vs,rfl,ho,hall⟩:=Gh x
  obtain ⟨h2,hs⟩:=TN KX ar hu ho
  exact .lst hs (HN KX ar ds _ hall p h2)
 | .tuple ds,_,x,p,hu=>by
  obtain ⟨a,vs,rfl,ho,hall⟩:=Eo x
  obtain ⟨h2,hs⟩:=Ud KX ar hu ho
  exact .tup hs (HN KX ar ds _ hall p h2)
 | .float _,_,_,p,_=>VF (show false=true from p)
 | .dict _,_,_,p,_=>VF (show false=true from p)
 | .bytearray _,_,_,p,_=>VF (show false=true from p)
 | .set _,_,_,p,_=>VF (show false=true from p)
 | .frozenset _,_,_,p,_=>VF (show false=true from p)
 | .obj _ _,_,_,p,_=>VF (show false=true from p)
theorem HN {Pm:Params} (KX:K.In h) (ar:∀ a∈A,wU h A a):∀ (ds:List WData) (vs:List Value),WellAll Pm h vs ds->Dg ds=true->(∀ u∈vs,MK A u)->wV K (wo K h A) (vs.map toV) ds
 | [],_,x,_,_=>by
  cases x
  exact .nil
 | d::ds,_,x,p,hu=>by
  obtain ⟨v,vs,rfl,x1,x2⟩:=Gg x
  have q:LF d=true/\Dg ds=true:=Bool.and_eq_true_iff.mp p
  exact .cons (Q9 KX ar d v x1 q.1 (hu _ (UZ ..))) (HN KX ar ds vs x2 q.2 λu m=>hu u (U2 _ m))
end
end
theorem L0 {P:Program} {w:World} {K:Uy} {mg mb:Str->Option Value} {CX:Ow} {k:Nat} {fa:Addr} {fd:FuncData} {ps:List Str} {sp:Sp} {s₁:Shared} {vals:List Value} {ds:List WData} {R:PySem.W.WRecords} {cl:Str->Option Addr} {d0:WData}
  (KX:K.In s₁.heap) (hns:s₁.heap.Ns mainGlobals mg) (hb:s₁.heap.Ns builtinsNs mb) (hbb:∀ x:Str,x≠"__name__"->mb x=bootBuiltins x) (hlim:s₁.heap.NoLimit) (hg:s₁.gens=#[])
  (hwl:WellAll w.params s₁.heap vals ds) (hpl:Dg ds=true) (hwt:∀ d∈ds,d.weight<=1048576) (hr:l3 k callerA)
  (F:∀ base:Heap,K.In base->base.Ns mainGlobals mg->a8 P w K mg base CX k fa fd ps sp) (hbind:∀ (s:Shared) (us:List Value),us.length=ps.length->BindsTo s fd ⟨us,[]⟩ (ps.zip us)) (hlen:ds.length=ps.length)
  (hsp:∀ (H:Hp) (xs:List V),Jn H->wV K H xs ds->sp xs H (λv H'=>Dw K H' v d0) λ_ _ _=>False)
  (hCX:∀ H e s',CX [] H s₁ (λ_ _ _=>False) e s'->False) :
  codeAny (model P w) callerA (.call (.ref fa) ⟨vals,[]⟩) (λr s'=>∃ u as,r=.ok (.ret u)/\ReadsW R cl s'.heap u d0 as/\OldK s₁.heap s'.heap/\s'.os=s₁.os/\AllBare s'.gens) s₁:=by
 obtain ⟨A,ho,ar⟩:=Bt ds vals hwl hpl hwt
 have hO:Jn (wo K s₁.heap A):=MA ar
 have dz:xE P w (wo K s₁.heap A) s₁.heap:=PN ar
 have hS:=HN KX ar ds vals hwl hpl ho
 have hV:=vG ho
 have hK:∀ b u,wo K s₁.heap A b=some u->K.lookup b=none:=λb u q=>(DE ar q).1
 have noA:∀ {b:Addr} {o:Obj} {es:Array DictEntry} {ep:Nat},s₁.heap.get? b=some o->o.data=.dict es ep->wo K s₁.heap A b=none:=λ{b o es ep} e d=>by
  cases q:wo K s₁.heap A b with
  | none=>rfl
  | some u =>
   obtain ⟨_,vs,_,_,⟨e2,_⟩ | ⟨e2,_⟩⟩:=DE ar q
   ·rw [e2] at e
    cases e
    have d':Data.seq vs.toArray _=Data.dict es ep:=d
    cases d'
   ·rw [e2] at e
    cases e
    have d':Data.seq vs.toArray _=Data.dict es ep:=d
    cases d'
 generalize wo K s₁.heap A=H at hO dz hS hK noA
 have base_of:∀ {b:Addr} {o:Obj},s₁.heap.get? b=some o->H b=none->(HP s₁.heap H).get? b=some o:=λe n=>Nu e n
 have nsK:∀ {b:Addr} {m:Str->Option Value},s₁.heap.Ns b m->(HP s₁.heap H).Ns b m:=λ{b m} ⟨o,es,ep,e,d,r⟩=>⟨o,es,ep,base_of e (noA e d),d,r⟩
 have nK:∀ b o,K.lookup b=some o->H b=none:=λb o e=>by
  cases q:H b with
  | none=>rfl
  | some u =>
   rw [hK b u q] at e
   cases e
 have hKb:K.In (HP s₁.heap H):=λb o e=>base_of (KX b o e) (nK b o e)
 have hM:Mod K mg (HP s₁.heap H):=⟨hKb,nsK hns,⟨mb,nsK hb,hbb⟩,let ⟨mc,h1,h2⟩:=hlim;⟨mc,nsK h1,h2⟩⟩
 have e0:KD P w K mg (HP s₁.heap H) callerA [] s₁ H:=⟨rfl,hM,λb o e=>PB e,Nat.le_of_eq (Mw _ _),trivial,λb hb=>absurd (show b∈([]:List Addr) from hb) (by simp),dz,.of_eq hg⟩
 have hl:vals.length=ps.length:=by rw [tL hwl];exact hlen
 refine codeAny_mono ((F _ hKb (nsK hns)).run callerA [] s₁ H ⟨vals,[]⟩ vals (vals.map toV) _ _ hr e0 (hbind s₁ vals hl) hV (hsp H _ hO hS)) λr s' x=>?_
 cases r with
 | error e=>exact (hCX H e s' x).elim
 | ok fl =>
  cases fl with
  | next=>exact False.elim x
  | brk=>exact False.elim x
  | cont=>exact False.elim x
  | ret u =>
   obtain ⟨v,H',os,bare,un,hok',r',q⟩:=x
   have kept:∀ b o,s₁.heap.get? b=some o->s'.heap.get? b=some o:=λb o e=>by
    cases q2:H b with
    | none=>exact un.keep b o e q2 (by intro z;exact absurd (show b∈([]:List Addr) from z) (by simp)) (by simp)
    | some u2 =>
     rcases hO b with z | ⟨ob,u3,z⟩
     ·rw [q2] at z
      cases z
     ·have z2:=un.Ci b ob _ z
      obtain ⟨e1,_⟩:=dz b _ z
      obtain ⟨e2,_⟩:=hok' b _ z2
      rw [e] at e1
      cases e1
      exact e2
   have KX':K.In s'.heap:=λb o e=>kept b o (KX b o e)
   obtain ⟨as,pS⟩:=Dw.reads (R:=R) (cl:=cl) hok' KX' d0 v u q r'
   exact ⟨u,as,rfl,pS,OldK.of_keep kept,os,bare⟩
theorem Eh {ds:List WData} (h:WData.layableAll ds=true):∀ d∈ds,d.weight<=1048576:=λd hd =>
 (PySem.W.layableW_iff.mp (WG.mp h d hd)).2.2
theorem Ec:∀ (cs:List Codec) (a:Codec.denoteAll cs),(Codec.encAll cs a).length=cs.length
 | [],_=>rfl
 | c::cs,a=>by
  show (Codec.encAll cs a.2).length+1=cs.length+1
  rw [Ec cs a.2]
theorem MR {r:OpenSpec} {k:Nat} {q:Program} {loose:List Str} {XP:(Str->Option Value)->Heap->Prop} {YP:World->Heap->Prop} {d:DefRec} {K:Params->Uy} {CX:World->Ow} {ps:List Str} {sp:World->Sp}
  (hwell:r.wellSaid=true) (hdf:d.params.defaults=[]) (hlen:r.args.length=ps.length) (hr:l3 k callerA)
  (hY:∀ (w:World) (h:Heap),YP w h->(K w.params).In h)
  (F:∀ (w:World) (mg:Str->Option Value) (fa:Addr) (h:Heap),YP w h->(K w.params).In h->h.Ns mainGlobals mg->mg d.name=some (.ref fa) ->
   ∃ fd:FuncData,(∀ (s:Shared) (us:List Value),us.length=ps.length->BindsTo s fd ⟨us,[]⟩ (ps.zip us)) /\
    ∀ base:Heap,(K w.params).In base->base.Ns mainGlobals mg->a8 r.prog w (K w.params) mg base (CX w) k fa fd ps (sp w))
  (hsp:∀ (w:World) (H:Hp) (xs:List V) (a:Codec.denoteAll r.args),Jn H->Codec.withinAll r.args a=true->Codec.app r.args r.asked a=true->wV (K w.params) H xs (Codec.encAll r.args a) ->
   sp w xs H (λv H'=>Dw (K w.params) H' v (r.ret.enc (Codec.app r.args r.f a))) λ_ _ _=>False)
  (hCX:∀ (w:World) (H:Hp) (s:Shared) (e:Value) (s':Shared),CX w [] H s (λ_ _ _=>False) e s'->False) :
  PySem.W.WalkOS q loose XP YP r d [] (λf vs=>PySem.call f vs):=by
 intro w F6 s₁ mg mb G Y fa o pm cd doc dV kV ho hd hcd hD hmg hg args vals as hpre hlay pS hwl hlo
 obtain ⟨a,e1,e2⟩:=PySem.W.os_pre_some hpre
 obtain ⟨e3,hwi⟩:=Codec.encAll_of_decAll r.args args a e1
 subst e3
 have KX:=hY w _ Y
 obtain ⟨fd,hb,hF⟩:=F w mg fa _ Y KX G.T.g hmg
 refine PySem.W.enter_call (codeAny_mono (L0 (R:=[]) (cl:=classAt F6.heap) (d0:=r.ret.enc (Codec.app r.args r.f a)) KX G.T.g G.T.b G.T.builtins G.T.nolimit hg hwl (FW _ _) (Eh hlay) hr hF hb (by rw [Ec];exact hlen)
  (λH xs hO hS=>hsp w H xs a hO hwi e2 hS) λH e s'=>hCX w H s₁ e s') λr' s' hq=>?_)
 obtain ⟨u,as',rfl,h1,h2,h3,h4⟩:=hq
 exact ⟨.inl ⟨u,_,as',rfl,λ_=>rfl,h1,(OpenSpec.post_iff hwell hwi _ _).mpr rfl,λz=>VF (show false=true from z)⟩,h2,h3,h4⟩
theorem Kp {r:OpenSpec} {k:Nat} {q:Program} {loose:List Str} {XP:(Str->Option Value)->Heap->Prop} {YP:World->Heap->Prop} {d:DefRec} {K:Params->Uy} {CX:Ow} {ps:List Str} {sp:Uy->Sp}
  (hwell:r.wellSaid=true) (hdf:d.params.defaults=[]) (hlen:r.args.length=ps.length) (hr:l3 k callerA)
  (hY:∀ (w:World) (h:Heap),YP w h->(K w.params).In h)
  (F:∀ (w:World) (mg:Str->Option Value) (fa:Addr) (h:Heap),YP w h->(K w.params).In h->h.Ns mainGlobals mg->mg d.name=some (.ref fa) ->
   ∃ fd:FuncData,(∀ (s:Shared) (us:List Value),us.length=ps.length->BindsTo s fd ⟨us,[]⟩ (ps.zip us)) /\
    ∀ base:Heap,(K w.params).In base->base.Ns mainGlobals mg->a8 r.prog w (K w.params) mg base CX k fa fd ps (sp (K w.params)))
  (hsp:∀ (K:Uy) (H:Hp) (xs:List V) (a:Codec.denoteAll r.args),Jn H->Codec.withinAll r.args a=true->Codec.app r.args r.asked a=true->wV K H xs (Codec.encAll r.args a) ->
   sp K xs H (λv H'=>Dw K H' v (r.ret.enc (Codec.app r.args r.f a))) λ_ _ _=>False)
  (hCX:∀ (H:Hp) (s:Shared) (e:Value) (s':Shared),CX [] H s (λ_ _ _=>False) e s'->False) :
  PySem.W.WalkOS q loose XP YP r d [] (λf vs=>PySem.call f vs) :=
 MR (K:=K) (CX:=λ_=>CX) (sp:=λw=>sp (K w.params)) hwell hdf hlen hr hY F (λw H xs a h1 h2 h3 h4=>hsp (K w.params) H xs a h1 h2 h3 h4) λ_ H s e s'=>hCX H s e s'
end L2
end
namespace HR
theorem Uj:0<=WI:=by decide
theorem nz:1<=WI:=by decide
theorem Ob:2<=WI:=by decide
theorem RO:3<=WI:=by decide
theorem Tt:4<=WI:=by decide
theorem Up:5<=WI:=by decide
end HR
namespace HR
open PySem PySem.Spec PyProof.Rows L2
def top (i:Nat):Stmt:=PySem.Challenge.pw_halvedruns_s01_answers.main.body.getD i (.Pass ⟨0,0,0,0⟩)
abbrev tV:Stmt:=top 5
abbrev tf:Stmt:=inClass (top 6) 0
abbrev oI:Stmt:=inClass (top 6) 1
abbrev rN:Stmt:=inClass (top 7) 0
abbrev oo:Stmt:=inClass (top 7) 1
abbrev eh:Stmt:=inClass (top 7) 2
abbrev qV:Stmt:=inClass (top 7) 3
abbrev qF:Stmt:=inClass (top 7) 4
abbrev ic:Stmt:=inClass (top 7) 5
abbrev yw:Stmt:=inClass (top 9) 0
abbrev xZ:Stmt:=inClass (top 9) 1
abbrev pw:Stmt:=inClass (top 9) 2
abbrev gk:Stmt:=inClass (top 9) 3
abbrev yb:Stmt:=inClass (top 9) 4
abbrev pW:Stmt:=inClass (top 11) 0
abbrev nQ:Stmt:=inClass (top 11) 1
abbrev nB:Stmt:=inClass (top 11) 2
abbrev fJ:Stmt:=inClass (top 11) 3
abbrev kg:Stmt:=inClass (top 11) 4
abbrev oG:Stmt:=inClass (top 11) 5
abbrev lR:Stmt:=inClass (top 11) 6
abbrev j2:Stmt:=inClass (top 11) 7
abbrev qO:Stmt:=inClass (top 11) 8
abbrev uT:Stmt:=inClass (top 11) 9
abbrev eM:Stmt:=inClass (top 11) 10
abbrev fi:Stmt:=inClass (top 11) 11
abbrev dE:Stmt:=inClass (top 11) 12
abbrev eL:Stmt:=inClass (top 11) 13
abbrev jg:Stmt:=inClass (top 11) 14
abbrev vi:Stmt:=inClass (top 11) 15
abbrev pC:Stmt:=inClass (top 11) 16
abbrev jZ:Stmt:=inClass (top 11) 17
abbrev je:Stmt:=inClass (top 11) 18
abbrev iy:Stmt:=inClass (top 11) 19
abbrev j8:Stmt:=inClass (top 11) 20
abbrev pk:Stmt:=inClass (top 11) 21
abbrev eF:Stmt:=inClass (top 11) 22
abbrev yE:Stmt:=inClass (top 14) 0
abbrev yU:Stmt:=inClass (top 15) 0
abbrev sF:Stmt:=inClass (top 15) 1
abbrev Al:Stmt:=inClass (top 15) 2
abbrev qL:Stmt:=inClass (top 15) 3
abbrev uS:Stmt:=inClass (top 15) 4
abbrev fX:Stmt:=inClass (top 15) 5
abbrev sY:Stmt:=top 29
abbrev ye:Stmt:=top 32
abbrev yD:Stmt:=top 33
abbrev xR:Stmt:=top 34
abbrev rZ:Stmt:=top 35
abbrev uC:Stmt:=top 36
abbrev vZ:Stmt:=top 37
abbrev mG:Stmt:=top 38
abbrev wj:Stmt:=top 39
abbrev xx:Stmt:=top 40
abbrev xu:Stmt:=top 41
abbrev uJ:Stmt:=top 42
abbrev uF:Stmt:=top 43
abbrev xJ:Stmt:=top 44
abbrev ph:Stmt:=top 46
abbrev pT:Stmt:=top 53
abbrev rC:Stmt:=top 54
abbrev lS:Stmt:=top 55
abbrev tT:Stmt:=top 56
abbrev yW:Stmt:=top 57
abbrev qP:Stmt:=top 58
abbrev GS:Stmt:=top 59
abbrev zN:Stmt:=inClass (top 60) 0
abbrev sS:Stmt:=inClass (top 60) 1
abbrev mN:Stmt:=inClass (top 60) 2
abbrev sI:Stmt:=inClass (top 60) 3
abbrev wD:Stmt:=inClass (top 62) 0
abbrev wz:Stmt:=top 63
abbrev Am:Stmt:=top 64
abbrev JX:Stmt:=top 65
abbrev z9:Stmt:=top 66
abbrev xm:Stmt:=top 67
abbrev u0:Stmt:=top 68
abbrev rR:Stmt:=top 69
abbrev yT:Stmt:=top 70
abbrev mO:Stmt:=top 71
abbrev z4:Stmt:=top 72
abbrev nI:Stmt:=top 73
abbrev rK:Stmt:=top 74
abbrev yc:Stmt:=top 75
abbrev um:Stmt:=top 76
abbrev sA:Stmt:=top 77
abbrev xp:Stmt:=top 78
abbrev rG:Stmt:=top 79
abbrev EF:Stmt:=top 82
abbrev ur:Stmt:=inClass (top 85) 0
abbrev pD:Stmt:=inClass (top 85) 1
abbrev ka:Stmt:=inClass (top 85) 2
abbrev nD:Stmt:=inClass (top 85) 3
abbrev pN:Stmt:=top 86
abbrev Ca:Stmt:=top 87
structure bI where
 bH:Addr
 ay:Addr
 bB:Addr
 aw:Addr
 bK:Addr
 bh:Addr
 jz:Addr
 aL:Addr
 bX:Addr
 qi:Addr
 qw:FuncData
 km:Addr
 kG:FuncData
 gm:Addr
 gO:FuncData
 kJ:Addr
 kj:FuncData
 gE:Addr
 gi:FuncData
 bL:Addr
 bN:FuncData
 jw:Addr
 jE:FuncData
 jC:Addr
 jD:FuncData
 cu:Addr
 cB:FuncData
 p8:Addr
 p6:FuncData
 qb:Addr
 p4:FuncData
 i3:Addr
 iS:FuncData
 ed:Addr
 d8:FuncData
 qp:Addr
 qh:FuncData
 l7:Addr
 l5:FuncData
 gu:Addr
 gz:FuncData
 gI:Addr
 gy:FuncData
 bY:Addr
 bV:FuncData
 ef:Addr
 dY:FuncData
 gN:Addr
 gJ:FuncData
 eV:Addr
 fe:FuncData
 gK:Addr
 gF:FuncData
 jx:Addr
 jB:FuncData
 lY:Addr
 mr:FuncData
 cM:Addr
 cO:FuncData
 dw:Addr
 df:FuncData
 b6:Addr
 b5:FuncData
 cI:Addr
 cP:FuncData
 di:Addr
 cV:FuncData
 me:Addr
 mm:FuncData
 iF:Addr
 iQ:FuncData
 gC:Addr
 gL:FuncData
 du:Addr
 cZ:FuncData
 cJ:Addr
 cK:FuncData
 d9:Addr
 d7:FuncData
 iI:Addr
 iP:FuncData
 cQ:Addr
 cR:FuncData
 p5:Addr
 qx:FuncData
 p9:Addr
 qv:FuncData
 kb:Addr
 kY:FuncData
 su:Addr
 sj:FuncData
 jr:Addr
 jF:FuncData
 mq:Addr
 l8:FuncData
 dI:Addr
 dG:FuncData
 j9:Addr
 kM:FuncData
 qu:Addr
 p7:FuncData
 kf:Addr
 mX:FuncData
 k8:Addr
 mU:FuncData
 fC:Addr
 i0:FuncData
 gX:Addr
 jL:FuncData
 jh:Addr
 lJ:FuncData
 fB:Addr
 fD:FuncData
 ji:Addr
 lI:FuncData
 kI:Addr
 nj:FuncData
 kO:Addr
 mS:FuncData
 gZ:Addr
 jJ:FuncData
 gW:Addr
 jM:FuncData
 kR:Addr
 mV:FuncData
 iB:Addr
 iE:FuncData
 mx:Addr
 l9:FuncData
 ow:Addr
 nA:FuncData
 eU:Addr
 eZ:FuncData
 ql:Addr
 qo:FuncData
 qd:Addr
 qe:FuncData
 jt:Addr
 ju:FuncData
 AU:Addr
 AG:FuncData
 sX:Addr
 rV:FuncData
 kN:Addr
 la:FuncData
 fQ:Addr
 fE:FuncData
 lg:Addr
 k7:FuncData
 nZ:Addr
 nE:FuncData
 jn:Addr
 lH:FuncData
 mI:Addr
 pH:FuncData
 Es:Addr
 Fm:FuncData
 mE:Addr
 o8:FuncData
 kK:Addr
 m8:FuncData
 ia:Addr
 jH:FuncData
 kS:Addr
 lp:FuncData
 k9:Addr
 m9:FuncData
 fR:Addr
 fF:FuncData
 mD:Addr
 o9:FuncData
 gq:Addr
 gr:FuncData
 fL:Addr
 iO:FuncData
 kT:Addr
 ni:FuncData
 gT:Addr
 jI:FuncData
 kn:Addr
 kz:FuncData
 j6:Addr
 mR:FuncData
 jj:Addr
 lB:FuncData
 yt:Addr
 yR:FuncData
 mi:Addr
 mh:FuncData
 iW:Addr
 iG:FuncData
 ej:Addr
 et:FuncData
 gn:Addr
 gA:FuncData
 mv:Addr
 mj:FuncData
 vx:Addr
 pA:FuncData
 dA:Addr
 rF:Addr
 bQ:Addr
 qa:Addr
structure Txt (K:Uy) (mg:Str->Option Value) (a:bI):Prop where
 eG:Fs K a.bH
 ly:mg "Opening"=some (.ref a.bH)
 BC:Mk K a.bH a.km
 qN:bg K a.bH "hosts"
 lh:bg K a.bH "turn_asked"
 qG:bg K a.bH "asked"
 sk:bg K a.bH "lost"
 aA:Fs K a.ay
 cn:mg "Dispute"=some (.ref a.ay)
 Cg:Mk K a.ay a.kJ
 aY:bg K a.ay "hosts"
 dN:bg K a.ay "low_turn"
 lx:bg K a.ay "agreed"
 dy:bg K a.ay "high_turn"
 bC:bg K a.ay "turn_asked"
 jy:bg K a.ay "asked"
 lT:bg K a.ay "questions"
 sf:bg K a.ay "lost"
 dC:bg K a.ay "ended"
 bP:Fs K a.bB
 qA:mg "Host"=some (.ref a.bB)
 J4:Mk K a.bB a.p8
 dW:bg K a.bB "stake"
 mH:bg K a.bB "out"
 eN:bg K a.bB "tellings"
 lK:bg K a.bB "heard"
 au:Fs K a.aw
 bb:mg "Affair"=some (.ref a.aw)
 EM:Mk K a.aw a.l7
 gM:bg K a.aw "run"
 fW:bg K a.aw "turns"
 eK:bg K a.aw "losses_allowed"
 bw:bg K a.aw "hosts"
 lq:bg K a.aw "opening"
 bS:bg K a.aw "disputes"
 oR:bg K a.aw "purse"
 cF:bg K a.aw "end_found"
 dD:Fs K a.bK
 uU:mg "Word"=some (.ref a.bK)
 ET:Mk K a.bK a.p5
 iY:bg K a.bK "dispute"
 kZ:bg K a.bK "host"
 kh:bg K a.bK "turn"
 lz:bg K a.bK "state"
 bO:Fs K a.bh
 oF:mg "Line"=some (.ref a.bh)
 Ia:Mk K a.bh a.p9
 bp:bg K a.bh "words"
 tU:bg K a.bh "made"
 yh:bg K a.bh "came"
 xI:bg K a.bh "lost"
 mW:Fs K a.jz
 AX:mg "Run"=some (.ref a.jz)
 OH:Mk K a.jz a.sX
 rp:bg K a.jz "orders"
 lE:bg K a.jz "states"
 aR:Fs K a.aL
 y3:mg "Bench"=some (.ref a.aL)
 Hi:Mk K a.aL a.nZ
 aX:bg K a.aL "line"
 aI:bg K a.aL "affair"
 dF:Fs K a.bX
 oM:mg "Reader"=some (.ref a.bX)
 E4:Mk K a.bX a.mi
 nJ:bg K a.bX "calls"
 fT:bg K a.bX "place"
 m7:eO K "no_asking" "no_asking" tV a.qi a.qw
 qc:Binds K a.qw ["hosts"] []
 qg:mg "no_asking"=some (.ref a.qi)
 rO:eO K "__init__" "Opening.__init__" tf a.km a.kG
 sD:Binds K a.kG ["self","turns","n"] []
 nq:eO K "is_open" "Opening.is_open" oI a.gm a.gO
 nR:Binds K a.gO ["self"] []
 nF:Meth K a.bH "is_open" a.gm
 sJ:eO K "__init__" "Dispute.__init__" rN a.kJ a.kj
 sN:Binds K a.kj ["self","first","second","beginning","turns"] []
 nN:eO K "is_open" "Dispute.is_open" oo a.gE a.gi
 eE:Binds K a.gi ["self"] []
 eI:Meth K a.ay "is_open" a.gE
 ee:eO K "is_down_to_one_turn" "Dispute.is_down_to_one_turn" eh a.bL a.bN
 cg:Binds K a.bN ["self"] []
 ck:Meth K a.ay "is_down_to_one_turn" a.bL
 qM:eO K "other" "Dispute.other" qV a.jw a.jE
 mB:Binds K a.jE ["self","host"] []
 mC:Meth K a.ay "other" a.jw
 qU:eO K "halve" "Dispute.halve" qF a.jC a.jD
 qy:Binds K a.jD ["self","first_said","second_said"] []
 qE:Meth K a.ay "halve" a.jC
 gY:eO K "ask_for_middle" "Dispute.ask_for_middle" ic a.cu a.cB
 gR:Binds K a.cB ["self"] []
 gU:Meth K a.ay "ask_for_middle" a.cu
 xO:eO K "__init__" "Host.__init__" yw a.p8 a.p6
 xD:Binds K a.p6 ["self","stake"] []
 xP:eO K "tell" "Host.tell" xZ a.qb a.p4
 x9:Binds K a.p4 ["self","turn","state"] []
 yC:Meth K a.bB "tell" a.qb
 pB:eO K "take_back" "Host.take_back" pw a.i3 a.iS
 pq:Binds K a.iS ["self","turn"] []
 pb:Meth K a.bB "take_back" a.i3
 kd:eO K "how_much_told" "Host.how_much_told" gk a.ed a.d8
 dZ:Binds K a.d8 ["self"] []
 eg:Meth K a.bB "how_much_told" a.ed
 yu:eO K "says" "Host.says" yb a.qp a.qh
 tZ:Binds K a.qh ["self","turn","run"] []
 tI:Meth K a.bB "says" a.qp
 vm:eO K "__init__" "Affair.__init__" pW a.l7 a.l5
 uW:Binds K a.l5 ["self","run","turns","k","n","stake"] []
 oC:eO K "has_host" "Affair.has_host" nQ a.gu a.gz
 cW:Binds K a.gz ["self","number"] []
 dv:Meth K a.aw "has_host" a.gu
 oj:eO K "has_turn" "Affair.has_turn" nB a.gI a.gy
 jU:Binds K a.gy ["self","turn"] []
 jY:Meth K a.aw "has_turn" a.gI
 fM:eO K "has_host_and_turn" "Affair.has_host_and_turn" fJ a.bY a.bV
 bz:Binds K a.bV ["self","number","turn"] []
 bA:Meth K a.aw "has_host_and_turn" a.bY
 kQ:eO K "has_dispute" "Affair.has_dispute" kg a.ef a.dY
 gQ:Binds K a.dY ["self","number"] []
 gw:Meth K a.aw "has_dispute" a.ef
 om:eO K "has_pair" "Affair.has_pair" oG a.gN a.gJ
 j3:Binds K a.gJ ["self","number"] []
 jT:Meth K a.aw "has_pair" a.gN
 lX:eO K "dispute_at" "Affair.dispute_at" lR a.eV a.fe
 bF:Binds K a.fe ["self","number"] []
 bG:Meth K a.aw "dispute_at" a.eV
 nG:eO K "hosts_in" "Affair.hosts_in" j2 a.gK a.gF
 jW:Binds K a.gF ["self"] []
 jX:Meth K a.aw "hosts_in" a.gK
 qD:eO K "is_out" "Affair.is_out" qO a.jx a.jB
 gg:Binds K a.jB ["self","number"] []
 gf:Meth K a.aw "is_out" a.jx
 uw:eO K "said" "Affair.said" uT a.lY a.mr
 dR:Binds K a.mr ["self","number","turn"] []
 dU:Meth K a.aw "said" a.lY
 iC:eO K "how_much_heard" "Affair.how_much_heard" eM a.cM a.cO
 iU:Binds K a.cO ["self"] []
 iZ:Meth K a.aw "how_much_heard" a.cM
 jf:eO K "open_disputes" "Affair.open_disputes" fi a.dw a.df
 fh:Binds K a.df ["self"] []
 fg:Meth K a.aw "open_disputes" a.dw
 fY:eO K "open_disputes_of" "Affair.open_disputes_of" dE a.b6 a.b5
 b3:Binds K a.b5 ["self","number"] []
 b4:Meth K a.aw "open_disputes_of" a.b6
 iK:eO K "are_in_dispute" "Affair.are_in_dispute" eL a.cI a.cP
 iN:Binds K a.cP ["self","x","y"] []
 iu:Meth K a.aw "are_in_dispute" a.cI
 jd:eO K "begin_dispute" "Affair.begin_dispute" jg a.di a.cV
 jk:Binds K a.cV ["self","first","second"] []
 i7:Meth K a.aw "begin_dispute" a.di
 vb:eO K "hear" "Affair.hear" vi a.me a.mm
 vc:Binds K a.mm ["self","number","turn","state"] []
 uo:Meth K a.aw "hear" a.me
 pL:eO K "look_at" "Affair.look_at" pC a.iF a.iQ
 lF:Binds K a.iQ ["self","dispute"] []
 lL:Meth K a.aw "look_at" a.iF
 nv:eO K "work_out" "Affair.work_out" jZ a.gC a.gL
 nV:Binds K a.gL ["self","dispute"] []
 oN:Meth K a.aw "work_out" a.gC
 i8:eO K "put_out_twice" "Affair.put_out_twice" je a.du a.cZ
 i9:Binds K a.cZ ["self","number"] []
 i6:Meth K a.aw "put_out_twice" a.du
 iA:eO K "put_out_silent" "Affair.put_out_silent" iy a.cJ a.cK
 iL:Binds K a.cK ["self","dispute_number","number"] []
 iR:Meth K a.aw "put_out_silent" a.cJ
 kW:eO K "end_against" "Affair.end_against" j8 a.d9 a.d7
 gH:Binds K a.d7 ["self","dispute","how","number"] []
 gB:Meth K a.aw "end_against" a.d9
 o5:eO K "put_out" "Affair.put_out" pk a.iI a.iP
 dM:Binds K a.iP ["self","numbers","winner"] []
 dJ:Meth K a.aw "put_out" a.iI
 iD:eO K "leave_disputes" "Affair.leave_disputes" eF a.cQ a.cR
 iT:Binds K a.cR ["self"] []
 iX:Meth K a.aw "leave_disputes" a.cQ
 xG:eO K "__init__" "Word.__init__" yE a.p5 a.qx
 qj:Binds K a.qx ["self","dispute","host","turn","state"] []
 xt:eO K "__init__" "Line.__init__" yU a.p9 a.qv
 ua:Binds K a.qv ["self"] []
 sU:eO K "is_full" "Line.is_full" sF a.kb a.kY
 oK:Binds K a.kY ["self"] []
 nk:Meth K a.bh "is_full" a.kb
 zL:eO K "put" "Line.put" Al a.su a.sj
 sG:Binds K a.sj ["self","word"] []
 sC:Meth K a.bh "put" a.su
 qB:eO K "let_come" "Line.let_come" qL a.jr a.jF
 qJ:Binds K a.jF ["self","number"] []
 qz:Meth K a.bh "let_come" a.jr
 vd:eO K "let_go" "Line.let_go" uS a.mq a.l8
 uV:Binds K a.l8 ["self","number"] []
 u6:Meth K a.bh "let_go" a.mq
 jO:eO K "has_word_about" "Line.has_word_about" fX a.dI a.dG
 jP:Binds K a.dG ["self","dispute","host","turn"] []
 jN:Meth K a.bh "has_word_about" a.dI
 cp:eO K "behind_count" "behind_count" sY a.j9 a.kM
 dk:Binds K a.kM ["row"] []
 dm:mg "behind_count"=some (.ref a.j9)
 qm:eO K "as_number" "as_number" ye a.qu a.p7
 tQ:Binds K a.p7 ["holds"] []
 tN:mg "as_number"=some (.ref a.qu)
 ub:eO K "call_line" "call_line" yD a.kf a.mX
 yM:Binds K a.mX ["bench","numbers","rows"] []
 yB:mg "call_line"=some (.ref a.kf)
 tG:eO K "call_word" "call_word" xR a.k8 a.mU
 yJ:Binds K a.mU ["bench","numbers","rows"] []
 yq:mg "call_word"=some (.ref a.k8)
 nu:eO K "call_dispute" "call_dispute" rZ a.fC a.i0
 sQ:Binds K a.i0 ["bench","numbers","rows"] []
 sx:mg "call_dispute"=some (.ref a.fC)
 pP:eO K "call_agreed" "call_agreed" uC a.gX a.jL
 uG:Binds K a.jL ["bench","numbers","rows"] []
 uM:mg "call_agreed"=some (.ref a.gX)
 rk:eO K "call_truth" "call_truth" vZ a.jh a.lJ
 wq:Binds K a.lJ ["bench","numbers","rows"] []
 wI:mg "call_truth"=some (.ref a.jh)
 fS:eO K "state_or_nothing" "state_or_nothing" mG a.fB a.fD
 jm:Binds K a.fD ["turn","state"] []
 jq:mg "state_or_nothing"=some (.ref a.fB)
 rj:eO K "call_heard" "call_heard" wj a.ji a.lI
 wx:Binds K a.lI ["bench","numbers","rows"] []
 wm:mg "call_heard"=some (.ref a.ji)
 ud:eO K "call_says" "call_says" xx a.kI a.nj
 xK:Binds K a.nj ["bench","numbers","rows"] []
 x6:mg "call_says"=some (.ref a.kI)
 tM:eO K "call_host" "call_host" xu a.kO a.mS
 yA:Binds K a.mS ["bench","numbers","rows"] []
 xS:mg "call_host"=some (.ref a.kO)
 pQ:eO K "call_affair" "call_affair" uJ a.gZ a.jJ
 u7:Binds K a.jJ ["bench","numbers","rows"] []
 uR:mg "call_affair"=some (.ref a.gZ)
 pO:eO K "call_counts" "call_counts" uF a.gW a.jM
 uL:Binds K a.jM ["bench","numbers","rows"] []
 uD:mg "call_counts"=some (.ref a.gW)
 ui:eO K "call_work" "call_work" xJ a.kR a.mV
 yS:Binds K a.mV ["bench","numbers","rows"] []
 yx:mg "call_work"=some (.ref a.kR)
 lC:eO K "answer_reading" "answer_reading" ph a.iB a.iE
 pz:Binds K a.iE ["bench","call","numbers","rows"] []
 pF:mg "answer_reading"=some (.ref a.iB)
 jG:eO K "are_numbers" "are_numbers" pT a.mx a.l9
 l6:Binds K a.l9 ["row"] []
 l4:mg "are_numbers"=some (.ref a.mx)
 rB:eO K "is_program" "is_program" rC a.ow a.nA
 wg:Binds K a.nA ["row"] []
 vX:mg "is_program"=some (.ref a.ow)
 ir:eO K "are_first_numbers" "are_first_numbers" lS a.eU a.eZ
 lO:Binds K a.eZ ["row"] []
 lU:mg "are_first_numbers"=some (.ref a.eU)
 ug:eO K "orders_of" "orders_of" tT a.ql a.qo
 yf:Binds K a.qo ["row"] []
 xj:mg "orders_of"=some (.ref a.ql)
 tH:eO K "put_value" "put_value" yW a.qd a.qe
 xT:Binds K a.qe ["order","numbers"] []
 x5:mg "put_value"=some (.ref a.qd)
 my:eO K "numbers_after" "numbers_after" qP a.jt a.ju
 qS:Binds K a.ju ["order","numbers"] []
 qI:mg "numbers_after"=some (.ref a.jt)
 DI:eO K "jumps" "jumps" GS a.AU a.AG
 Ht:Binds K a.AG ["order","numbers"] []
 HS:mg "jumps"=some (.ref a.AU)
 zP:eO K "__init__" "Run.__init__" zN a.sX a.rV
 Aq:Binds K a.rV ["self","program","first"] []
 r9:eO K "is_state" "Run.is_state" sS a.kN a.la
 nX:Binds K a.la ["self","row"] []
 nM:Meth K a.jz "is_state" a.kN
 mJ:eO K "state_behind" "Run.state_behind" mN a.fQ a.fE
 fH:Binds K a.fE ["self","state"] []
 fG:Meth K a.jz "state_behind" a.fQ
 sP:eO K "state_at" "Run.state_at" sI a.lg a.k7
 kE:Binds K a.k7 ["self","turn"] []
 ki:Meth K a.jz "state_at" a.lg
 wb:eO K "__init__" "Bench.__init__" wD a.nZ a.nE
 wH:Binds K a.nE ["self"] []
 rD:eO K "call_clear" "call_clear" wz a.jn a.lH
 wu:Binds K a.lH ["bench","numbers","rows"] []
 vU:mg "call_clear"=some (.ref a.jn)
 wG:eO K "call_new" "call_new" Am a.mI a.pH
 Aj:Binds K a.pH ["bench","numbers","rows"] []
 Ah:mg "call_new"=some (.ref a.mI)
 Ex:eO K "tell" "tell" JX a.Es a.Fm
 Hc:Binds K a.Fm ["affair","numbers","state"] []
 HE:mg "tell"=some (.ref a.Es)
 v7:eO K "call_lie" "call_lie" z9 a.mE a.o8
 Ai:Binds K a.o8 ["bench","numbers","rows"] []
 As:mg "call_lie"=some (.ref a.mE)
 tF:eO K "call_mute" "call_mute" xm a.kK a.m8
 x8:Binds K a.m8 ["bench","numbers","rows"] []
 yN:mg "call_mute"=some (.ref a.kK)
 pZ:eO K "call_honest" "call_honest" u0 a.ia a.jH
 vf:Binds K a.jH ["bench","numbers","rows"] []
 uK:mg "call_honest"=some (.ref a.ia)
 nY:eO K "pair_refusal" "pair_refusal" rR a.kS a.lp
 si:Binds K a.lp ["affair","x","y"] []
 sZ:mg "pair_refusal"=some (.ref a.kS)
 uj:eO K "call_pair" "call_pair" yT a.k9 a.m9
 yG:Binds K a.m9 ["bench","numbers","rows"] []
 yI:mg "call_pair"=some (.ref a.k9)
 fP:eO K "question_refusal" "question_refusal" mO a.fR a.fF
 i5:Binds K a.fF ["affair","number","host"] []
 jc:mg "question_refusal"=some (.ref a.fR)
 wM:eO K "call_say" "call_say" z4 a.mD a.o9
 zS:Binds K a.o9 ["bench","numbers","rows"] []
 z8:mg "call_say"=some (.ref a.mD)
 jS:eO K "answer_question" "answer_question" nI a.gq a.gr
 oP:Binds K a.gr ["bench","word"] []
 oE:mg "answer_question"=some (.ref a.gq)
 ou:eO K "call_deliver" "call_deliver" rK a.fL a.iO
 rS:Binds K a.iO ["bench","numbers","rows"] []
 sO:mg "call_deliver"=some (.ref a.fL)
 tW:eO K "call_lose" "call_lose" yc a.kT a.ni
 xn:Binds K a.ni ["bench","numbers","rows"] []
 xH:mg "call_lose"=some (.ref a.kT)
 p3:eO K "call_double" "call_double" um a.gT a.jI
 vh:Binds K a.jI ["bench","numbers","rows"] []
 vj:mg "call_double"=some (.ref a.gT)
 nP:eO K "hush_refusal" "hush_refusal" sA a.kn a.kz
 sg:Binds K a.kz ["bench","number","host"] []
 sL:mg "hush_refusal"=some (.ref a.kn)
 tX:eO K "call_hush" "call_hush" xp a.j6 a.mR
 yZ:Binds K a.mR ["bench","numbers","rows"] []
 yg:mg "call_hush"=some (.ref a.j6)
 rh:eO K "call_close" "call_close" rG a.jj a.lB
 wy:Binds K a.lB ["bench","numbers","rows"] []
 wt:mg "call_close"=some (.ref a.jj)
 AN:eO K "answer" "answer" EF a.yt a.yR
 E5:Binds K a.yR ["bench","call","numbers","rows"] []
 EB:mg "answer"=some (.ref a.yt)
 uN:eO K "__init__" "Reader.__init__" ur a.mi a.mh
 uO:Binds K a.mh ["self","calls"] []
 px:eO K "is_done" "Reader.is_done" pD a.iW a.iG
 oZ:Binds K a.iG ["self"] []
 pK:Meth K a.bX "is_done" a.iW
 lj:eO K "read_number" "Reader.read_number" ka a.ej a.et
 gx:Binds K a.et ["self"] []
 gG:Meth K a.bX "read_number" a.ej
 og:eO K "read_row" "Reader.read_row" nD a.gn a.gA
 j0:Binds K a.gA ["self","length"] []
 jV:Meth K a.bX "read_row" a.gn
 pM:eO K "answer_next" "answer_next" pN a.mv a.mj
 vk:Binds K a.mj ["bench","reader"] []
 ux:mg "answer_next"=some (.ref a.mv)
 B9:eO K "answers" "answers" Ca a.vx a.pA
 GA:Binds K a.pA ["calls"] []
 BG:mg "answers"=some (.ref a.vx)
 Qo:mg "all"=none
 Qg:mg "any"=none
 Ra:mg "dict"=none
 dO:mg "len"=none
 Hd:mg "list"=none
 DL:mg "range"=none
 Qh:mg "sum"=none
 y9:mg "tuple"=none
 Ll:∃ t,mg "WRONG"=some (.int (1) t)
 Pw:∃ t,mg "TWICE"=some (.int (2) t)
 Oc:∃ t,mg "SILENT"=some (.int (3) t)
 RH:∃ t,mg "LEFT"=some (.int (4) t)
 JA:∃ t,mg "FULL_LINE"=some (.int (60) t)
 bZ:∃ t,mg "NOT_AS_TOLD"=some (.int (-1) t)
 JI:∃ t,mg "NO_AFFAIR"=some (.int (-2) t)
 vH:∃ t,mg "NOT_NOW"=some (.int (-3) t)
 tm:∃ t,mg "HEARD_OR_NOT"=some (.int (-4) t)
 xN:∃ t,mg "LINE_IS_FULL"=some (.int (-5) t)
 lu:∃ t,mg "NO_SUCH"=some (.int (-6) t)
 FN:∃ t,mg "LOST_ENOUGH"=some (.int (-7) t)
 Ac:∃ t,mg "ASKED_TOO_SELDOM"=some (.int (-8) t)
 C4:∃ t,mg "STILL_ON_LINE"=some (.int (-9) t)
 ve:∃ t,mg "HOST_IS_OUT"=some (.int (-10) t)
 LU:∃ t,mg "NO_PAIR"=some (.int (-11) t)
 vB:∃ t,mg "LIKE_OR_UNLIKE"=some (.int (-12) t)
 Dq:∃ t,mg "FIRST_READING"=some (.int (12) t)
 qQ:mg "READING_CALLS"=some (.ref a.dA)
 vy:∃ t,mg "MODULUS"=some (.int (1000) t)
 kH:∃ t,mg "ORDER_LENGTH"=some (.int (4) t)
 FJ:∃ t,mg "MOST_ORDERS"=some (.int (20) t)
 Ff:∃ t,mg "MOST_NUMBERS"=some (.int (6) t)
 MV:∃ t,mg "LAST_OP"=some (.int (7) t)
 GV:mg "CALLS"=some (.ref a.rF)
 jb:mg "CALLS_WITHOUT_AFFAIR"=some (.ref a.bQ)
 Ej:mg "SHAPES"=some (.ref a.qa)
theorem bx {N P:List Str} {sc:Scope} (k:sc.kind=.function:=by rfl) (co:sc.isCoroutine=false:=by rfl) (ge:sc.isGenerator=false:=by rfl) (nd:N.Nodup:=by decide +kernel) (pr:N.take P.length=P:=by rfl) (pa:∀ x∈P,sc.names.lookup x=some .local∨sc.names.lookup x=some .cell:=by decide +kernel) (nf:∀ y∈sc.names,y.2≠.free:=by decide +kernel):aC N P sc:=⟨k,co,ge,nd,pr,pa,nf⟩
theorem wF:aC ["hosts","host"] ["hosts"] (aq tV):=bx
theorem Di:aC ["self","turns","n"] ["self","turns","n"] (aq tf):=bx
theorem z3:aC ["self"] ["self"] (aq oI):=bx
theorem Du:aC ["self","first","second","beginning","turns"] ["self","first","second","beginning","turns"] (aq rN):=bx
theorem zK:aC ["self"] ["self"] (aq oo):=bx
theorem pG:aC ["self"] ["self"] (aq eh):=bx
theorem BP:aC ["self","host"] ["self","host"] (aq qV):=bx
theorem Cd:aC ["self","first_said","second_said"] ["self","first_said","second_said"] (aq qF):=bx
theorem tD:aC ["self"] ["self"] (aq ic):=bx
theorem HH:aC ["self","stake"] ["self","stake"] (aq yw):=bx
theorem GO:aC ["self","turn","state"] ["self","turn","state"] (aq xZ):=bx
theorem Bq:aC ["self","turn"] ["self","turn"] (aq pw):=bx
theorem jQ:aC ["self","told"] ["self"] (aq gk):=bx
theorem HJ:aC ["self","turn","run"] ["self","turn","run"] (aq yb):=bx
theorem sM:aC ["self","run","turns","k","n","stake","number"] ["self","run","turns","k","n","stake"] (aq pW):=bx
theorem Ao:aC ["self","number"] ["self","number"] (aq nQ):=bx
theorem z6:aC ["self","turn"] ["self","turn"] (aq nB):=bx
theorem rn:aC ["self","number","turn"] ["self","number","turn"] (aq fJ):=bx
theorem xh:aC ["self","number"] ["self","number"] (aq kg):=bx
theorem zW:aC ["self","number"] ["self","number"] (aq oG):=bx
theorem yk:aC ["self","number"] ["self","number"] (aq lR):=bx
theorem mP:aC ["self","host"] ["self"] (aq j2):=bx
theorem BH:aC ["self","number"] ["self","number"] (aq qO):=bx
theorem Ed:aC ["self","number","turn"] ["self","number","turn"] (aq uT):=bx
theorem hU:aC ["self","host"] ["self"] (aq eM):=bx
theorem iV:aC ["self","dispute"] ["self"] (aq fi):=bx
theorem fK:aC ["self","number","dispute"] ["self","number"] (aq dE):=bx
theorem hZ:aC ["self","x","y","dispute"] ["self","x","y"] (aq eL):=bx
theorem mY:aC ["self","first","second","dispute"] ["self","first","second"] (aq jg):=bx
theorem nT:aC ["self","number","turn","state","host","before","dispute"] ["self","number","turn","state"] (aq vi):=bx
theorem oQ:aC ["self","dispute","first_said","second_said"] ["self","dispute"] (aq pC):=bx
theorem jo:aC ["self","dispute","truth","wrong","number"] ["self","dispute"] (aq jZ):=bx
theorem mT:aC ["self","number","disputes"] ["self","number"] (aq je):=bx
theorem vg:aC ["self","dispute_number","number"] ["self","dispute_number","number"] (aq iy):=bx
theorem w9:aC ["self","dispute","how","number"] ["self","dispute","how","number"] (aq j8):=bx
theorem j4:aC ["self","numbers","winner","number","host","gaining"] ["self","numbers","winner"] (aq pk):=bx
theorem dQ:aC ["self","dispute","gone","number"] ["self"] (aq eF):=bx
theorem HF:aC ["self","dispute","host","turn","state"] ["self","dispute","host","turn","state"] (aq yE):=bx
theorem GI:aC ["self"] ["self"] (aq yU):=bx
theorem C5:aC ["self"] ["self"] (aq sF):=bx
theorem Cr:aC ["self","word","number"] ["self","word"] (aq Al):=bx
theorem BF:aC ["self","number"] ["self","number"] (aq qL):=bx
theorem Ee:aC ["self","number"] ["self","number"] (aq uS):=bx
theorem fm:aC ["self","dispute","host","turn","about","word"] ["self","dispute","host","turn"] (aq fX):=bx
theorem Dm:aC ["row"] ["row"] (aq sY):=bx
theorem HA:aC ["holds"] ["holds"] (aq ye):=bx
theorem Bc:aC ["bench","numbers","rows","words"] ["bench","numbers","rows"] (aq yD):=bx
theorem wK:aC ["bench","numbers","rows","word","told"] ["bench","numbers","rows"] (aq xR):=bx
theorem jA:aC ["bench","numbers","rows","dispute","first","second","told"] ["bench","numbers","rows"] (aq rZ):=bx
theorem xF:aC ["bench","numbers","rows","dispute"] ["bench","numbers","rows"] (aq uC):=bx
theorem zx:aC ["bench","numbers","rows","affair"] ["bench","numbers","rows"] (aq vZ):=bx
theorem zk:aC ["turn","state"] ["turn","state"] (aq mG):=bx
theorem zq:aC ["bench","numbers","rows","affair"] ["bench","numbers","rows"] (aq wj):=bx
theorem wL:aC ["bench","numbers","rows","affair","host"] ["bench","numbers","rows"] (aq xx):=bx
theorem oO:aC ["bench","numbers","rows","affair","number","host","told"] ["bench","numbers","rows"] (aq xu):=bx
theorem sV:aC ["bench","numbers","rows","affair","told"] ["bench","numbers","rows"] (aq uJ):=bx
theorem xB:aC ["bench","numbers","rows","line"] ["bench","numbers","rows"] (aq uF):=bx
theorem Bm:aC ["bench","numbers","rows","run"] ["bench","numbers","rows"] (aq xJ):=bx
theorem tK:aC ["bench","call","numbers","rows","perform"] ["bench","call","numbers","rows"] (aq ph):=bx
theorem tj:aC ["row","number"] ["row"] (aq pT):=bx
theorem uB:aC ["row","op"] ["row"] (aq rC):=bx
theorem xC:aC ["row"] ["row"] (aq lS):=bx
theorem wa:aC ["row","at"] ["row"] (aq tT):=bx
theorem rE:aC ["order","numbers","op","left","right"] ["order","numbers"] (aq yW):=bx
theorem lA:aC ["order","numbers","changed","x","y"] ["order","numbers"] (aq qP):=bx
theorem Jf:aC ["order","numbers","x"] ["order","numbers"] (aq GS):=bx
theorem JO:aC ["self","program","first"] ["self","program","first"] (aq zN):=bx
theorem Dy:aC ["self","row"] ["self","row"] (aq sS):=bx
theorem ip:aC ["self","state","order","numbers","place"] ["self","state"] (aq mN):=bx
theorem C3:aC ["self","turn"] ["self","turn"] (aq sI):=bx
theorem FR:aC ["self"] ["self"] (aq wD):=bx
theorem FQ:aC ["bench","numbers","rows"] ["bench","numbers","rows"] (aq wz):=bx
theorem qk:aC ["bench","numbers","rows","turns","k","n","stake"] ["bench","numbers","rows"] (aq Am):=bx
theorem K0:aC ["affair","numbers","state","host"] ["affair","numbers","state"] (aq JX):=bx
theorem CK:aC ["bench","numbers","rows","affair"] ["bench","numbers","rows"] (aq z9):=bx
theorem HV:aC ["bench","numbers","rows"] ["bench","numbers","rows"] (aq xm):=bx
theorem yK:aC ["bench","numbers","rows","host"] ["bench","numbers","rows"] (aq u0):=bx
theorem qC:aC ["affair","x","y","x_said","y_said"] ["affair","x","y"] (aq rR):=bx
theorem AF:aC ["bench","numbers","rows","refusal"] ["bench","numbers","rows"] (aq yT):=bx
theorem rf:aC ["affair","number","host","dispute"] ["affair","number","host"] (aq mO):=bx
theorem m4:aC ["bench","numbers","rows","number","host","refusal","dispute","word_number"] ["bench","numbers","rows"] (aq z4):=bx
theorem mM:aC ["bench","word","host","state"] ["bench","word"] (aq nI):=bx
theorem wY:aC ["bench","numbers","rows","word"] ["bench","numbers","rows"] (aq rK):=bx
theorem AS:aC ["bench","numbers","rows","dispute"] ["bench","numbers","rows"] (aq yc):=bx
theorem ym:aC ["bench","numbers","rows","word"] ["bench","numbers","rows"] (aq um):=bx
theorem qT:aC ["bench","number","host","refusal","dispute"] ["bench","number","host"] (aq sA):=bx
theorem Bd:aC ["bench","numbers","rows","refusal"] ["bench","numbers","rows"] (aq xp):=bx
theorem pV:aC ["bench","numbers","rows","affair","ends","host"] ["bench","numbers","rows"] (aq rG):=bx
theorem Gi:aC ["bench","call","numbers","rows","perform"] ["bench","call","numbers","rows"] (aq EF):=bx
theorem E1:aC ["self","calls"] ["self","calls"] (aq ur):=bx
theorem A3:aC ["self"] ["self"] (aq pD):=bx
theorem xf:aC ["self"] ["self"] (aq ka):=bx
theorem zC:aC ["self","length"] ["self","length"] (aq nD):=bx
theorem iJ:aC ["bench","reader","call","shape","numbers","rows","row"] ["bench","reader"] (aq pN):=bx
theorem sy:aC ["calls","reader","bench","given","told"] ["calls"] (aq Ca):=bx
end HR
namespace HR
open PySem PySem.Spec L2
open PyProof.Rows hiding St
theorem CN:bootBuiltins "any"=some (.builtin "any"):=by decide +kernel
theorem CS:bootBuiltins "all"=some (.builtin "all"):=by decide +kernel
theorem CM:bootBuiltins "sum"=some (.builtin "sum"):=by decide +kernel
theorem jK:bootBuiltins "tuple"=some (.type "tuple"):=by decide +kernel
theorem rq:bootBuiltins "list"=some (.type "list"):=by decide +kernel
theorem G2:bootBuiltins "dict"=some (.type "dict"):=by decide +kernel
theorem Ft:bootBuiltins "range"=some (.type "range"):=by decide +kernel
theorem _root_.L2.l3.lo {j k:Nat} {A:Around} (h:l3 k A) (e:j<=k:=by decide):l3 j A:=h.mono e
section
variable {X:Cx}
theorem aO {x:Str} {n:Int} {pos:Pos} (hg:Gl X x) (h:∃ t,X.mg x=some (.int n t)) (hd:(x == ("__debug__":Str))=false:=by decide):PE X (.Name x pos) (tC (.int n)):=by
 obtain ⟨t,h⟩:=h
 exact AW hg h ⟨t,rfl⟩ hd
theorem QP {e:Expr} {t u:TE} (h1:PE X e t) (h2:PE X e u):PE X e (λσ H Q=>t σ H Q∨u σ H Q):=λpins s σ H Q I h=>by
 rcases h with h | h
 ·exact h1 pins s σ H Q I h
 ·exact h2 pins s σ H Q I h
def K8 (K:Uy):V->List V->Hp->VK->Prop:=λx xs H Q=>∃ (a:Addr) (ys:List V) (y:V) (ds:List PyData) (d:PyData),x=V.ref a/\xs=[y]/\bf K H a ys/\zw K H ys ds/\Dp K H y d /\
 SeqAt.shaped (.list ds)=true/\SeqAt.shaped d=true/\Q (.int ((ds.countP λz=>PyData.eqv z d:Nat):Int)) H
theorem Mn (hu:X.A.units+65 < cLine):Qz X "list.count" (K8 X.K):=by
 intro pins s σ H x xs v us Q I rx rxs h
 obtain ⟨a,ys,y,ds,d,rfl,rfl,hs,hds,hd,sds,sd,q⟩:=h
 cases rx
 cases rxs with
 | cons ry rt =>
  rename_i uy ut
  cases rt
  obtain ⟨its,rv,⟨⟨cls,dd,data,sl⟩,n,ho,hc,hdn,hda⟩,hlen⟩:=I.list hs
  simp only at hc hda
  subst hc hda
  obtain ⟨as,rs⟩:=Dp.readsAll I ds ys its hds rv
  obtain ⟨bs,rd⟩:=Dp.reads I d y uy hd ry
  have rs':ReadsAll s.heap its.toArray.toList ds as:=by simpa using rs
  refine call_meets PySem.F.slot_list_count ⟨_,ho,rfl⟩ PySem.F.entry_list_count (PySem.F.args_list_count_2 _ _)
   (SeqAt.list_countAt a its.toArray n dd sl uy (λz=>PyData.eqv (SeqAt.readOf s.heap z) d)) ⟨ho,SeqAt.items_eqAt rs' rd (SeqAt.canLay_of_shaped sds) (SeqAt.canLay_of_shaped sd) (room_in_shaped sd hu),?_⟩
  have e:its.toArray.toList.countP (λz=>PyData.eqv (SeqAt.readOf s.heap z) d)=ds.countP λz=>PyData.eqv z d:=by
   rw [<- SeqAt.readsAll_map ds _ _ (SeqAt.canLay_of_shaped sds) rs',List.countP_map]
   rfl
  rw [e]
  exact ⟨.int _,H,I.tok _,⟨_,rfl⟩,q⟩
def Sx (K:Uy):R2:=λx y H Q=>∃ (a:Addr) (ys:List V) (ds:List PyData) (d:PyData),y=V.ref a/\bf K H a ys/\zw K H ys ds/\Dp K H x d /\
 SeqAt.shaped (.list ds)=true/\SeqAt.shaped d=true/\Q (.bl (ds.any λz=>PyData.eqv z d)) H
theorem QC (hu:X.A.units+65 < cLine):zi X (compareOp .In) (Sx X.K):=by
 intro pins s σ H x y v u Q I rx ry h
 obtain ⟨a,ys,ds,d,rfl,hs,hds,hd,sds,sd,q⟩:=h
 cases ry
 obtain ⟨as,r1⟩:=Dp.reads I (.list ds) (.ref a) (.ref a) (.lst hs hds) rfl
 obtain ⟨bs,r2⟩:=Dp.reads I d x v hd rx
 exact SeqAt.in_list_reads r1 r2 (SeqAt.canLay_of_shaped sds) (SeqAt.canLay_of_shaped sd) (room_in_shaped sd hu) ⟨.bl _,H,I,rfl,q⟩
def Sb (X:Cx) (td ty:TE):TE:=λσ H Q=>td σ H λx H1=>ty σ H1 λy H2=>∃ (a:Addr) (k:Int) (vs:List (Key × Value)) (v:V) (u:Value),x=.ref a/\y=.int k /\
 (∀ h:Heap,X.K.In h->h.DictOf (aZ X.prog X.w) a vs)/\valueAt vs (Sum.inl k)=some u/\RelV v u/\Q v H2
theorem Ef {o i:Expr} {pos:Pos} {td ty:TE} (ho:PE X o td) (hi:PE X i ty) (hs:Rg i):PE X (.Subscript o i pos) (Sb X td ty):=by
 intro pins s σ H Q I h
 refine KS PySem.F.slot_dict_getitem.lookup hs (dP (ho pins s σ H _ I h) λu s1 ⟨x,H1,I1,rx,q1⟩=>dP (hi pins s1 σ H1 _ I1 q1) λiv s2 ⟨y,H2,I2,ry,a,k,vs,v,uv,ex,ey,hK,hv,rv,q2⟩=>?_)
 subst ex ey
 obtain rfl:u=Value.ref a:=rx
 have dd:=hK _ I2.Jy
 exact ⟨dd.typeIs,wpAny_getItem_of (xk (k:=Sum.inl k) ry) dd.mapOf hv ⟨v,H2,I2.tok _,rv,q2⟩⟩
def Qq (X:Cx) (i:Nat) (t:TA):TE:=λσ H Q=>∃ (f:Addr) (fd:FuncData) (ps:List Str) (sp:Sp) (k:Nat),σ[i]?=some (some (.ref f))/\a8 X.prog X.w X.K X.mg X.base eS k f fd ps sp/\l3 k X.A /\
 VS X.K (.ref f)=true/\Binds X.K fd ps []/\t σ H λvs H1=>sp (vs++[]) H1 Q E0
theorem Jk {x:Str} {p pos:Pos} {e:Expr} {es:List Expr} {t:TA} (i:Nat) (hN:X.N[i]?=some x) (hv:RN X.env.scope x) (ha:PA X (e::es) t) (hd:(x == ("__debug__":Str))=false:=by decide)
  (hcd:(x == ("__classdict__":Str))=false:=by decide)
  (he:starEach (e::es) X.env=(false,eval e X.env)::starEach es X.env:=by rfl) (hpl:(backTo pos (starEach es X.env)).any (·.1)=false:=by rfl) :
  PE X (.Call (.Name x p) (e::es) [] pos) (Qq X i t):=by
 intro pins s σ H Q I h
 obtain ⟨f,fd,ps,sp,k,hf,F,hr,hk,hb,h⟩:=h
 refine wpAny_Call_Name_kw (dP (Nb (X:=X) (i:=i) (pos:=p) hN hv hd hcd pins s σ H (λv H'=>v=.ref f/\H'=H) I ⟨_,hf,rfl,rfl⟩) λu s1 ⟨v,H1,I1,r1,e1,e2⟩=>?_)
 subst e1 e2
 obtain rfl:u=Value.ref f:=r1
 refine PySem.W.callWith_K (h₀:=X.base) I.ok.mod.O4 hk (dP (ha pos pins s1 σ H1 _ I1 h) λus s2 ⟨vs,H2,I2,r,q⟩=>⟨I2.Jy,?_⟩) he hpl
 exact HK F hr hb .nil aG I2 r q
end
theorem Ga {xs:List V} {its:List Value} (r:Vals xs its):∀ l:List Nat,Vals (l.filterMap (xs[·]?)) (l.filterMap (its[·]?))
 | []=>.nil
 | i::l=>by
  have ih:=Ga r l
  cases e:xs[i]? with
  | none =>
   rw [List.filterMap_cons_none e,List.filterMap_cons_none (r.none_of e)]
   exact ih
  | some x =>
   obtain ⟨u,eu,ru⟩:=r.get e
   rw [List.filterMap_cons_some e,List.filterMap_cons_some eu]
   exact .cons ru ih
def Jo (k:Int) (xs:List V):List V:=(sliceRange 0 (xs.length:Nat) k).filterMap (xs[·]?)
section
variable {X:Cx}
def SS (X:Cx) (te tk:TE):TE:=λσ H Q=>te σ H λx H1=>tk σ H1 λy H2=>∃ (a:Addr) (xs:List V) (k:Int),x=.ref a/\y=.int k/\0 < k/\bf X.K H2 a xs/\∀ p,H2 p=none->Q (.ref p) (upd H2 p (.lst (Jo k xs)))
theorem MT {e st:Expr} {te tk:TE} {pos p2:Pos} (he:PE X e te) (hk:PE X st tk):PE X (.Subscript e (.Slice none none (some st) p2) pos) (SS X te tk):=by
 intro pins s σ H Q I h
 refine Subscript_ (dP (he pins s σ H _ I h) λv s1 ⟨x,H1,I1,r1,q1⟩=>?_)
 refine wpAny_Slice ?_
 rw [evalPart_none,evalPart_some]
 refine wpAny_pure (wpAny_pure (dP (hk pins s1 σ H1 _ I1 q1) λu s2 ⟨y,H2,I2,r2,a,xs,k,ex,ey,h0,hx,q⟩=>?_))
 subst ex ey
 cases r1
 obtain ⟨tk',rfl⟩:=r2
 have I4:Inv X pins σ H2 { s2 with heap:=s2.heap.push { cls:=.type "slice",data:=.fields #[.none,.none,.int k tk'] } }:=I2.kept (t':=s2.toks) λb ob q=>Heap.get?_push_of_some _ q
 obtain ⟨its,r,ht,hz⟩:=I4.list hx
 have hlen:=r.length
 refine tail_any (ops:=[.ref a,.ref s2.heap.objs.size]) ht.isList.typeIs slot_list_getitem.lookup ?_ (by with_unfolding_all rfl)
 refine wpAny_getItem_list_slice ht.isList (Heap.IsSliceOf.new ..) .none .none (.int k tk') (by intro z;injection z with z;omega) ?_ (by rw [UX];omega)
 have e:slicePick its.toArray none none (some k)=((sliceRange 0 (xs.length:Nat) k).filterMap (its[·]?)).toArray:=by
  unfold slicePick sliceBounds
  simp only [Option.getD_some,UX,hlen,show (k > 0)=True from eq_true h0,if_true]
  have e2:(λi:Nat=>its.toArray[i]?)=λi:Nat=>its[i]?:=by funext i;simp
  rw [e2]
 rw [e]
 refine ⟨.ref _,_,I4.laid (t':=s2.toks) (o:=.lst (Jo k xs)) (λb ob q=>Heap.get?_push_of_some _ q) (UI _) ?_,rfl,q _ (I4.dz.fresh (UI _))⟩
 refine ⟨US (List.length_filterMap_le _ _) (US (sliceRange_length_le 0 (xs.length:Nat) k xs.length (λ_=>⟨Int.le_refl _,Int.le_refl _⟩) (λz=>absurd h0 z)) hz),_,0,Ga r _,Heap.get?_push_size _ rfl⟩
end
theorem G6 (l:Addr) (a b:Value) (n:Nat) (dd:Option Addr) (sl:Array (Option Value)) (x:Value) (e:Value->Bool) (j:Nat) (hj:(j=0/\e a=true)∨(j=1/\e a=false/\e b=true)) :
  Meets (Builtin.«tuple.index» ⟨[.ref l,x],[]⟩)
   (λA R s=>s.heap.get? l=some { cls:=.type "tuple",dict:=dd,data:=.seq #[a,b] n,slots:=sl }/\(∀ y,y∈#[a,b]->SeqAt.EqAt A.in1 s y x (e y))/\R (.ok (.ret (.int (j:Nat) s.toks))) { s with toks:=s.toks+1 }) :=
 .of_wp λprog w A R s h=>by
  obtain ⟨hp,g,d,tk,os⟩:=s;obtain ⟨hl,he,h⟩:=h
  unfold Builtin.«tuple.index»
  simp only [Std.Legacy.Range.forIn_eq_forIn_range']
  wp_walk using wpAny_loadPart' hl
  have e0:Wd 0 [:min #[a,b].size #[a,b].size].size=[0,1]:=by simp [Std.Legacy.Range.size,Wd]
  rw [e0]
  unfold List.forIn'.loop
  refine wpAny_bind (wpAny_bind (he a (by simp) prog w _ _ ?_))
  rcases hj with ⟨rfl,ha⟩ | ⟨rfl,ha,hb⟩
  ·rw [ha]
   wp_walk
   exact ⟨_,rfl,by simpa using h⟩
  ·rw [ha]
   simp only [Bool.false_eq_true,if_false]
   refine wpAny_pure ?_
   show wpAny _ _ (List.forIn'.loop _ _ [1] _ _) _ _ _
   unfold List.forIn'.loop
   refine wpAny_bind (wpAny_bind (he b (by simp) prog w _ _ ?_))
   rw [hb]
   wp_walk
   exact ⟨_,rfl,by simpa using h⟩
section
variable {prog:Program} {w:World} {A:Around} {E:Value->Shared->Prop} {s:Shared}
theorem Cn {Q:List Value->Shared->Prop} {r:Addr} {a b c:Int} {t u v:Tok} {n:Nat} (hh:A.handled=none) (hr:IsRange s.heap r a b c t u v) (hsmall:Builtin.Range.small a b c=true)
  (hn:Builtin.Range.rangeSize a b c=n) (hlen:n<=2 ^ 24)
  (hQ:∀ (h':Heap) (tk:Nat) (acc:Array Value),(∀ b o',s.heap.get? b=some o'->h'.get? b=some o')->ItemsOf (λi v=>∃ t,v=.int (a+i * c) t) acc n->Q acc.toList { s with heap:=h',toks:=tk }) :
  wpAny (model prog w) A (collect (.ref r)) Q E s:=by
 unfold collect
 refine wpAny_bind (wpAny_runValue (codeAny_builtin F.entry_proto_collect ?_))
 rw [Around.under_plainId F.plain_proto_collect _]
 show wpAny _ A.in1 (newList [] >>= λl=>again (.builtin "list.__iadd__" ⟨[l,.ref r],[]⟩)) _ _ s
 refine wpAny_bind (wpAny_newObj_type ?_)
 refine wpAny_pure ⟨plainId_quiet F.plain_list_iadd _,codeAny_builtin F.entry_list_iadd ?_⟩
 rw [Around.under_plainId F.plain_list_iadd _]
 show wpAny _ A.in1 (Builtin.List.listExtendWith (.ref s.heap.objs.size) (.ref r) (.ref s.heap.objs.size)) _ _ _
 have hS:(s.heap.push { cls:=.type "list",data:=.seq ([]:List Value).toArray }).get? s.heap.objs.size=some { cls:=.type "list",data:=.seq #[] 0 }:=Heap.get?_push_size _ rfl
 have fin':∀ (h':Heap) (tk:Nat) (acc:Array Value) (c':Nat),(∀ b o,b≠s.heap.objs.size->(s.heap.push { cls:=.type "list",data:=.seq ([]:List Value).toArray }).get? b=some o->h'.get? b=some o) ->
   h'.get? s.heap.objs.size=some { cls:=.type "list",dict:=none,data:=.seq acc c',slots:=#[] }->ItemsOf (λi v=>∃ t,v=.int (a+i * c) t) acc n ->
   wpAny (model prog w) A (match Value.ref s.heap.objs.size with
   | Value.ref a=>do
    match (<- load a).data with
     | Data.seq xs _=>pure xs.toList
     | _=>unsupported "internal:collect"
   | _=>unsupported "internal:collect") Q E { s with heap:=h',toks:=tk }:=λh' tk acc c' hk hS' hI=>by
  show wpAny _ A (load s.heap.objs.size >>= _) _ _ _
  refine wpAny_bind (wpAny_load hS' ?_)
  refine wpAny_pure ?_
  exact hQ h' tk acc (λb o' hb=>hk b o' (U7 (Heap.lt_size hb)) (Heap.get?_push_of_some _ hb)) hI
 refine wpAny_mono (wpAny_extend_range (A:=A) (R:=λr' s'=>∃ (h':Heap) (tk:Nat) (acc:Array Value) (c':Nat),r'=.ok (.ret (.ref s.heap.objs.size))/\s'={ s with heap:=h',toks:=tk } /\
   (∀ b o,b≠s.heap.objs.size->(s.heap.push { cls:=.type "list",data:=.seq ([]:List Value).toArray }).get? b=some o->h'.get? b=some o) /\
   h'.get? s.heap.objs.size=some { cls:=.type "list",dict:=none,data:=.seq acc c',slots:=#[] }/\ItemsOf (λi v=>∃ t,v=.int (a+i * c) t) acc n)
  (s:={ s with heap:=s.heap.push { cls:=.type "list",data:=.seq ([]:List Value).toArray } }) hh (Heap.get?_push_of_some _ hr) hsmall hn hlen _ _ 0 hS λh' tk acc c' hk hS' hI=>⟨h',tk,acc,c',rfl,rfl,hk,hS',hI⟩) (λfin s' h=>?_) (λe s' h=>?_)
 ·cases fin with
  | done f =>
   obtain ⟨h',tk,acc,c',e,rfl,h1,h2,h3⟩:=h
   cases e
   exact fin' h' tk acc c' h1 h2 h3
  | again c'=>exact ⟨h.1,codeAny_mono h.2 λr s'' hr=>by obtain ⟨h',tk,acc,c',rfl,rfl,h1,h2,h3⟩:=hr;exact fin' h' tk acc c' h1 h2 h3⟩
 ·obtain ⟨_,_,_,_,e,_⟩:=h
  cases e
end
theorem Bp (r:Addr) (a b c:Int) (t u v:Tok) (n:Nat) (hsmall:Builtin.Range.small a b c=true) (hn:Builtin.Range.rangeSize a b c=n) (hlen:n<=2 ^ 24) :
  Meets (Builtin.«tuple.__new__» ⟨[.type "tuple",.ref r],[]⟩)
   (λA R s=>A.handled=none/\IsRange s.heap r a b c t u v/\∀ (h':Heap) (tk:Nat) (acc:Array Value),(∀ b o',s.heap.get? b=some o'->h'.get? b=some o')->ItemsOf (λi v=>∃ t,v=.int (a+i * c) t) acc n ->
    R (.ok (.ret (.ref h'.objs.size))) { s with heap:=h'.push { cls:=.type "tuple",data:=.seq acc },toks:=tk }) :=
 .of_wp λprog w A R s h=>by
  obtain ⟨hp,g,d,tk,os⟩:=s;obtain ⟨hh,ht,h⟩:=h
  have hsub:=PySem.sub_tuple_self
  have hinit:=init_tuple_lookup
  have hmh:=madeHere_tuple
  have hT:Shared.TypeIs ⟨hp,g,d,tk,os⟩ (.ref r) "range":=⟨_,ht,rfl⟩
  wp_walk using AutoSeq1.wpAny_loadPart' ht,wpAny_typeOf hT,Cn (A:=A.in1) hh ht hsmall hn hlen
  intro h' tk' acc hk hI
  show wpAny _ _ (Builtin.Tuple.tupleExact acc.toList.toArray >>= λv=>ret v) _ _ _
  unfold Builtin.Tuple.tupleExact
  have hs:acc.size=n:=hI.1
  refine wpAny_bind (wpAny_newObj_type ?_ (by show acc.toList.toArray.size<=sizeLine;rw [sizeLine_eq];simpa [hs] using hlen))
  refine wpAny_pure ⟨_,rfl,?_⟩
  have e:acc.toList.toArray=acc:=by simp
  rw [e]
  exact h h' tk' acc hk hI
theorem G3:∀ {xs:List V} {us:List Value},xs.length=us.length->(∀ (i:Nat) (x:V) (u:Value),xs[i]?=some x->us[i]?=some u->RelV x u)->Vals xs us
 | [],[],_,_=>.nil
 | [],_::_,h,_=>by simp at h
 | _::_,[],h,_=>by simp at h
 | x::xs,u::us,h,f=>.cons (f 0 x u rfl rfl) (G3 (by simpa using h) λi y v a b=>f (i+1) y v (by simpa using a) (by simpa using b))
section
variable {X:Cx}
theorem Of:mZ X (.type "range") (λxs H Q=>∃ j:Int,xs=[.int j]/\∀ p,H p=none->Q (.ref p) (upd H p (.rng 0 j))):=by
 intro pins s σ H xs us Q I r h
 obtain ⟨j,rfl,q⟩:=h
 obtain ⟨u,rfl,rx⟩:=vals1 r
 obtain ⟨t,rfl⟩:=rx
 refine call_range_1 ⟨.ref s.heap.objs.size,_,I.laid (t':=s.toks+1+1) (o:=.rng 0 j) (λb ob q=>Heap.get?_push_of_some _ q) (UI _) ?_,rfl,q _ (I.dz.fresh (UI _))⟩
 exact ⟨_,_,_,Heap.get?_push_size _ rfl⟩
theorem MF (hc:X.calm=true):mZ X (.type "tuple") (λxs H Q=>∃ (r:Addr) (n:Nat),xs=[.ref r]/\H r=some (.rng 0 (n:Int))/\n<=1000/\∀ p,H p=none->Q (.ref p) (upd H p (.tup ((List.range n).map λ(i:Nat)=>V.int (i:Int))))):=by
 intro pins s σ H xs us Q I r h
 obtain ⟨rr,n,rfl,hr,h1,q⟩:=h
 obtain ⟨u,rfl,rx⟩:=vals1 r
 cases rx
 obtain ⟨t,u,v,e⟩:=I.dz rr _ hr
 have hsm:Builtin.Range.small 0 (n:Int) 1=true:=by
  exact small_one (by decide) (by decide) (Int.le_trans (by decide) (Int.natCast_nonneg n)) (Int.lt_of_le_of_lt (show (n:Int)<=1000 by omega) (by decide))
 have hn:Builtin.Range.rangeSize 0 (n:Int) 1=n:=by
  unfold Builtin.Range.rangeSize
  rw [if_pos (by decide)]
  by_cases h0:(0:Int) < (n:Int)
  ·rw [if_pos h0,Int.ediv_one]
   omega
  ·rw [if_neg h0]
   omega
 refine callType_new PySem.F.called_tuple (by decide) (PySem.F.typeCall_tuple_1 _) (PySem.F.newCall_tuple_1 _) (λobj=>PySem.F.args_object_init_2 obj _) PySem.F.entry_tuple_new (Bp rr 0 (n:Int) 1 t u v n hsm hn (by omega))
  ⟨I.ok.hd hc,e,λh' tk acc hk hI=>⟨⟨_,Heap.get?_push_size _ rfl,rfl⟩,?_⟩⟩
 have I1:Inv X pins σ H { s with heap:=h',toks:=tk }:=I.kept (t':=tk) hk
 have hl:acc.toList.length=n:=by simpa using hI.1
 have I2:Inv X pins σ (upd H h'.objs.size (.tup ((List.range n).map λ(i:Nat)=>V.int (i:Int)))) { s with heap:=h'.push { cls:=.type "tuple",data:=.seq acc },toks:=tk }:=by
  refine I1.laid (t':=tk) (λb o e=>Heap.get?_push_of_some _ e) (UI _) (show iH X.prog X.w _ _ _ (.tup _) from ⟨?_,acc.toList,G3 (by simp [hl]) λi x u hx hu=>?_,?_⟩)
  ·rw [sizeLine_eq];simp;omega
  ·have hu':acc[i]?=some u:=by simpa using hu
   obtain ⟨t,rfl⟩:=hI.2 i u hu'
   rw [Ve] at hx
   have hi:i < n:=by
    have:=(U5.mp hu).1
    omega
   rw [Wt hi] at hx
   cases hx
   exact ⟨t,by simp⟩
  ·simpa using IsTup.new h' acc
 exact ⟨.ref h'.objs.size,_,I2,rfl,q _ (I1.dz.fresh (UI _))⟩
def Lb (K:Uy):V->List V->Hp->VK->Prop:=λx xs H Q=>∃ (a:Addr) (p q y:Int) (j:Nat),x=V.ref a/\xs=[V.int y]/\gc K H a [.int p,.int q]/\((j=0/\p=y)∨(j=1/\p≠y/\q=y))/\Q (.int (j:Nat)) H
theorem MD:Qz X "tuple.index" (Lb X.K):=by
 intro pins s σ H x xs v us Q I rx rxs h
 obtain ⟨a,p,q,y,j,rfl,rfl,hs,hj,fin⟩:=h
 cases rx
 obtain ⟨uy,rfl,ty,rfl⟩:=rxs.one
 obtain ⟨its,rv,⟨⟨cls,dd,data,sl⟩,ho,hc,n,hd⟩,hlen⟩:=I.tuple hs
 simp only at hc hd
 subst hc hd
 obtain ⟨u1,u2,rfl,⟨t1,rfl⟩,⟨t2,rfl⟩⟩:=rv.two
 refine call_meets PySem.F.slot_tuple_index ⟨_,ho,rfl⟩ PySem.F.entry_tuple_index (PySem.F.args_tuple_index_2 _ _)
  (G6 a (.int p t1) (.int q t2) n dd sl (.int y ty) (λz=>match z with | .int i _=>i == y | _=>false) j ?_) ⟨ho,λz hz=>?_,⟨.int (j:Nat),H,I.tok _,⟨_,rfl⟩,fin⟩⟩
 ·rcases hj with ⟨rfl,rfl⟩ | ⟨rfl,h1,rfl⟩
  ·exact .inl ⟨rfl,by simp⟩
  ·exact .inr ⟨rfl,by simpa using h1,by simp⟩
 ·have hz':z=.int p t1∨z=.int q t2:=by simpa using hz
  rcases hz' with rfl | rfl
  ·exact SeqAt.EqAt.int_int p t1 y ty
  ·exact SeqAt.EqAt.int_int q t2 y ty
theorem Sm {A:Around} {k:Nat} (hr:l3 k A):A.units+65 < cLine:=by have:=hr.un;omega
theorem T1 {σ:St} {H:Hp} {Q:VK} {a z c:Int} (h:Q (.bl (decide (a<=z)&&decide (z < c))) H) :
  NK (λi j=>.bl (decide (i<=j))) (.int a) (.int z) H (λw H3=>∃ k,w=.bl k/\if k=true then tC (.int c) σ H3 (λw' H4=>NK (λi j=>.bl (decide (i < j))) (.int z) w' H4 Q) else Q (.bl false) H3):=by
 refine ⟨a,z,rfl,rfl,_,rfl,?_⟩
 by_cases e:a<=z
 ·rw [decide_eq_true e] at h ⊢
  rw [if_pos rfl]
  exact ⟨z,c,rfl,rfl,h⟩
 ·rw [decide_eq_false e] at h ⊢
  rw [if_neg (by decide)]
  exact h
end
section
variable {X:Cx} {K:Uy}
theorem ED (hK:X.K=K:=by rfl):RW X (SU K):=by subst hK;exact Px
theorem Pz (hK:X.K=K:=by rfl):RW X (S6 K):=by subst hK;exact Rf
theorem aB (hK:X.K=K:=by rfl):S7 X (Su K):=by subst hK;exact Pu
theorem bR (hK:X.K=K:=by rfl):S7 X (RZ K):=by subst hK;exact Ri
theorem Np (hK:X.K=K:=by rfl):zi X (compareOp .In) (Tf K false):=by subst hK;exact Mi
theorem Gy (hK:X.K=K:=by rfl):zi X (compareOp .NotIn) (Tf K true):=by subst hK;exact GZ
theorem DH (hu:X.A.units+64 < cLine) (hK:X.K=K:=by rfl):zi X (compareOp .Eq) (Sj K):=by subst hK;exact Q5 hu
theorem Lj (hu:X.A.units+64 < cLine) (hK:X.K=K:=by rfl):zi X (compareOp .NotEq) (Sz K):=by subst hK;exact QE hu
theorem PL (hu:X.A.units+65 < cLine) (hK:X.K=K:=by rfl):zi X (compareOp .In) (Sx K):=by subst hK;exact QC hu
def T2 (K:Uy):List V->Hp->VK->Prop:=λxs H Q=>∃ p ys,xs=[.ref p]/\(bf K H p ys∨gc K H p ys)/\Q (.int ys.length) H
theorem a7 (hK:X.K=K:=by rfl):mZ X (.builtin "len") (T2 K):=by subst hK;exact G1
def RG (K:Uy):List V->Hp->VK->Prop:=λxs H Q=>∃ p ys,xs=[.ref p]/\((bf K H p ys/\∀ l,H l=none->Q (.ref l) (upd H l (.tup ys)))∨(gc K H p ys/\Q (.ref p) H))
theorem vO (hK:X.K=K:=by rfl):mZ X (.type "tuple") (RG K):=by subst hK;exact FK
def RF (K:Uy):List V->Hp->VK->Prop:=λxs H Q=>∃ p ys,xs=[.ref p]/\(bf K H p ys∨gc K H p ys)/\∀ l,H l=none->Q (.ref l) (upd H l (.lst ys))
theorem Ce (hK:X.K=K:=by rfl):mZ X (.type "list") (RF K):=by subst hK;exact G5
def QI (K:Uy):List V->Hp->VK->Prop:=λxs H Q=>∃ (a:Addr) (ps:List Addr) (kvs:List (Key × V)),xs=[.ref a]/\bf K H a (ps.map V.ref)/\Paired (λp kv=>gc K H p [kV kv.1,kv.2]) ps kvs /\
  ∀ p,H p=none->Q (.ref p) (upd H p (.dK (u5 [] kvs)))
theorem Kl (hc:X.calm=true) (hK:X.K=K:=by rfl):mZ X (.type "dict") (QI K):=by subst hK;exact Kb hc
theorem LM (hc:X.calm=true) (hK:X.K=K:=by rfl):mZ X (.builtin "any") (SQ K):=by subst hK;exact Rx hc
theorem KY (hc:X.calm=true) (hK:X.K=K:=by rfl):mZ X (.builtin "all") (Sv K):=by subst hK;exact QA hc
theorem Lu (hc:X.calm=true) (hK:X.K=K:=by rfl):mZ X (.builtin "sum") (R9 K):=by subst hK;exact QV hc
theorem Ma (hu:X.A.units+65 < cLine) (hK:X.K=K:=by rfl):Qz X "list.count" (K8 K):=by subst hK;exact Mn hu
theorem J0 (hK:X.K=K:=by rfl):Qz X "tuple.index" (Lb K):=by subst hK;exact MD
theorem kU {tg l:Expr} {tl:TE} (hl:PE X l tl) (hK:X.K=K:=by rfl):PI X tg l (Qk K tl):=by subst hK;exact Pk hl
theorem HM {tg l:Expr} {tl:TE} (hl:PE X l tl) (hK:X.K=K:=by rfl):PI X tg l (Si K tl):=by subst hK;exact QK hl
theorem ai {e:Expr} {f:Str} {pos:Pos} {ta:TE} (he:PE X e ta) (hb:attributeBase e f X.env (eval e X.env)=eval e X.env) (hK:X.K=K:=by rfl):PE X (.Attribute e f pos) (So K ta f):=by subst hK;exact RL he hb
theorem aS {o value:Expr} {f:Str} {pos pos':Pos} {ta tv:TE} (ha:PE X o ta) (hv:PE X value tv) (hs:swapsWith value (some (.Attribute o f pos')) pos.line X.env=pure false) (hK:X.K=K:=by rfl) :
  PS X (.Assign [.Attribute o f pos'] value pos) (RY K ta tv f):=by subst hK;exact QX ha hv hs
theorem gV {o value:Expr} {f:Str} {pos tpos:Pos} {ta tv:TE} {op:Operator} {rd:V->V->Hp->VK->Prop} (ha:PE X o ta) (hv:PE X value tv) (hop:Ov X op rd) (hK:X.K=K:=by rfl) :
  PS X (.AugAssign (.Attribute o f tpos) op value pos) (KH K ta tv rd f):=by subst hK;exact Mj ha hv hop
def RB (K:Uy) (ta:TE):TT:=λσ H Q=>ta σ H λx H'=>∃ k,Q3 K x H' k/\Q k H'
theorem ze {e:Expr} {ta:TE} (ha:PE X e ta) (he:∀ whole,isTrue e X.env whole=(do let v <- whole;standAt e.pos;holding [v] (truthy v))) (hK:X.K=K:=by rfl):PT X e (RB K ta):=by subst hK;exact NL ha he
def QF (K:Uy) (te tk:TE):TE:=λσ H Q=>te σ H λx H1=>tk σ H1 λy H2=>∃ (a:Addr) (xs:List V) (k:Int),x=.ref a/\y=.int k/\0 < k/\bf K H2 a xs/\∀ p,H2 p=none->Q (.ref p) (upd H2 p (.lst (Jo k xs)))
theorem OO {e st:Expr} {te tk:TE} {pos p2:Pos} (he:PE X e te) (hk:PE X st tk) (hK:X.K=K:=by rfl):PE X (.Subscript e (.Slice none none (some st) p2) pos) (QF K te tk):=by subst hK;exact MT he hk
theorem Ae {o e:Expr} {es:List Expr} {T:String} {name:Str} {id:String} {r:V->List V->Hp->VK->Prop} {to:TE} {t:TA} {apos pos:Pos} (pa:PlainAttrs T) (slot:Slot T name id) (hty:typeOf (.builtin id)=pure (.type "method_descriptor")) (hm:Qz X id r) (ho:PE X o to) (ha:PA X (e::es) t)
  (hbase:attributeBase o name X.env (eval o X.env)=eval o X.env:=by rfl)
  (hfew:((backTo pos (starEach (e::es) X.env)).all (λx=>!x.1)&&(backToKw pos (keywordEach [] X.env)).all (λx=>x.1.isSome)
   && decide ((e::es).length+([]:List Keyword).length+(if ([]:List Keyword).isEmpty then 0 else 1) < 30))=true:=by rfl)
  (hline:(apos.endLine == pos.line)=true:=by rfl) (hs:starEach (e::es) X.env=(false,eval e X.env)::starEach es X.env:=by rfl)
  (hpl:(backTo pos (starEach es X.env)).any (·.1)=false:=by rfl) (hK:X.K=K:=by rfl):PE X (.Call (.Attribute o name apos) (e::es) [] pos) (Ue K T r to t):=by
 subst hK
 exact Sh pa slot hty hm ho ha hbase hfew hline hs hpl
def Sl (t:TA):TE:=λσ H Q=>t σ H λxs H1=>xs.length<=sizeLine/\∀ (p:Addr) (o:Obj),H1 p=none->o.cls=.type "tuple"->o.dict=none->Q (.ref p) (upd H1 p (.frz o (.tup xs)))
theorem Pg {es:List Expr} {t:TA} {x1:Nat} {pos:Pos} (h:PA X es t):PE X (.Tuple es x1 pos) (Sl t):=by
 intro pins s σ H Q I hq
 refine wpAny_Tuple_spliced (dP (h pos pins s σ H _ I hq) λus s1 ⟨xs,H1,I1,r,z,q⟩=>⟨by rw [<- r.length];exact z,?_⟩)
 have hf:H1 s1.heap.objs.size=none:=I1.dz.fresh (UI _)
 refine ⟨.ref s1.heap.objs.size,upd H1 s1.heap.objs.size (.frz { cls:=.type "tuple",data:=.seq us.toArray } (.tup xs)),I1.laid (t':=s1.toks) (λb u e=>Heap.get?_push_of_some _ e) (UI _) ?_,rfl,q _ _ hf rfl rfl⟩
 exact ⟨Heap.get?_push_size _ rfl,z,us,r,⟨_,Heap.get?_push_size _ rfl,rfl,_,rfl⟩⟩
def T5 (T:String) (r:V->List V->Hp->VK->Prop) (to:TE) (t:TA):TE:=λσ H Q=>to σ H λx H1=>(∃ (p:Addr) (o:Obj) (u:HO),x=.ref p/\H1 p=some (.frz o u)/\o.cls=.type T/\o.dict=none)/\t σ H1 λxs H2=>r x xs H2 Q
theorem RD {o e:Expr} {es:List Expr} {T:String} {name:Str} {id:String} {r:V->List V->Hp->VK->Prop} {to:TE} {t:TA} {apos cpos:Pos} (pa:PlainAttrs T) (slot:Slot T name id) (hty:typeOf (.builtin id)=pure (.type "method_descriptor")) (hm:Qz X id r) (ho:PE X o to) (ha:PA X (e::es) t)
  (hbase:attributeBase o name X.env (eval o X.env)=eval o X.env:=by rfl)
  (hfew:((backTo cpos (starEach (e::es) X.env)).all (λx=>!x.1)&&(backToKw cpos (keywordEach [] X.env)).all (λx=>x.1.isSome)
   && decide ((e::es).length+([]:List Keyword).length+(if ([]:List Keyword).isEmpty then 0 else 1) < 30))=true:=by rfl)
  (hline:(apos.endLine == cpos.line)=true:=by rfl) (hs:starEach (e::es) X.env=(false,eval e X.env)::starEach es X.env:=by rfl) (hplain:(backTo cpos (starEach es X.env)).any (·.1)=false:=by rfl) :
  PE X (.Call (.Attribute o name apos) (e::es) [] cpos) (T5 T r to t):=by
 intro pins s σ H Q I h
 refine wpAny_Call_method_late hbase hfew hline rfl (dP (ho pins s σ H _ I h) λv s1 ⟨x,H1,I1,r1,⟨p,ob,u,ex,hp,hc,hd⟩,q1⟩=>?_)
 subst ex
 obtain rfl:v=Value.ref p:=r1
 obtain ⟨hg,_⟩:=I1.dz p _ hp
 refine ⟨T,id,pa,slot,hty,⟨ob,hg,hc⟩,λa e=>?_,?_⟩
 ·cases e
  exact ⟨ob,hg,hd⟩
 have hA:=ha cpos pins s1 σ H1 _ I1 q1
 rw [hs] at hA ⊢
 refine Calls.callWith_builtin (by show (false || (backTo cpos (starEach es X.env)).any (·.1))=false;rw [hplain]<;>rfl) (Calls.evalArgs_plain ?_)
 exact dP hA λus s2 ⟨vs,H2,I2,r2,q2⟩=>hm pins s2 σ H2 (.ref p) vs (.ref p) us Q I2 rfl r2 q2
end
theorem Qx:∀ {k:Key} {v:Value},zr k v=true->RelV (kV k) v:=λ{k v} h=>by
 rcases fu h with ⟨i,t,rfl,rfl⟩ | ⟨x,t,rfl,rfl⟩
 ·exact ⟨t,rfl⟩
 ·exact ⟨t,rfl⟩
section
variable {X:Cx}
theorem Oy (hc:X.calm=true):mZ X (.type "list") (λxs H Q=>∃ (d:Addr) (kvs:List (Key × V)),xs=[.ref d]/\H d=some (.dK kvs)/\∀ p,H p=none->Q (.ref p) (upd H p (.lst (kvs.map λkv=>kV kv.1)))):=by
 intro pins s σ H xs us Q I r h
 obtain ⟨d,kvs,rfl,hd,q⟩:=h
 obtain ⟨u,rfl,rx⟩:=vals1 r
 cases rx
 obtain ⟨hz,lo,vs,hkv,hD⟩:=KQ I.dz hd
 obtain ⟨ep,hat⟩:=hD.dictAt
 have hl:kvs.length=vs.length:=Paired.length hkv
 refine PySem.W.kdl_call (PySem.W.kdl_dict (knd:=aZ X.prog X.w) (kvs:=vs) (ep:=ep) lo) (I.ok.hd hc) hat (by omega) λh' tk acc c' hk hS hI=>?_
 refine ⟨.ref s.heap.objs.size,_,I.laid (t':=tk) (o:=.lst (kvs.map λkv=>kV kv.1)) hk (UI _) ⟨by rw [UA];exact hz,acc.toList,c',G3 (by rw [UA];simp [hI.1];omega) λi x u hx hu=>?_,by simpa using hS⟩,rfl,q _ (I.dz.fresh (UI _))⟩
 have hu':acc[i]?=some u:=by simpa using hu
 obtain ⟨k,y,e1,e2⟩:=hI.2 i u hu'
 rw [Ve] at hx
 cases e3:kvs[i]? with
 | none=>rw [e3] at hx;cases hx
 | some kv =>
  rw [e3] at hx
  cases hx
  have:kv.1=k:=by
   have:=congrArg (λl=>l[i]?) hkv.keys
   simp only [Ve,e3,e1,Option.map_some] at this
   exact Option.some.inj this
  show RelV (kV kv.1) u
  rw [this]
  exact Qx e2
end
section
variable {P:Program} {w:World} {K:Uy} {mg:Str->Option Value} {base:Heap} {a:bI}
theorem az.laid {H:Hp} {p:Addr} {o:HO} (h:H p=none):az H (upd H p o):=λb u e=>by rw [ak (aF e h)];exact e
theorem take_snoc {α:Type} {l:List α} {i:Nat} {x:α} (h:l[i]?=some x):l.take (i+1)=l.take i++[x]:=by
 rw [List.take_add_one,h]
 rfl
theorem sR {α β:Type} {f:α->β} {l:List α} {i:Nat} {y:β} (h:(l.map f)[i]?=some y):∃ x,l[i]?=some x/\y=f x:=by
 rw [Ve] at h
 cases e:l[i]? with
 | none=>rw [e] at h;cases h
 | some x=>rw [e] at h;exact ⟨x,rfl,(Option.some.inj h).symm⟩
theorem DT {σ:St} {H:Hp} {A B:Hp->Prop} (h:A H):RV σ H (λb H3=>if b=true then A H3 else B H3):=by
 show if true=true then A H else B H
 rw [if_pos rfl]
 exact h
def Il (z:Int):Bool:=decide (0<=z)&&decide (z < 1000)
def DP (K:Uy) (a:bI):Sp:=λvs H Q _=>∃ (p:Addr) (ns:List Int),vs=[.ref p]/\bf K H p (ns.map V.int)/\ns.length < sizeLine/\∀ H',az H H'->Q (.bl (ns.all Il)) H'
theorem rP (T:Txt K mg a):a8 P w K mg base eS 1 a.mx a.l9 ["row"] (DP K a):=by
 refine T.jG.ok tj ?_ ?_
 ·rintro _ _ _ _ ⟨_,_,rfl,_⟩
  rfl
 ·rintro cdv A outer s H _ Q E hr ⟨p,ns,rfl,hS,hz,k⟩
  refine ⟨_,(ao (aE (aU (KY (K:=K) rfl) (by rfl) T.Qo CS (aa (wX rfl tj.nd (kU (K:=K) (pv 0)) (fc (own:=[("number",1)]) (by show w8 ["row","number"] (aq pT) _ _=true;decide +kernel)) (λ_ _ _ _ _=>fq (i:=1) tj.nd rfl (Or.inl rfl)) (λ_ _ _ _ _=>oy) (λ_ _ _ _ _=>(vJ ku Jm ax (pv 1) (aO (by rfl) T.vy)))) aj)))),?_⟩
  refine ⟨_,rfl,p,rfl,⟨_,hS⟩,λD hD=>tO (xs:=ns.map V.int) (λi H'=>H' D=some (.lst ((ns.take i).map λz=>V.bl (Il z)))/\az H H') ⟨ae,az.laid hD⟩ (λi H' _ h=>h.2.seq hS) ?_ ?_⟩
  ·rintro i x H' hx ⟨h1,h2⟩
   obtain ⟨z,hz',rfl⟩:=sR hx
   refine ⟨rfl,DT ⟨_,rfl,T1 ⟨_,h1,?_,?_,?_⟩⟩⟩
   ·rw [UA,Va];omega
   ·rw [ae,take_snoc hz',U1];rfl
   ·intro b o e;rw [ak (aF e hD)];exact h2 b o e
  ·rintro H' ⟨h1,h2⟩
   rw [UA,VB] at h1
   refine ⟨D,ns.map Il,rfl,bf.of (by rw [h1,VG];rfl),?_⟩
   rw [List.all_map]
   exact k H' h2
def xA (K:Uy) (a:bI):Sp:=λvs H Q _=>∃ (p:Addr) (ns:List Int),vs=[.ref p]/\bf K H p (ns.map V.int)/\ns.length < sizeLine/\∀ H',az H H'->Q (.bl ((decide (1<=ns.length)&&decide (ns.length<=6))&&ns.all Il)) H'
theorem xU (T:Txt K mg a):a8 P w K mg base eS 2 a.eU a.eZ ["row"] (xA K a):=by
 refine T.ir.ok xC ?_ ?_
 ·rintro _ _ _ _ ⟨_,_,rfl,_⟩
  rfl
 ·rintro cdv A outer s H _ Q E hr ⟨p,ns,rfl,hS,hz,k⟩
  refine ⟨_,(ao (aE (BV (vJ ku ku ax (aU (a7 (K:=K)) (by rfl) T.dO UU (aa (pv 0) aj)) (aO (by rfl) T.Ff)) (BK (bE (rP T) hr.lo rfl T.l4 T.jG.kp T.l6 .nil aG (aa (pv 0) aj)))))),?_⟩
  refine ⟨_,rfl,p,_,rfl,.inl hS,?_⟩
  have e1:((ns.map V.int).length:Int)=(ns.length:Int):=by rw [UA]
  rw [e1]
  refine ⟨1,_,rfl,rfl,_,rfl,?_⟩
  by_cases h1:(1:Int)<=(ns.length:Int)
  ·rw [decide_eq_true h1]
   refine bc ⟨_,_,rfl,rfl,_,rfl,?_⟩
   by_cases h2:(ns.length:Int)<=6
   ·rw [decide_eq_true h2]
    refine bc ⟨_,rfl,p,ns,rfl,hS,hz,λH' q=>?_⟩
    have:=k H' q
    rw [decide_eq_true (show 1<=ns.length by omega),decide_eq_true (show ns.length<=6 by omega)] at this
    exact this
   ·rw [decide_eq_false h2]
    have:=k H (az.refl H)
    rw [decide_eq_false (show ¬ ns.length<=6 by omega),Bool.and_false] at this
    exact bu this
  ·rw [decide_eq_false h1]
   have:=k H (az.refl H)
   rw [decide_eq_false (show ¬ 1<=ns.length by omega),V7] at this
   refine bu ⟨_,rfl,bu this⟩
def o4 (o:UP):List V:=[.int (o.op:Nat),.int (o.x:Nat),.int (o.y:Nat),.int (o.z:Nat)]
def mf (l:List Nat):List V:=l.map λ(n:Nat)=>V.int (n:Int)
def xc (l:List Nat) (i:Nat):Nat:=l.getD (i % l.length) 0
theorem iq (l:List Nat):(mf l).length=l.length:=UA ..
theorem KW {l:List Nat} (h:0 < l.length) (i:Nat):l[i % l.length]?=some (xc l i):=by
 unfold xc
 have e:i % l.length < l.length:=Nat.mod_lt _ h
 rw [VE,Vo e]
 rfl
theorem Ap {l:List Nat} (hn:∀ n∈l,n < 1000) (h:0 < l.length) (i:Nat):xc l i < 1000:=hn _ (Vf (KW h i))
theorem Gb {l:List Nat} (h:0 < l.length) {x:Nat}:O2 (mf l) ((x:Int) % ((mf l).length:Int))=some (.int (xc l x:Nat)):=by
 refine at_of (j:=x % l.length) (by rw [iq];rfl) ?_
 unfold mf
 rw [Ve,KW h]
 rfl
theorem NC (x:Nat):decide (V.int (x:Int)=V.int 0)=decide (x=0):=by
 by_cases e:x=0
 ·subst e;rfl
 ·rw [decide_eq_false e,decide_eq_false]
  intro h
  injection h with h
  omega
theorem BW {x y:Int} {A B:Prop} (h1:x=y->A) (h2:¬ x=y->B):if decide (V.int x=V.int y)=true then A else B:=by
 by_cases e:x=y
 ·subst e
  rw [decide_eq_true rfl,if_pos rfl]
  exact h1 rfl
 ·rw [decide_eq_false (λh=>e (by injection h)),if_neg (by decide)]
  exact h2 e
def kq (o:UP) (l:List Nat):Int:=if o.op=3 then (o.y:Int) else if o.op=0 then ((xc l o.y:Int)+xc l o.z) % 1000 else if o.op=1 then ((xc l o.y:Int)+1000 - xc l o.z) % 1000 else (xc l o.y:Int) * xc l o.z % 1000
def HZ (K:Uy) (a:bI):Sp:=λvs H Q _=>∃ (p q:Addr) (o:UP) (l:List Nat),vs=[.ref p,.ref q]/\gc K H p (o4 o)/\gc K H q (mf l)/\0 < l.length/\(∀ n∈l,n < 1000)/\Q (.int (kq o l)) H
theorem GR (T:Txt K mg a):a8 P w K mg base eS 1 a.qd a.qe ["order","numbers"] (HZ K a):=by
 refine T.tH.ok rE ?_ ?_
 ·rintro _ _ _ _ ⟨_,_,_,_,rfl,_⟩
  rfl
 ·rintro cdv A outer s H _ Q E hr ⟨p,q,o,l,rfl,hP,hL,h0,hn,k⟩
  refine ⟨_,(ah (aP (i:=2) rE.nd rfl (Or.inl rfl) (aM (bR (K:=K)) (pv 0) ax (λ_ _=>rfl)))
   (ah (bj (a9 uf (pv 2) ax (bo _)) (ao (aE (aM (bR (K:=K)) (pv 0) ax (λ_ _=>rfl)))) aQ)
   (ah (aP (i:=3) rE.nd rfl (Or.inl rfl) (aM (bR (K:=K)) (pv 1) (b8 rL (aM (bR (K:=K)) (pv 0) ax (λ_ _=>rfl)) (aU (a7 (K:=K)) (by rfl) T.dO UU (aa (pv 1) aj))) (λ_ _=>rfl)))
   (ah (aP (i:=4) rE.nd rfl (Or.inl rfl) (aM (bR (K:=K)) (pv 1) (b8 rL (aM (bR (K:=K)) (pv 0) ax (λ_ _=>rfl)) (aU (a7 (K:=K)) (by rfl) T.dO UU (aa (pv 1) aj))) (λ_ _=>rfl)))
   (ah (bj (a9 uf (pv 2) ax (bo _)) (ao (aE (b8 rL (b8 zO (pv 3) (pv 4)) (aO (by rfl) T.vy)))) aQ)
   (ah (bj (a9 uf (pv 2) ax (bo _)) (ao (aE (b8 rL (b8 GH (b8 zO (pv 3) (aO (by rfl) T.vy)) (pv 4)) (aO (by rfl) T.vy)))) aQ)
   (ao (aE (b8 rL (b8 QD (pv 3) (pv 4)) (aO (by rfl) T.vy)))))))))),?_⟩
  have hL0:(0:Int) < ((mf l).length:Int):=by rw [iq];omega
  refine ⟨_,rfl,p,_,0,_,rfl,rfl,hP,at_of (j:=0) rfl rfl,?_⟩
  refine ⟨_,rfl,rfl,_,rfl,?_⟩
  refine BW (λh3=>?_) λh3=>?_
  ·refine ⟨_,rfl,p,_,2,_,rfl,rfl,hP,at_of (j:=2) rfl rfl,?_⟩
   have e:kq o l=(o.y:Int):=by unfold kq;rw [if_pos (by omega)]
   rw [e] at k
   exact k
  refine ⟨_,rfl,_,rfl,p,_,2,_,rfl,rfl,hP,at_of (j:=2) rfl rfl,_,rfl,q,_,rfl,.inr hL,_,_,rfl,rfl,hL0,q,_,_,_,rfl,rfl,hL,Gb h0,?_⟩
  refine ⟨_,rfl,_,rfl,p,_,3,_,rfl,rfl,hP,at_of (j:=3) rfl rfl,_,rfl,q,_,rfl,.inr hL,_,_,rfl,rfl,hL0,q,_,_,_,rfl,rfl,hL,Gb h0,?_⟩
  refine ⟨_,rfl,rfl,_,rfl,?_⟩
  refine BW (λh4=>?_) λh4=>?_
  ·refine ⟨_,rfl,_,rfl,_,_,rfl,rfl,_,_,rfl,rfl,(by show (0:Int) < 1000;decide),?_⟩
   have e:kq o l=((xc l o.y:Int)+xc l o.z) % 1000:=by unfold kq;rw [if_neg (by omega),if_pos (by omega)]
   rw [e] at k
   exact k
  refine ⟨_,rfl,rfl,_,rfl,?_⟩
  refine BW (λh5=>?_) λh5=>?_
  ·refine ⟨_,rfl,_,_,rfl,rfl,_,rfl,_,_,rfl,rfl,_,_,rfl,rfl,(by show (0:Int) < 1000;decide),?_⟩
   have e:kq o l=((xc l o.y:Int)+1000 - xc l o.z) % 1000:=by unfold kq;rw [if_neg (by omega),if_neg (by omega),if_pos (by omega)]
   rw [e] at k
   exact k
  have b:=Ap hn h0 o.y
  refine ⟨_,rfl,_,rfl,_,_,rfl,rfl,.inl ⟨by omega,by omega⟩,_,_,rfl,rfl,(by show (0:Int) < 1000;decide),?_⟩
  have e:kq o l=(xc l o.y:Int) * xc l o.z % 1000:=by unfold kq;rw [if_neg (by omega),if_neg (by omega),if_neg (by omega)]
  rw [e] at k
  exact k
def Co (o:UP) (l:List Nat):Bool:=if o.op=5 then decide (xc l o.x=0) else (decide (o.op=6)&&decide (xc l o.x < xc l o.y))
def Oq (K:Uy) (a:bI):Sp:=λvs H Q _=>∃ (p q:Addr) (o:UP) (l:List Nat),vs=[.ref p,.ref q]/\gc K H p (o4 o)/\gc K H q (mf l)/\0 < l.length/\Q (.bl (Co o l)) H
theorem NM (T:Txt K mg a):a8 P w K mg base eS 1 a.AU a.AG ["order","numbers"] (Oq K a):=by
 refine T.DI.ok Jf ?_ ?_
 ·rintro _ _ _ _ ⟨_,_,_,_,rfl,_⟩
  rfl
 ·rintro cdv A outer s H _ Q E hr ⟨p,q,o,l,rfl,hP,hL,h0,k⟩
  refine ⟨_,(ah (aP (i:=2) Jf.nd rfl (Or.inl rfl) (aM (bR (K:=K)) (pv 1) (b8 rL (aM (bR (K:=K)) (pv 0) ax (λ_ _=>rfl)) (aU (a7 (K:=K)) (by rfl) T.dO UU (aa (pv 1) aj))) (λ_ _=>rfl)))
   (ah (bj (a9 uf (aM (bR (K:=K)) (pv 0) ax (λ_ _=>rfl)) ax (bo _)) (ao (aE (nU uf (pv 2) ax (bo _)))) aQ)
   (ao (aE (BV (nU uf (aM (bR (K:=K)) (pv 0) ax (λ_ _=>rfl)) ax (bo _)) (BK (nU Jm (pv 2) (aM (bR (K:=K)) (pv 1) (b8 rL (aM (bR (K:=K)) (pv 0) ax (λ_ _=>rfl)) (aU (a7 (K:=K)) (by rfl) T.dO UU (aa (pv 1) aj))) (λ_ _=>rfl)) (bo _)))))))),?_⟩
  have hL0:(0:Int) < ((mf l).length:Int):=by rw [iq];omega
  refine ⟨_,rfl,_,rfl,p,_,1,_,rfl,rfl,hP,at_of (j:=1) rfl rfl,_,rfl,q,_,rfl,.inr hL,_,_,rfl,rfl,hL0,q,_,_,_,rfl,rfl,hL,Gb h0,?_⟩
  refine ⟨_,rfl,p,_,0,_,rfl,rfl,hP,at_of (j:=0) rfl rfl,rfl,_,rfl,?_⟩
  refine BW (λh3=>?_) λh3=>?_
  ·refine ⟨_,rfl,rfl,?_⟩
   unfold Co at k
   rw [if_pos (by omega),<- NC] at k
   exact k
  unfold Co at k
  rw [if_neg (by omega)] at k
  refine ⟨_,rfl,p,_,0,_,rfl,rfl,hP,at_of (j:=0) rfl rfl,rfl,_,rfl,?_⟩
  refine BW (λh4=>?_) λh4=>?_
  ·refine ⟨_,rfl,_,rfl,_,rfl,p,_,2,_,rfl,rfl,hP,at_of (j:=2) rfl rfl,_,rfl,q,_,rfl,.inr hL,_,_,rfl,rfl,hL0,q,_,_,_,rfl,rfl,hL,Gb h0,_,_,rfl,rfl,?_⟩
   rw [decide_eq_true (show o.op=6 by omega),VU] at k
   have e:decide ((xc l o.x:Int) < (xc l o.y:Int))=decide (xc l o.x < xc l o.y):=by simp only [Int.ofNat_lt]
   rw [<- e] at k
   exact k
  ·rw [decide_eq_false (show ¬ o.op=6 by omega),V7] at k
   exact k
end
section
variable {P:Program} {w:World} {K:Uy} {mg:Str->Option Value} {base:Heap} {a:bI}
theorem AO {o:UP} {l:List Nat} (hy:o.y < 1000):0<=kq o l/\kq o l < 1000:=by
 unfold kq
 split
 ·omega
 ·split
  ·omega
  ·split
   ·omega
   ·omega
theorem GL (l:List Nat) (i v:Nat):(mf l).set i (.int (v:Int))=mf (l.set i v):=by
 unfold mf
 rw [List.map_set]
def qR (o:UP) (l:List Nat):List Nat:=if o.op<=3 then l.set (o.x % l.length) (kq o l).toNat else if o.op=4 then (l.set (o.x % l.length) (xc l o.y)).set (o.y % l.length) (xc l o.x) else l
theorem DY (o:UP) (l:List Nat):(qR o l).length=l.length:=by
 unfold qR
 split
 ·simp
 ·split<;>simp
theorem Hk {n j:Nat} {z:Int} (e:z=(j:Int)) (h:j < n):O3 n z=some j:=by
 subst e
 unfold O3
 rw [if_pos (Int.natCast_nonneg j),if_pos (by omega),Wo]
theorem gc.same {H H':Hp} {p:Addr} {xs:List V} (e:az H H') (h:gc K H p xs):gc K H' p xs:=by
 rcases h with (h | ⟨o,h⟩) | h
 ·exact .inl (.inl (e _ _ h))
 ·exact .inl (.inr ⟨o,e _ _ h⟩)
 ·exact .inr h
theorem cS {H H1:Hp} {p:Addr} {o:HO} (e:az H H1) (h:H p=none):az H (upd H1 p o):=λb u q=>by
 rw [ak (aF q h)]
 exact e b u q
theorem OM {x y:Int} {A B:Prop} (h1:x<=y->A) (h2:¬ x<=y->B):if decide (x<=y)=true then A else B:=by
 by_cases e:x<=y
 ·rw [decide_eq_true e,if_pos rfl]
  exact h1 e
 ·rw [decide_eq_false e,if_neg (by decide)]
  exact h2 e
def Cp (K:Uy) (a:bI):Sp:=λvs H Q _=>∃ (p q:Addr) (o:UP) (l:List Nat),vs=[.ref p,.ref q]/\gc K H p (o4 o)/\gc K H q (mf l)/\0 < l.length/\(∀ n∈l,n < 1000)/\o.y < 1000 /\
 ∀ (H':Hp) (c:Addr),az H H'->H c=none->H' c=some (.lst (mf (qR o l)))->Q (.ref c) H'
theorem Ck (T:Txt K mg a):a8 P w K mg base eS 2 a.jt a.ju ["order","numbers"] (Cp K a):=by
 refine T.my.ok lA ?_ ?_
 ·rintro _ _ _ _ ⟨_,_,_,_,rfl,_⟩
  rfl
 ·rintro cdv A outer s H _ Q E hr ⟨p,q,o,l,rfl,hP,hL,h0,hn,hy,k⟩
  refine ⟨_,(ah (aP (i:=2) lA.nd rfl (Or.inl rfl) (gb (Ce (K:=K)) (by rfl) T.Hd rq (aa (pv 1) aj)))
   (ah (aP (i:=3) lA.nd rfl (Or.inl rfl) (b8 rL (aM (bR (K:=K)) (pv 0) ax (λ_ _=>rfl)) (aU (a7 (K:=K)) (by rfl) T.dO UU (aa (pv 1) aj))))
   (ah (bj (a9 ku (aM (bR (K:=K)) (pv 0) ax (λ_ _=>rfl)) ax (bo _)) (ao (Kn (bE (GR T) hr.lo rfl T.x5 T.tH.kp T.xT .nil aG (aa (pv 0) (aa (pv 1) aj))) (JT (pv 2) (pv 3) set_list))) (ao (bj (a9 uf (aM (bR (K:=K)) (pv 0) ax (λ_ _=>rfl)) ax (bo _)) (ah (aP (i:=4) lA.nd rfl (Or.inl rfl) (b8 rL (aM (bR (K:=K)) (pv 0) ax (λ_ _=>rfl)) (aU (a7 (K:=K)) (by rfl) T.dO UU (aa (pv 1) aj))))
   (ah (Kn (aM (bR (K:=K)) (pv 1) (pv 4) (λ_ _=>rfl)) (JT (pv 2) (pv 3) set_list))
   (ao (Kn (aM (bR (K:=K)) (pv 1) (pv 3) (λ_ _=>rfl)) (JT (pv 2) (pv 4) set_list))))) aQ)))
   (ao (aE (pv 2)))))),?_⟩
  have hL0:(0:Int) < ((mf l).length:Int):=by rw [iq];omega
  have hx:o.x % l.length < l.length:=Nat.mod_lt _ h0
  have hyl:o.y % l.length < l.length:=Nat.mod_lt _ h0
  have ex:((o.x:Int) % ((mf l).length:Int))=((o.x % l.length:Nat):Int):=by rw [iq];rfl
  have ey:((o.y:Int) % ((mf l).length:Int))=((o.y % l.length:Nat):Int):=by rw [iq];rfl
  refine ⟨_,rfl,q,_,rfl,.inr hL,λc hc=>?_⟩
  have s1:az H (upd H c (.lst (mf l))):=az.laid hc
  have hP1:=gc.same s1 hP
  have hL1:=gc.same s1 hL
  refine ⟨_,rfl,p,_,1,_,rfl,rfl,hP1,at_of (j:=1) rfl rfl,_,rfl,q,_,rfl,.inr hL1,_,_,rfl,rfl,hL0,?_⟩
  refine ⟨_,rfl,p,_,0,_,rfl,rfl,hP1,at_of (j:=0) rfl rfl,_,_,rfl,rfl,_,rfl,?_⟩
  refine OM (λh3=>?_) λh3=>?_
  ·refine ⟨_,rfl,_,rfl,p,q,o,l,rfl,hP1,hL1,h0,hn,?_⟩
   refine ⟨_,rfl,_,rfl,c,_,_,_,rfl,rfl,ae,Hk ex (by rw [iq];exact hx),?_⟩
   refine ⟨_,rfl,?_⟩
   refine k _ c (cS s1 hc) hc ?_
   rw [ae]
   obtain ⟨v,hv⟩:∃ v:Nat,kq o l=(v:Int):=⟨(kq o l).toNat,by have:=AO (l:=l) hy;omega⟩
   unfold qR
   rw [if_pos (by omega),hv,GL,Wo]
  refine ⟨_,rfl,p,_,0,_,rfl,rfl,hP1,at_of (j:=0) rfl rfl,rfl,_,rfl,?_⟩
  refine BW (λh4=>?_) λh4=>?_
  ·refine ⟨_,rfl,p,_,2,_,rfl,rfl,hP1,at_of (j:=2) rfl rfl,_,rfl,q,_,rfl,.inr hL1,_,_,rfl,rfl,hL0,?_⟩
   refine ⟨_,rfl,_,rfl,q,_,_,_,rfl,rfl,hL1,Gb h0,_,rfl,_,rfl,c,_,_,_,rfl,rfl,ae,Hk ex (by rw [iq];exact hx),?_⟩
   have s2:=cS (o:=.lst ((mf l).set (o.x % l.length) (.int (xc l o.y:Nat)))) s1 hc
   refine ⟨_,rfl,_,rfl,q,_,_,_,rfl,rfl,gc.same s2 hL,Gb h0,_,rfl,_,rfl,c,_,_,_,rfl,rfl,ae,Hk ey (by rw [Vb,iq];exact hyl),?_⟩
   refine ⟨_,rfl,?_⟩
   refine k _ c (cS s2 hc) hc ?_
   rw [ae]
   unfold qR
   rw [if_neg (by omega),if_pos (by omega),GL,GL]
  ·refine ⟨_,rfl,?_⟩
   refine k _ c s1 hc ?_
   unfold qR
   rw [if_neg (by omega),if_neg (by omega)]
   exact ae
end
def Bn (o:UP):Prop:=o.op<=7/\o.x < 1000/\o.y < 1000/\o.z < 1000
structure ik (p:List UP) (n:Nat) (s:UB):Prop where
 at_:s.at_ < p.length
 len:s.nums.length=n
 pos:0 < n
 nums:∀ v∈s.nums,v < 1000
theorem An {l:List Nat} {i v:Nat} (h:∀ x∈l,x < 1000) (hv:v < 1000):∀ x∈l.set i v,x < 1000:=λx hx=>by
 rcases List.mem_or_eq_of_mem_set hx with q | q
 ·exact h x q
 ·omega
theorem MC {o:UP} {l:List Nat} (ho:Bn o) (hl:∀ v∈l,v < 1000) (h0:0 < l.length):∀ v∈qR o l,v < 1000:=by
 unfold qR
 split
 ·have:=AO (o:=o) (l:=l) ho.2.2.1
  exact An hl (by omega)
 ·split
  ·exact An (An hl (Ap hl h0 _)) (Ap hl h0 _)
  ·exact hl
theorem Kx {o:UP} {l:List Nat} (ho:Bn o) (hl:∀ v∈l,v < 1000) (h0:0 < l.length) :
  (kq o l).toNat=(if o.op=3 then o.y else if o.op=0 then xc l o.y+xc l o.z else if o.op=1 then xc l o.y+1000 - xc l o.z % 1000 else xc l o.y * xc l o.z) % 1000:=by
 have h1:=Ap hl h0 o.y
 have h2:=Ap hl h0 o.z
 have h3:=ho.2.2.1
 unfold kq
 split
 ·omega
 ·split
  ·omega
  ·split
   ·omega
   ·have e:(xc l o.y:Int) * (xc l o.z:Int)=((xc l o.y * xc l o.z:Nat):Int):=by push_cast;rfl
    rw [e]
    omega
theorem K7 {p:List UP} {n:Nat} {s:UB} {o:UP} (h:ik p n s) (hp:p[s.at_]?=some o) (ho:Bn o) :
  VQ p s=⟨(if Co o s.nums=true then o.z else s.at_+1) % p.length,qR o s.nums⟩:=by
 have e0:s.at_ % p.length=s.at_:=Nat.mod_eq_of_lt h.at_
 have hl:0 < s.nums.length:=by have:=h.len;have:=h.pos;omega
 have hn:∀ i,Vbapaj.num s i=xc s.nums i:=λi=>rfl
 have pv:=Kx ho h.nums hl
 have h1:=Ap h.nums hl o.x
 have h2:=Ap h.nums hl o.y
 unfold VQ
 rw [e0,hp]
 simp only [hn,Vbapaj.withNum,Vbapaj.M]
 unfold Co qR
 by_cases c0:o.op=0
 ·simp [c0] at pv ⊢
  rw [pv]
 by_cases c1:o.op=1
 ·simp [c1] at pv ⊢
  rw [pv]
 by_cases c2:o.op=2
 ·simp [c2] at pv ⊢
  rw [pv]
 by_cases c3:o.op=3
 ·simp [c3] at pv ⊢
  rw [pv]
 by_cases c4:o.op=4
 ·simp [c4,Nat.mod_eq_of_lt h1,Nat.mod_eq_of_lt h2]
 by_cases c5:o.op=5
 ·simp [c5]
  split<;>rfl
 by_cases c6:o.op=6
 ·simp [c6]
  split<;>rfl
 have h3:=ho.1
 have c7:o.op=7:=by omega
 simp [c7]
theorem LD {p:List UP} {n:Nat} {s:UB} (h:ik p n s) (hp:∀ o∈p,Bn o):ik p n (VQ p s):=by
 obtain ⟨o,ho⟩:∃ o,p[s.at_]?=some o:=⟨_,Vo h.at_⟩
 have hl:0 < s.nums.length:=by have:=h.len;have:=h.pos;omega
 have ok:=hp o (Vf ho)
 rw [K7 h ho ok]
 exact ⟨Nat.mod_lt _ (Nat.lt_of_le_of_lt (U9 _) h.at_),by rw [DY];exact h.len,h.pos,MC ok h.nums hl⟩
theorem Ak (p:List UP):∀ (k:Nat) (s:UB),VH p (k+1) s=VQ p (VH p k s)
 | 0,s=>rfl
 | k+1,s=>by
  show VH p (k+1) (VQ p s)=_
  rw [Ak p k]
  rfl
theorem AA {p:List UP} {n:Nat} {s:UB} (h:ik p n s) (hp:∀ o∈p,Bn o):∀ k,ik p n (VH p k s)
 | 0=>h
 | k+1=>by
  rw [Ak]
  exact LD (AA h hp k) hp
def Fq (s:UB):List V:=.int (s.at_:Nat)::mf s.nums
def TR (lo ls:Addr):List (Str × V):=[("orders",.ref lo),("states",.ref ls)]
structure rX (a:bI) (H:Hp) (r lo ls:Addr) (os ts:List Addr) (prog:List UP) (b:UB):Prop where
 run:∃ dx,H r=some (.ins a.jz dx (TR lo ls))
 BX:H lo=some (.lst (os.map V.ref))
 Od:os.length=prog.length
 Uk:∀ (i:Nat) (q:Addr) (o:UP),os[i]?=some q->prog[i]?=some o->H q=some (.tup (o4 o))
 EY:H ls=some (.lst (ts.map V.ref))
 Kq:0 < ts.length
 ne:lo≠ls
 sat:∀ (i:Nat) (t:Addr),ts[i]?=some t->H t=some (.tup (Fq (VH prog i b)))
structure xq (p:List UP):Prop where
 pos:0 < p.length
 le:p.length<=20
 BX:∀ o∈p,Bn o
theorem Ta (x:V) (r:List V):zE (x::r) (some 1) none=r:=by
 unfold zE HT.pR
 simp
section
variable {P:Program} {w:World} {K:Uy} {mg:Str->Option Value} {base:Heap} {a:bI}
theorem NA {σ:St} {H:Hp} {Q:VK} {c:Bool} {ta tb:TE} (v:V) (h1:c=true->∀ Q:VK,Q v H->ta σ H Q) (h2:c=false->∀ Q:VK,Q v H->tb σ H Q) (h:Q v H):if c=true then ta σ H Q else tb σ H Q:=by
 cases c with
 | true=>exact bc (h1 rfl Q h)
 | false=>exact bu (h2 rfl Q h)
theorem KR {xs:List V} {v:V} (h:xs[xs.length - 1]?=some v):O2 xs (-1)=some v:=by
 have hl:=(U5.mp h).1
 unfold O2 O3
 rw [if_neg (by decide),if_pos (by omega)]
 show xs[(-1+(xs.length:Int)).toNat]?=some v
 rw [show (-1+(xs.length:Int)).toNat=xs.length - 1 by omega]
 exact h
def zh (K:Uy) (a:bI):Sp:=λvs H Q _=>∃ (r lo ls t:Addr) (os ts:List Addr) (prog:List UP) (b s:UB) (n:Nat),vs=[.ref r,.ref t]/\rX a H r lo ls os ts prog b/\xq prog/\n<=6/\ik prog n s/\gc K H t (Fq s) /\
 ∀ (H':Hp) (t':Addr),az H H'->H t'=none->H' t'=some (.tup (Fq (VQ prog s)))->Q (.ref t') H'
theorem lP (T:Txt K mg a):a8 P w K mg base eS 3 a.fQ a.fE ["self","state"] (zh K a):=by
 refine T.mJ.ok ip ?_ ?_
 ·rintro _ _ _ _ ⟨_,_,_,_,_,_,_,_,_,_,rfl,_⟩
  rfl
 ·rintro cdv A outer s H _ Q E hr ⟨r,lo,ls,t,os,ts,prog,b,s0,n,rfl,R,OP,hn6,OS,hT,k⟩
  refine ⟨_,(ah (aP (i:=2) ip.nd rfl (Or.inl rfl) (aM (aB (K:=K)) (ai (K:=K) (pv 0) rfl) (aM (bR (K:=K)) (pv 1) ax (λ_ _=>rfl)) (λ_ _=>rfl)))
   (ah (aP (i:=3) ip.nd rfl (Or.inl rfl) (AK (Pz (K:=K)) (pv 1) (zd ax) Lh))
   (ah (aP (i:=4) ip.nd rfl (Or.inl rfl) (ox (bJ (bE (NM T) hr.lo rfl T.HS T.DI.kp T.Ht .nil aG (aa (pv 2) (aa (pv 3) aj)))) (aM (bR (K:=K)) (pv 2) ax (λ_ _=>rfl)) (b8 zO (aM (bR (K:=K)) (pv 1) ax (λ_ _=>rfl)) ax)))
   (ao (aE (gb (vO (K:=K)) (by rfl) T.y9 jK (aa (b8 lQ (aT (aa (b8 rL (pv 4) (aU (a7 (K:=K)) (by rfl) T.dO UU (aa (ai (K:=K) (pv 0) rfl) aj))) aj)) (bE (Ck T) hr.lo rfl T.qI T.my.kp T.qS .nil aG (aa (pv 2) (aa (pv 3) aj)))) aj))))))),?_⟩
  obtain ⟨dx,hr0⟩:=R.run
  obtain ⟨o,ho⟩:∃ o,prog[s0.at_]?=some o:=⟨_,Vo OS.at_⟩
  obtain ⟨q,hq⟩:∃ q,os[s0.at_]?=some q:=⟨_,Vo (by rw [R.Od];exact OS.at_)⟩
  have hQ:=R.Uk _ q o hq ho
  have ok:=OP.BX o (Vf ho)
  have hl:0 < s0.nums.length:=by have:=OS.len;have:=OS.pos;omega
  refine ⟨_,rfl,r,a.jz,dx,_,_,rfl,hr0,T.mW,T.rp,rfl,_,rfl,t,_,0,_,rfl,rfl,hT,at_of (j:=0) rfl rfl,lo,_,_,_,rfl,rfl,bf.of R.BX,at_of (j:=s0.at_) (v:=.ref q) rfl (by rw [Ve,hq];rfl),?_⟩
  refine ⟨_,rfl,1,rfl,t,_,rfl,hT,(by show ¬ _;unfold Fq HT.pR;simp),λnn hnn=>?_⟩
  have s1:az H (upd H nn (.tup (zE (Fq s0) (some 1) none))):=az.laid hnn
  have hN:gc K (upd H nn (.tup (zE (Fq s0) (some 1) none))) nn (mf s0.nums):=gc.of (by rw [ae];unfold Fq;rw [Ta])
  refine ⟨_,rfl,_,rfl,q,nn,o,s0.nums,rfl,gc.of (s1 _ _ hQ),hN,hl,_,rfl,?_⟩
  generalize hpl:(if Co o s0.nums=true then o.z else s0.at_+1:Nat)=pl
  refine NA (.int (pl:Int)) (λhc Q' hq'=>⟨_,rfl,q,_,3,_,rfl,rfl,gc.of (s1 _ _ hQ),at_of (j:=3) (v:=.int (pl:Int)) rfl (by rw [<- hpl,if_pos hc];rfl),hq'⟩)
   (λhc Q' hq'=>⟨_,rfl,t,_,0,_,rfl,rfl,gc.same s1 hT,at_of (j:=0) rfl rfl,_,_,rfl,rfl,(by rw [<- hpl,if_neg (by rw [hc];decide)] at hq';exact hq')⟩) ?_
  refine ⟨_,rfl,_,rfl,r,a.jz,dx,_,_,rfl,s1 _ _ hr0,T.mW,T.rp,rfl,lo,_,rfl,.inl (bf.of (s1 _ _ R.BX)),_,_,rfl,rfl,?_,?_,λc hc=>?_⟩
  ·show (0:Int) < ((os.map V.ref).length:Int)
   rw [UA,R.Od]
   have:=OP.pos
   omega
  ·show 1<=sizeLine
   decide
  have s2:=cS (o:=.lst [.int ((pl:Int) % ((os.map V.ref).length:Int))]) s1 (s1.free hc)
  refine ⟨_,rfl,_,rfl,q,nn,o,s0.nums,rfl,gc.of (s2 _ _ hQ),?_,hl,OS.nums,ok.2.2.1,λH3 d sm hd hd3=>?_⟩
  ·have:=az.laid (o:=.lst [.int ((pl:Int) % ((os.map V.ref).length:Int))]) hc
   exact gc.same this hN
  refine ⟨c,d,_,_,rfl,rfl,sm _ _ ae,hd3,?_,λe he=>?_⟩
  ·show 1+(mf (qR o s0.nums)).length<=sizeLine
   rw [iq,DY,OS.len,sizeLine_eq]
   omega
  have s3:az H H3:=s2.trans sm
  refine ⟨e,_,rfl,.inl ⟨bf.of ae,λt' ht'=>?_⟩⟩
  have he3:H e=none:=s3.free he
  have s4:=cS (o:=.lst ([.int ((pl:Int) % ((os.map V.ref).length:Int))]++mf (qR o s0.nums))) s3 he3
  refine k _ t' (cS s4 (s4.free ht')) (s4.free ht') ?_
  rw [ae,K7 OS ho ok,hpl,UA,R.Od]
  rfl
def Sd (ls:Addr) (n:Nat) (H:Hp):Nat:=match H ls with
 | some (.lst xs)=>n+1 - xs.length
 | _=>0
def RP (l:Addr) (H H':Hp):Prop:=∀ b o,H b=some o->b≠l->H' b=some o
def Df (K:Uy) (a:bI):Sp:=λvs H Q _=>∃ (r lo ls:Addr) (os ts:List Addr) (prog:List UP) (b:UB) (n m:Nat),vs=[.ref r,.int (m:Int)]/\rX a H r lo ls os ts prog b/\xq prog/\n<=6/\ik prog n b/\m<=2000/\ts.length<=2001 /\
 ∀ (H':Hp) (t:Addr) (ts':List Addr),RP ls H H'->rX a H' r lo ls os ts' prog b->ts'.length<=2001->H' t=some (.tup (Fq (VH prog m b)))->Q (.ref t) H'
theorem qH (T:Txt K mg a):a8 P w K mg base eS 4 a.lg a.k7 ["self","turn"] (Df K a):=by
 refine T.sP.ok C3 ?_ ?_
 ·rintro _ _ _ _ ⟨_,_,_,_,_,_,_,_,_,rfl,_⟩
  rfl
 ·rintro cdv A outer s H _ Q E hr ⟨r,lo,ls,os,ts,prog,b,n,m,rfl,R,OP,hn6,OB,hm,htl,k⟩
  refine ⟨_,(ah (EJ PassesOwn.never (a9 ku (aU (a7 (K:=K)) (by rfl) T.dO UU (aa (ai (K:=K) (pv 0) rfl) aj)) (pv 1) (bo _)) (ao (bU (Ae (K:=K) Wu PySem.F.slot_list_append PySem.F.type_list_append BO (ai (K:=K) (pv 0) rfl) (aa (aK (pv 0) T.mW T.fG (lP T) hr.lo T.fH .nil aG (aa (aM (aB (K:=K)) (ai (K:=K) (pv 0) rfl) (Qp Nd ax) (λ_ _=>rfl)) aj)) aj)))))
   (ao (aE (aM (aB (K:=K)) (ai (K:=K) (pv 0) rfl) (pv 1) (λ_ _=>rfl))))),?_⟩
  refine Iv (λσ H'=>σ=[some (.ref r),some (.int (m:Int))]/\∃ ts',RP ls H H'/\rX a H' r lo ls os ts' prog b/\ts'.length<=2001) (λσ H'=>Sd ls m H') ⟨rfl,ts,λb o e _=>e,R,htl⟩ ?_ ?_
  ·rintro σ H1 ⟨rfl,ts1,bt,R1,hl1⟩
   obtain ⟨dx,hr1⟩:=R1.run
   have lsr:ls≠r:=aV R1.EY hr1 (by intro z;cases z)
   refine ⟨_,rfl,r,a.jz,dx,_,_,rfl,hr1,T.mW,T.lE,rfl,ls,_,rfl,.inl (bf.of R1.EY),_,rfl,_,_,rfl,rfl,_,rfl,?_⟩
   rw [UA]
   refine OM (λh1=>?_) λh1=>?_
   ·obtain ⟨t1,ht1⟩:∃ t1,ts1[ts1.length - 1]?=some t1:=⟨_,Vo (by have:=R1.Kq;omega)⟩
    have hS:=R1.sat _ _ ht1
    refine ⟨_,rfl,r,a.jz,dx,_,_,rfl,hr1,T.mW,T.lE,rfl,.inl ⟨rfl,_,bf.of R1.EY⟩,_,rfl,r,dx,_,rfl,hr1,rfl,_,rfl,r,a.jz,dx,_,_,rfl,hr1,T.mW,T.lE,rfl,1,rfl,ls,_,_,_,rfl,rfl,bf.of R1.EY,
     KR (v:=.ref t1) (by rw [UA,Ve,ht1];rfl),?_⟩
    refine ⟨r,lo,ls,t1,os,ts1,prog,b,_,n,rfl,R1,OP,hn6,AA OB OP.BX _,gc.of hS,λH2 t2 sm ht2 hH2=>?_⟩
    have hls2:=sm _ _ R1.EY
    refine ⟨ls,_,_,rfl,rfl,hls2,by rw [UA,sizeLine_eq];omega,?_⟩
    have keep:∀ (c:Addr) (u:HO),H1 c=some u->c≠ls->upd H2 ls (.lst (ts1.map V.ref++[.ref t2])) c=some u:=λc u e ne=>by
     rw [ak ne]
     exact sm _ _ e
    have ntl:t2≠ls:=λe=>by rw [e] at ht2;rw [R1.EY] at ht2;cases ht2
    refine ⟨⟨rfl,ts1++[t2],λc u e ne=>keep c u (bt c u e ne) ne,⟨⟨dx,keep _ _ hr1 lsr.symm⟩,keep _ _ R1.BX ?_,R1.Od,λi q o hq ho=>?_,?_,?_,R1.ne,λi t ht=>?_⟩,?_⟩,?_⟩
    ·exact R1.ne
    ·have hq2:=R1.Uk i q o hq ho
     exact keep _ _ hq2 (aV hq2 R1.EY (by intro z;cases z))
    ·rw [ae,U1];rfl
    ·rw [Vk];have:=R1.Kq;omega
    ·by_cases hi:i < ts1.length
     ·rw [WB hi] at ht
      have q2:=R1.sat i t ht
      exact keep _ _ q2 (aV q2 R1.EY (by intro z;cases z))
     ·rw [Wm (by omega)] at ht
      have hi2:i=ts1.length:=by
       have:=(U5.mp ht).1
       simp at this
       omega
      subst hi2
      rw [Wv] at ht
      cases ht
      rw [ak ntl,hH2]
      have e3:ts1.length=ts1.length - 1+1:=by have:=R1.Kq;omega
      rw [e3,Ak]
      rfl
    ·rw [Vk];simp;omega
    ·unfold Sd
     rw [ae,R1.EY]
     simp only [Vk,UA,List.length_singleton]
     omega
   ·obtain ⟨t1,ht1⟩:∃ t1,ts1[m]?=some t1:=⟨_,Vo (by omega)⟩
    refine ⟨_,rfl,r,a.jz,dx,_,_,rfl,hr1,T.mW,T.lE,rfl,_,rfl,ls,_,_,_,rfl,rfl,bf.of R1.EY,at_of (j:=m) (v:=.ref t1) rfl (by rw [Ve,ht1];rfl),?_⟩
    exact k H1 t1 ts1 bt R1 hl1 (R1.sat m t1 ht1)
  ·rintro σ H1 Q1 Q2 hq ⟨v,e1,a1,C1,dx1,fs,v',e2,h1,c1,n1,l1,p,ys,e3,hs,v2,e4,i,j,e5,e6,kk,e7,q⟩
   exact ⟨v,e1,a1,C1,dx1,fs,v',e2,h1,c1,n1,l1,p,ys,e3,hs,v2,e4,i,j,e5,e6,kk,e7,hq _ _ q⟩
end
def vp (o:UP):List Int:=[(o.op:Int),(o.x:Int),(o.y:Int),(o.z:Int)]
def tR (p:List UP):List Int:=p.flatMap vp
theorem Bz (p:List UP):(tR p).length=4 * p.length:=by
 induction p with
 | nil=>rfl
 | cons o r ih=>show (vp o++tR r).length=4 * (r.length+1);rw [Vk,ih];simp [vp];omega
theorem E9:∀ {p:List UP} {i:Nat} {o:UP},p[i]?=some o->((tR p).drop (4 * i)).take 4=vp o
 | [],i,o,h=>by simp at h
 | q::r,0,o,h=>by
  cases h
  show (vp q++tR r).take 4=vp q
  rw [List.take_append_of_le_length (by simp [vp])]
  simp [vp]
 | q::r,i+1,o,h=>by
  have ih:=E9 (p:=r) (i:=i) (o:=o) (by simpa using h)
  show ((vp q++tR r).drop (4 * (i+1))).take 4=vp o
  rw [show 4 * (i+1)=(vp q).length+4 * i by simp [vp];omega,List.drop_append,WW (by omega),Nat.add_sub_cancel_left]
  exact ih
def stepI (k:Int) (ns:List Int):List Int:=(sliceRange 0 (ns.length:Nat) k).filterMap (ns[·]?)
theorem MW (k:Int) (ns:List Int):Jo k (ns.map V.int)=(stepI k ns).map V.int:=by
 unfold Jo stepI
 rw [UA,List.map_filterMap]
 congr 1
 funext i
 rw [Ve]
def nL (ns:List Int):Bool:=(decide (ns.length % 4=0)&&(decide (1<=ns.length / 4)&&decide (ns.length / 4<=20)))&&(ns.all Il&&(stepI 4 ns).all λz=>decide (z<=7))
section
variable {P:Program} {w:World} {K:Uy} {mg:Str->Option Value} {base:Heap} {a:bI}
def Fz (m n:Nat) (ns:List Int):Bool:=decide (ns.length=n+1)&&match ns with
 | []=>false
 | z::r=>(decide (0<=z)&&decide (z < (m:Int)))&&r.all Il
theorem Py (s:UB):(Fq s).length=s.nums.length+1:=by
 unfold Fq
 rw [U0,iq]
theorem Fc {x y:Int} {A B:Prop} (h1:¬ x=y->A) (h2:x=y->B):if (!decide (V.int x=V.int y))=true then A else B:=by
 by_cases e:x=y
 ·subst e
  rw [decide_eq_true rfl]
  exact bu (h2 rfl)
 ·rw [decide_eq_false (λh=>e (by injection h))]
  exact bc (h1 e)
def De (K:Uy) (a:bI):Sp:=λvs H Q _=>∃ (r lo ls p:Addr) (os ts:List Addr) (prog:List UP) (b:UB) (ns:List Int),vs=[.ref r,.ref p]/\rX a H r lo ls os ts prog b/\bf K H p (ns.map V.int)/\ns.length<=100 /\
 ∀ H':Hp,az H H'->Q (.bl (Fz prog.length b.nums.length ns)) H'
theorem wN (T:Txt K mg a):a8 P w K mg base eS 2 a.kN a.la ["self","row"] (De K a):=by
 refine T.r9.ok Dy ?_ ?_
 ·rintro _ _ _ _ ⟨_,_,_,_,_,_,_,_,_,rfl,_⟩
  rfl
 ·rintro cdv A outer s H _ Q E hr ⟨r,lo,ls,p,os,ts,prog,b,ns,rfl,R,hS,hz,k⟩
  refine ⟨_,(ah (bj (a9 D6 (aU (a7 (K:=K)) (by rfl) T.dO UU (aa (pv 1) aj)) (aU (a7 (K:=K)) (by rfl) T.dO UU (aa (aM (aB (K:=K)) (ai (K:=K) (pv 0) rfl) ax (λ_ _=>rfl)) aj)) (bo _)) (ao (aE Fo)) aQ)
   (ao (aE (BV (vJ ku Jm ax (aM (aB (K:=K)) (pv 1) ax (λ_ _=>rfl)) (aU (a7 (K:=K)) (by rfl) T.dO UU (aa (ai (K:=K) (pv 0) rfl) aj))) (BK (bE (rP T) hr.lo rfl T.l4 T.jG.kp T.l6 .nil aG (aa (AK (ED (K:=K)) (pv 1) (zd ax) Lh) aj))))))),?_⟩
  obtain ⟨dx,hr0⟩:=R.run
  obtain ⟨t0,ht0⟩:∃ t0,ts[0]?=some t0:=⟨_,Vo R.Kq⟩
  have hT0:H t0=some (.tup (Fq b)):=R.sat 0 t0 ht0
  refine ⟨_,rfl,p,_,rfl,.inl hS,_,rfl,r,a.jz,dx,_,_,rfl,hr0,T.mW,T.lE,rfl,ls,_,0,_,rfl,rfl,bf.of R.EY,at_of (j:=0) (v:=.ref t0) rfl (by rw [Ve,ht0];rfl),t0,_,rfl,.inr (gc.of hT0),rfl,_,rfl,?_⟩
  rw [UA,Py]
  refine Fc (λhne=>?_) λheq=>?_
  ·have:=k H (az.refl H)
   unfold Fz at this
   rw [decide_eq_false (by omega),V7] at this
   exact this
  match ns,hS,hz,k,heq with
  | [],_,_,_,heq=>exact absurd heq (by simp;omega)
  | z::rest,hS,hz,k,heq =>
   have e0:(z::rest).length=b.nums.length+1:=by omega
   unfold Fz at k
   rw [decide_eq_true e0,VU] at k
   have k:∀ H':Hp,az H H'->Q (V.bl ((decide (0<=z)&&decide (z < (prog.length:Int)))&&rest.all Il)) H':=k
   refine ⟨_,rfl,p,_,0,_,rfl,rfl,hS,at_of (j:=0) rfl rfl,0,z,rfl,rfl,_,rfl,?_⟩
   by_cases c1:(0:Int)<=z
   ·rw [decide_eq_true c1] at k ⊢
    refine bc ⟨_,rfl,r,a.jz,dx,_,_,rfl,hr0,T.mW,T.rp,rfl,lo,_,rfl,.inl (bf.of R.BX),_,_,rfl,rfl,_,rfl,?_⟩
    rw [UA,R.Od]
    by_cases c2:z < (prog.length:Int)
    ·rw [decide_eq_true c2] at k ⊢
     refine bc ⟨_,rfl,1,rfl,p,_,rfl,hS,λc hc=>⟨c,rest,rfl,bf.of ?_,?_,λH' sm=>?_⟩⟩
     ·rw [ae,UT,Ta]
     ·rw [sizeLine_eq];simp at hz;omega
     ·exact k H' ((az.laid hc).trans sm)
    ·rw [decide_eq_false c2] at k ⊢
     exact bu (k H (az.refl H))
   ·rw [decide_eq_false c1] at k ⊢
    exact bu ⟨_,rfl,bu (k H (az.refl H))⟩
def Fv (K:Uy) (a:bI):Sp:=λvs H Q _=>∃ (p:Addr) (ns:List Int),vs=[.ref p]/\bf K H p (ns.map V.int)/\ns.length<=100/\∀ H',az H H'->Q (.bl (nL ns)) H'
theorem Fx (T:Txt K mg a):a8 P w K mg base eS 2 a.ow a.nA ["row"] (Fv K a):=by
 refine T.rB.ok uB ?_ ?_
 ·rintro _ _ _ _ ⟨_,_,rfl,_⟩
  rfl
 ·rintro cdv A outer s H _ Q E hr ⟨p,ns,rfl,hS,hz,k⟩
  refine ⟨_,(ah (bj (PW.pt (Gz (a9 D6 (b8 rL (aU (a7 (K:=K)) (by rfl) T.dO UU (aa (pv 0) aj)) (aO (by rfl) T.kH)) ax (bo _)) (BM (ie (xM ku ku ax (b8 AH (aU (a7 (K:=K)) (by rfl) T.dO UU (aa (pv 0) aj)) (aO (by rfl) T.kH)) (aO (by rfl) T.FJ)))))) (ao (aE Fo)) aQ)
   (ao (aE (BV (bE (rP T) hr.lo rfl T.l4 T.jG.kp T.l6 .nil aG (aa (pv 0) aj)) (BK (aU (KY (K:=K) rfl) (by rfl) T.Qo CS (aa (wX rfl uB.nd (kU (K:=K) (OO (K:=K) (pv 0) (aO (by rfl) T.kH))) (fc (own:=[("op",1)]) (by show w8 ["row","op"] (aq rC) _ _=true;decide +kernel)) (λ_ _ _ _ _=>fq (i:=1) uB.nd rfl (Or.inl rfl)) (λ_ _ _ _ _=>oy) (λ_ _ _ _ _=>(nU ku (pv 1) (aO (by rfl) T.MV) (bo _)))) aj))))))),?_⟩
  have kF:nL ns=false->Q (.bl false) H:=λe=>by have:=k H (az.refl H);rw [e] at this;exact this
  refine ⟨_,rfl,p,_,rfl,.inl hS,_,_,rfl,rfl,(by show (0:Int) < 4;decide),rfl,_,rfl,?_⟩
  rw [UA]
  refine Fc (λh4=>?_) λh4=>?_
  ·refine bc (kF ?_)
   unfold nL
   rw [decide_eq_false (show ¬ ns.length % 4=0 by omega),V7,V7]
  have h4':ns.length % 4=0:=by omega
  refine ⟨_,rfl,p,_,rfl,.inl hS,_,_,rfl,rfl,⟨by decide,by decide⟩,1,_,rfl,rfl,_,rfl,?_⟩
  rw [UA]
  by_cases c1:(1:Int)<=(ns.length:Int) / 4
  ·rw [decide_eq_true c1]
   refine bc ⟨_,_,rfl,rfl,_,rfl,?_⟩
   by_cases c2:(ns.length:Int) / 4<=20
   ·rw [decide_eq_true c2]
    refine bu ?_
    refine ⟨_,rfl,p,ns,rfl,hS,by rw [sizeLine_eq];omega,λH1 s1=>⟨_,rfl,?_⟩⟩
    have eP:nL ns=(ns.all Il&&(stepI 4 ns).all λz=>decide (z<=7)):=by
     unfold nL
     rw [decide_eq_true h4',decide_eq_true (show 1<=ns.length / 4 by omega),decide_eq_true (show ns.length / 4<=20 by omega)]
     rfl
    rw [eP] at k
    cases hA:ns.all Il with
    | false =>
     rw [hA] at k
     exact bu (k H1 s1)
    | true =>
     rw [hA,VU] at k
     refine bc ⟨_,rfl,p,_,4,rfl,rfl,by decide,s1.seq hS,λc hc=>⟨c,rfl,⟨_,bf.of ae⟩,λD hD=>?_⟩⟩
     rw [MW] at hD ⊢
     have s2:az H (upd H1 c (.lst ((stepI 4 ns).map V.int))):=cS s1 (s1.free hc)
     have hlen:(stepI 4 ns).length<=100:=by
      have:=List.length_filterMap_le (λi:Nat=>ns[i]?) (sliceRange 0 (ns.length:Nat) 4)
      have:=sliceRange_length_le 0 (ns.length:Nat) 4 ns.length (λ_=>⟨Int.le_refl _,Int.le_refl _⟩) (λz=>absurd (by decide) z)
      unfold stepI
      omega
     refine tO (xs:=(stepI 4 ns).map V.int) (λi H'=>H' D=some (.lst (((stepI 4 ns).take i).map λz=>V.bl (decide (z<=7))))/\az (upd H1 c (.lst ((stepI 4 ns).map V.int))) H') ⟨ae,az.laid hD⟩ (λi H' _ h=>bf.of (h.2 _ _ ae)) ?_ ?_
     ·rintro i x H' hx ⟨h1,h2⟩
      obtain ⟨z,hz',rfl⟩:=sR hx
      refine ⟨rfl,DT ⟨_,rfl,_,_,rfl,rfl,_,h1,?_,?_,?_⟩⟩
      ·rw [UA,Va,sizeLine_eq];omega
      ·rw [ae,take_snoc hz',U1];rfl
      ·exact cS h2 hD
     ·rintro H' ⟨h1,h2⟩
      rw [UA,VB] at h1
      refine ⟨D,(stepI 4 ns).map λz=>decide (z<=7),rfl,bf.of (by rw [h1,VG];rfl),?_⟩
      rw [List.all_map]
      exact k H' (s2.trans h2)
   ·rw [decide_eq_false c2]
    refine bc (kF ?_)
    unfold nL
    rw [decide_eq_false (show ¬ ns.length / 4<=20 by omega)]
    simp
  ·rw [decide_eq_false c1]
   refine bu ⟨_,rfl,bc (kF ?_)⟩
   unfold nL
   rw [decide_eq_false (show ¬ 1<=ns.length / 4 by omega)]
   simp
theorem MZ {lo c:Int} {n:Nat} {g:TG} {tt:TT} {te:TE} {vs:List Nat} {σ:St} {H1:Hp} {D:Addr} {Qd:Hp->Prop} (Pv:Nat->Hp->Prop) (h0:Pv 0 (upd H1 D (.lst [])))
  (hs:∀ i H,i < n->Pv i H->g (.int (lo+(i:Nat) * c)) (wipe σ vs) H λσ2 H2=>wipe σ2 vs=wipe σ vs/\tt σ2 H2 λb H3 =>
   if b=true then te σ2 H3 λy H4=>∃ acc,H4 D=some (.lst acc)/\acc.length < sizeLine/\Pv (i+1) (upd H4 D (.lst (acc++[y]))) else Pv (i+1) H3) (hd:∀ H,Pv n H->Qd H) :
  ∃ W:Nat->Nat->Hp->Prop,(∃ m,W 0 m (upd H1 D (.lst [])))/\∀ i m H,W i m H ->
   ((S8 lo c n).stop i H/\Qd H)∨((S8 lo c n).go i H/\∃ Nx:Hp->Prop,(∀ H',Nx H'->∃ m',m' < m/\W (i+1) m' H')/\∀ x H',(S8 lo c n).O5 i H x H'->g x (wipe σ vs) H' λσ2 H2=>wipe σ2 vs=wipe σ vs/\tt σ2 H2 λb H3 =>
    if b=true then te σ2 H3 λy H4=>∃ acc,H4 D=some (.lst acc)/\acc.length < sizeLine/\Nx (upd H4 D (.lst (acc++[y]))) else Nx H3):=by
 refine ⟨λi m H=>m=n - i/\i<=n/\Pv i H,⟨n,by simp,U9 _,h0⟩,?_⟩
 rintro i m H ⟨rfl,hi,p⟩
 by_cases hlt:i < n
 ·refine .inr ⟨hlt,Pv (i+1),λH' p'=>⟨n - (i+1),by omega,rfl,hlt,p'⟩,λx H' y=>?_⟩
  obtain ⟨e,y⟩:=y
  subst e y
  exact hs i _ hlt p
 ·have e:i=n:=by omega
  subst e
  exact .inl ⟨UI _,hd H p⟩
theorem Qy:∀ n:Fin 21,Builtin.Range.small 0 ((4 * n.val:Nat):Int) 4=true:=by decide +kernel
theorem Ts (xs:List V) (i:Nat):zE xs (some ((4 * i:Nat):Int)) (some ((4 * i+4:Nat):Int))=(xs.drop (4 * i)).take 4:=by
 unfold zE
 rw [HT.DG,HT.DG]
 by_cases h:4 * i<=xs.length
 ·rw [Ww h]
  by_cases h2:4 * i+4<=xs.length
  ·rw [Ww h2,show 4 * i+4 - 4 * i=4 by omega]
  ·rw [Nat.min_eq_right (by omega),List.take_of_length_le (by rw [WD];omega),List.take_of_length_le (by rw [WD];omega)]
 ·rw [WW (show xs.length<=4 * i by omega),WW (show xs.length<=min (4 * i) xs.length by omega)]
  simp
def NG (H:Hp) (os:List Addr) (prog:List UP):Prop:=os.length=prog.length/\∀ (i:Nat) (q:Addr) (o:UP),os[i]?=some q->prog[i]?=some o->H q=some (.tup (o4 o))
def Hv (K:Uy) (a:bI):Sp:=λvs H Q _=>∃ (p:Addr) (prog:List UP),vs=[.ref p]/\bf K H p ((tR prog).map V.int)/\prog.length<=20 /\
 ∀ (H':Hp) (c:Addr) (os:List Addr),az H H'->H c=none->H' c=some (.lst (os.map V.ref))->NG H' os prog->Q (.ref c) H'
theorem Hj (T:Txt K mg a):a8 P w K mg base eS 1 a.ql a.qo ["row"] (Hv K a):=by
 refine T.ug.ok wa ?_ ?_
 ·rintro _ _ _ _ ⟨_,_,rfl,_⟩
  rfl
 ·rintro cdv A outer s H _ Q E hr ⟨p,prog,rfl,hS,hz,k⟩
  refine ⟨_,(ao (aE (wX rfl wa.nd (My rfl T.DL (aa ax (aa (aU (a7 (K:=K)) (by rfl) T.dO UU (aa (pv 0) aj)) (aa (aO (by rfl) T.kH) aj)))) (fc (own:=[("at",1)]) (by show w8 ["row","at"] (aq tT) _ _=true;decide +kernel)) (λ_ _ _ _ _=>fq (i:=1) wa.nd rfl (Or.inl rfl)) (λ_ _ _ _ _=>oy) (λ_ _ _ _ _=>(gb (vO (K:=K)) (by rfl) T.y9 jK (aa (AK (ED (K:=K)) (pv 0) (zd (pv 1)) (zd (b8 zO (pv 1) (aO (by rfl) T.kH)))) aj)))))),?_⟩
  refine ⟨_,rfl,p,_,rfl,.inl hS,0,_,4,prog.length,rfl,⟨by decide,by decide,?_,?_⟩,λD hD=>MZ (λi H'=>∃ os,H' D=some (.lst (os.map V.ref))/\NG H' os (prog.take i)/\az H H') ⟨[],ae,⟨rfl,λi q o h=>by simp at h⟩,az.laid hD⟩ ?_ ?_⟩
  ·rw [UA,Bz]
   exact Qy ⟨prog.length,by omega⟩
  ·rw [UA,Bz]
   unfold Builtin.Range.rangeSize
   rw [if_pos (by decide)]
   by_cases h0:(0:Int) < ((4 * prog.length:Nat):Int)
   ·rw [if_pos h0]
    omega
   ·rw [if_neg h0]
    omega
  ·rintro i H1 hi ⟨os,h1,h2,s1⟩
   obtain ⟨o,ho⟩:∃ o,prog[i]?=some o:=⟨_,Vo hi⟩
   have eC:zE ((tR prog).map V.int) (some (0+(i:Int) * 4)) (some (0+(i:Int) * 4+4))=o4 o:=by
    rw [show (0+(i:Int) * 4)=((4 * i:Nat):Int) by push_cast;omega,show ((4 * i:Nat):Int)+4=((4 * i+4:Nat):Int) by push_cast;rfl,Ts,<- List.map_drop,<- List.map_take,E9 ho]
    rfl
   have ol:os.length=i:=by have:=h2.1;rw [Va] at this;omega
   refine ⟨rfl,DT ⟨_,rfl,_,rfl,_,rfl,_,rfl,_,_,rfl,rfl,_,rfl,p,_,rfl,s1.seq hS,λc hc=>⟨c,_,rfl,.inl ⟨bf.of ae,λt ht=>?_⟩⟩⟩⟩
   rw [eC] at ht ⊢
   have nDc:D≠c:=aF h1 hc
   have s2:az H1 (upd H1 c (.lst (o4 o))):=az.laid hc
   have nDt:D≠t:=aF (s2 _ _ h1) ht
   have s3:az H1 (upd (upd H1 c (.lst (o4 o))) t (.tup (o4 o))):=s2.trans (az.laid ht)
   refine ⟨os.map V.ref,s3 _ _ h1,?_,os++[t],?_,⟨?_,λj q o' hq ho'=>?_⟩,cS (s1.trans s3) hD⟩
   ·rw [UA,sizeLine_eq];omega
   ·rw [ae,U1];rfl
   ·rw [Vk,Va];simp;omega
   ·by_cases hj:j < os.length
    ·rw [WB hj] at hq
     have ho2:(prog.take i)[j]?=some o':=by rw [WR (by omega)] at ho' ⊢;exact ho'
     have q2:=h2.2 j q o' hq ho2
     rw [ak (aV q2 h1 (by intro z;cases z))]
     exact s3 _ _ q2
    ·have hj2:j=os.length:=by
      have:=(U5.mp hq).1
      simp at this
      omega
     subst hj2
     rw [Wm (UI _),Wv] at hq
     cases hq
     rw [WR (by omega),ol,ho] at ho'
     cases ho'
     rw [ak nDt.symm,ae]
  ·rintro H1 ⟨os,h1,h2,s1⟩
   rw [VB] at h2
   exact k H1 D os s1 hD h1 h2
def Jr (K:Uy) (a:bI):Sp:=λvs H Q _=>∃ (r dx p f:Addr) (prog:List UP) (nums:List Nat),vs=[.ref r,.ref p,.ref f]/\H r=some (.ins a.jz dx [])/\H p=some (.lst ((tR prog).map V.int))/\H f=some (.lst (mf nums))/\prog.length<=20/\nums.length<=6 /\
 ∀ (H':Hp) (lo ls:Addr) (os ts:List Addr),(∀ b o,H b=some o->b≠r->H' b=some o)->H lo=none->H ls=none->rX a H' r lo ls os ts prog ⟨0,nums⟩->ts.length=1->Q .dH H'
theorem IK (T:Txt K mg a):a8 P w K mg base eS 2 a.sX a.rV ["self","program","first"] (Jr K a):=by
 refine T.zP.ok JO ?_ ?_
 ·rintro _ _ _ _ ⟨_,_,_,_,_,_,rfl,_⟩
  rfl
 ·rintro cdv A outer s H _ Q E hr ⟨r,dx,p,f,prog,nums,rfl,hr0,hp,hf,hz,hn,k⟩
  refine ⟨_,(ah (aS (K:=K) (pv 0) (bE (Hj T) hr.lo rfl T.xj T.ug.kp T.yf .nil aG (aa (pv 1) aj)) rfl)
   (ao (aS (K:=K) (pv 0) (aT (aa (gb (vO (K:=K)) (by rfl) T.y9 jK (aa (b8 lQ (aT (aa ax aj)) (pv 2)) aj)) aj)) rfl))),?_⟩
  refine ⟨_,rfl,p,prog,rfl,bf.of hp,hz,λH1 lo os s1 hlo0 hlo1 hO=>?_⟩
  refine ⟨_,rfl,r,a.jz,dx,[],rfl,s1 _ _ hr0,T.mW,T.rp,by show 0 < 1000;decide,?_⟩
  have hr1:=s1 _ _ hr0
  have ner:∀ {b:Addr} {xs:List V},H1 b=some (.lst xs)->b≠r:=λe=>aV e hr1 (by intro z;cases z)
  have ner2:∀ {b:Addr} {xs:List V},H1 b=some (.tup xs)->b≠r:=λe=>aV e hr1 (by intro z;cases z)
  generalize hH2:upd H1 r (HO.ins a.jz dx (a6 (Str.ofString "orders") (V.ref lo) []))=H2
  have B2:∀ b o,H1 b=some o->b≠r->H2 b=some o:=λb o e ne=>by rw [<- hH2,ak ne];exact e
  have hr2:H2 r=some (.ins a.jz dx [("orders",.ref lo)]):=by rw [<- hH2,ae];rfl
  have hf2:H2 f=some (.lst (mf nums)):=B2 _ _ (s1 _ _ hf) (ner (s1 _ _ hf))
  refine ⟨nz,λc hc=>⟨_,rfl,c,f,_,_,rfl,rfl,ae,(by rw [ak (aF hf2 hc)];exact hf2),?_,λe he=>⟨e,_,rfl,.inl ⟨bf.of ae,λt ht=>⟨nz,λls hls=>?_⟩⟩⟩⟩⟩
  ·show 1+(mf nums).length<=sizeLine
   rw [iq,sizeLine_eq]
   omega
  have s5:=(az.trans (az.laid (o:=.lst [.int 0]) hc) (az.laid (o:=.lst ([.int 0]++mf nums)) he)).trans (az.laid (o:=.tup ([.int 0]++mf nums)) ht)
  have s6:=s5.trans (az.laid (o:=.lst [.ref t]) hls)
  refine ⟨_,rfl,r,a.jz,dx,_,rfl,s6 _ _ hr2,T.mW,T.lE,by show 1 < 1000;decide,?_⟩
  have ls0:H1 ls=none:=by
   cases q:H1 ls with
   | none=>rfl
   | some o =>
    have h2:=s5.free hls
    have nr:ls≠r:=λz=>by rw [z,hr2] at h2;cases h2
    rw [B2 _ _ q nr] at h2
    cases h2
  have q4:=(az.trans (az.laid (o:=.lst [V.int 0]) hc) (az.laid (o:=.lst ([V.int 0]++mf nums)) he)) r _ hr2
  have tr:t≠r:=λz=>by rw [z,q4] at ht;cases ht
  have lr:ls≠r:=λz=>by rw [z,s5 _ _ hr2] at hls;cases hls
  refine k _ lo ls os [t] (λb o e ne=>by rw [ak ne];exact s6 _ _ (B2 _ _ (s1 _ _ e) ne)) hlo0 (s1.free ls0) ⟨⟨dx,?_⟩,?_,hO.1,λi q o hq ho=>?_,?_,Nat.zero_lt_one,aF hlo1 ls0,λi u hu=>?_⟩ rfl
  ·rw [ae];rfl
  ·rw [ak (ner hlo1)];exact s6 _ _ (B2 _ _ hlo1 (ner hlo1))
  ·have q2:=hO.2 i q o hq ho
   rw [ak (ner2 q2)]
   exact s6 _ _ (B2 _ _ q2 (ner2 q2))
  ·rw [ak lr,ae];rfl
  ·match i,hu with
   | 0,hu =>
    cases hu
    rw [ak tr,ak (aF (ae) hls),ae]
    rfl
   | i+1,hu=>simp at hu
end
abbrev Tl:=List (Nat × List (Option UB))
def dB (g:Tl) (t:Nat):Option (List (Option UB)):=(g.find? λp=>decide (p.1=t)).map (·.2)
def zo (g:Tl) (t:Nat) (v:List (Option UB)):Tl:=if g.any (λp=>decide (p.1=t)) then g.map (λp=>if p.1=t then (p.1,v) else p) else g++[(t,v)]
def wA (g:Tl) (t:Nat):Tl:=g.filter λp=>decide (p.1≠t)
def qY (g:Tl):Nat:=(g.map λp=>p.2.length).sum
def kx (b:List Vm) (t:Nat):List Vm:=b.filter λx=>decide (x.turn=t)
structure TB (g:Tl) (b:List Vm):Prop where
 nd:(g.map (·.1)).Nodup
 no:∀ t,dB g t=none->kx b t=[]
 is:∀ t l,dB g t=some l->l≠[]/\l.reverse=(kx b t).map (·.says)
 sum:qY g=b.length
theorem TB.nil:TB [] []:=⟨by simp,λ_ _=>rfl,λt l h=>by simp [dB] at h,rfl⟩
theorem DU {g:Tl} {t:Nat}:dB g t=none ↔ ∀ p∈g,p.1≠t:=by
 unfold dB
 rw [Option.map_eq_none_iff,Wx]
 simp
theorem Lq {g:Tl} {t:Nat} (h:¬ (g.any (λp=>decide (p.1=t)))=true):∀ q∈g,¬ q.1=t:=λq hq e=>h (Ws.mpr ⟨q,hq,decide_eq_true e⟩)
theorem FZ (g:Tl) (t u:Nat) (v:List (Option UB)):dB (zo g t v) u=if u=t then some v else dB g u:=by
 unfold zo
 split
 ·rename_i h
  induction g with
  | nil=>simp at h
  | cons p r ih =>
   unfold dB at ih ⊢
   rw [UT,Vg,Vg]
   by_cases hp:p.1=t
   ·rw [if_pos hp]
    by_cases hu:u=t
    ·subst hu
     simp [hp]
    ·rw [if_neg hu]
     have n1:¬ p.1=u:=λe=>hu (by rw [<- e,hp])
     simp only [n1,decide_false]
     by_cases hr:(r.any λp=>decide (p.1=t))=true
     ·have:=ih hr
      rw [if_neg hu] at this
      exact this
     ·have hr':∀ q∈r,¬ q.1=t:=Lq hr
      congr 2
      rw [VR (g:=id) (λq hq=>by rw [if_neg (hr' q hq)];rfl),List.map_id]
   ·rw [if_neg hp]
    have hr:(r.any λp=>decide (p.1=t))=true:=by simpa [hp] using h
    have:=ih hr
    by_cases hu:p.1=u
    ·have hut:¬ u=t:=λe=>hp (by rw [hu,e])
     simp [hu,hut]
    ·simp only [hu,decide_false]
     exact this
 ·rename_i h
  have h':∀ q∈g,¬ q.1=t:=Lq h
  unfold dB
  rw [List.find?_append]
  by_cases hu:u=t
  ·subst hu
   have:g.find? (λp=>decide (p.1=u))=none:=by rw [Wx];intro q hq;simpa using h' q hq
   rw [this]
   simp
  ·rw [if_neg hu]
   cases e:g.find? (λp=>decide (p.1=u)) with
   | none =>
    have hn:¬ t=u:=λz=>hu z.symm
    simp [hn]
   | some q=>rfl
theorem NB {g:Tl} {t:Nat} {v:List (Option UB)} (h:(g.map (·.1)).Nodup):((zo g t v).map (·.1)).Nodup:=by
 unfold zo
 split
 ·have e:(g.map (λp=>if p.1=t then (p.1,v) else p)).map (·.1)=g.map (·.1):=by
   rw [VG]
   exact VR λp _=>by show (if p.1=t then (p.1,v) else p).1=p.1;split<;>rfl
  rw [e]
  exact h
 ·rename_i hn
  have h':∀ q∈g,¬ q.1=t:=Lq hn
  rw [U1]
  refine Ha h λm=>?_
  obtain ⟨q,hq,e⟩:=UR.mp m
  exact h' q hq e
theorem L7 {g:Tl} {t:Nat} {v:List (Option UB)} (h:(g.map (·.1)).Nodup):qY (zo g t v)+((dB g t).getD []).length=qY g+v.length:=by
 unfold zo
 split
 ·rename_i hy
  induction g with
  | nil=>simp at hy
  | cons p r ih =>
   have hnd:¬ p.1∈r.map (·.1)/\(r.map (·.1)).Nodup:=VO.mp h
   unfold qY dB at ih ⊢
   rw [UT,UT,V2,UT,V2,Vg]
   by_cases hp:p.1=t
   ·have hr':∀ q∈r,¬ q.1=t:=λq hq e=>hnd.1 (UR.mpr ⟨q,hq,by rw [e,hp]⟩)
    rw [if_pos hp,VR (g:=id) (λq hq=>by rw [if_neg (hr' q hq)];rfl),List.map_id]
    simp only [hp,decide_true,Option.map_some,Option.getD_some]
    omega
   ·have hr:(r.any λp=>decide (p.1=t))=true:=by simpa [hp] using hy
    have:=ih hnd.2 hr
    rw [if_neg hp]
    simp only [hp,decide_false]
    omega
 ·rename_i hn
  have h':∀ q∈g,¬ q.1=t:=Lq hn
  have e:dB g t=none:=DU.mpr h'
  rw [e]
  unfold qY
  rw [U1,List.sum_append]
  simp
theorem TB.tell {g:Tl} {b:List Vm} (h:TB g b) (t:Nat) (s:Option UB):TB (zo g t ((dB g t).getD []++[s])) ({ turn:=t,says:=s }::b):=by
 have hof:∀ u,kx ({ turn:=t,says:=s }::b) u=if u=t then { turn:=t,says:=s }::kx b t else kx b u:=λu=>by
  unfold kx
  rw [UW]
  by_cases hu:u=t
  ·subst hu;simp
  ·have:¬ t=u:=λe=>hu e.symm
   simp [hu,this]
 refine ⟨NB h.nd,λu hu=>?_,λu l hu=>?_,?_⟩
 ·rw [FZ] at hu
  rw [hof]
  by_cases e:u=t
  ·rw [if_pos e] at hu;cases hu
  ·rw [if_neg e] at hu ⊢;exact h.no u hu
 ·rw [FZ] at hu
  rw [hof]
  by_cases e:u=t
  ·rw [if_pos e] at hu ⊢
   cases hu
   refine ⟨by simp,?_⟩
   rw [List.reverse_append,UT]
   cases q:dB g t with
   | none =>
    rw [h.no t q]
    rfl
   | some l =>
    show _::(l.reverse)=_
    rw [(h.is t l q).2]
  ·rw [if_neg e] at hu ⊢;exact h.is u l hu
 ·have:=L7 (g:=g) (t:=t) (v:=(dB g t).getD []++[s]) h.nd
  rw [Vk] at this
  have e:=h.sum
  simp at this ⊢
  omega
theorem D7 (g:Tl) (t u:Nat):dB (wA g t) u=if u=t then none else dB g u:=by
 by_cases hu:u=t
 ·rw [if_pos hu]
  refine DU.mpr λp hp e=>?_
  have:=(VM.mp hp).2
  simp at this
  exact this (by rw [e,hu])
 ·rw [if_neg hu]
  unfold dB wA
  congr 1
  induction g with
  | nil=>rfl
  | cons p r ih =>
   rw [UW,Vg]
   by_cases hp:p.1=t
   ·have n1:¬ p.1=u:=λe=>hu (by rw [<- e,hp])
    have n2:(decide (p.1≠t))=false:=by simp [hp]
    rw [n2,if_neg (by decide)]
    simp only [n1,decide_false]
    exact ih
   ·have n2:(decide (p.1≠t))=true:=by simp [hp]
    rw [n2,if_pos rfl,Vg,ih]
theorem MI {g:Tl} {t:Nat} (h:(g.map (·.1)).Nodup):((wA g t).map (·.1)).Nodup:=List.Nodup.sublist (List.Sublist.map _ (List.filter_sublist)) h
theorem EW:∀ {g:Tl} {t:Nat},(g.map (·.1)).Nodup->qY (wA g t)+((dB g t).getD []).length=qY g
 | [],t,_=>rfl
 | p::r,t,h=>by
  have hnd:¬ p.1∈r.map (·.1)/\(r.map (·.1)).Nodup:=VO.mp h
  have ih:=EW (g:=r) (t:=t) hnd.2
  unfold qY wA dB at ih ⊢
  rw [UW,Vg,UT,V2]
  by_cases hp:p.1=t
  ·have hr':∀ q∈r,¬ q.1=t:=λq hq e=>hnd.1 (UR.mpr ⟨q,hq,by rw [e,hp]⟩)
   have n2:(decide (p.1≠t))=false:=by simp [hp]
   rw [n2,if_neg (by decide)]
   have n3:r.find? (λp=>decide (p.1=t))=none:=by rw [Wx];intro q hq;simpa using hr' q hq
   rw [n3] at ih
   simp only [hp,decide_true,Option.map_some,Option.getD_some]
   simp at ih
   simp
   omega
  ·have n2:(decide (p.1≠t))=true:=by simp [hp]
   rw [n2,if_pos rfl,UT,V2]
   simp only [hp,decide_false]
   omega
theorem TB.len {g:Tl} {b:List Vm} (h:TB g b) (t:Nat):((dB g t).getD []).length=(kx b t).length:=by
 cases q:dB g t with
 | none=>rw [h.no t q];rfl
 | some l =>
  have:=congrArg List.length (h.is t l q).2
  rw [List.length_reverse,UA] at this
  exact this
theorem Nk (b:List Vm) (t:Nat):(b.filter λx=>x.turn != t).length+(kx b t).length=b.length:=by
 unfold kx
 induction b with
 | nil=>rfl
 | cons x r ih =>
  rw [UW,UW]
  by_cases hx:x.turn=t
  ·simp [hx];omega
  ·simp [hx];omega
theorem TB.back {g:Tl} {b:List Vm} (h:TB g b) (t:Nat):TB (wA g t) (b.filter λx=>x.turn != t):=by
 have hof:∀ u,¬ u=t->kx (b.filter λx=>x.turn != t) u=kx b u:=λu hu=>by
  unfold kx
  rw [List.filter_filter]
  refine List.filter_congr λx _=>?_
  by_cases hx:x.turn=u
  ·have:¬ x.turn=t:=λe=>hu (by rw [<- hx,e])
   simp [hx,hu]
  ·simp [hx]
 have hot:kx (b.filter λx=>x.turn != t) t=[]:=by
  unfold kx
  rw [List.filter_filter,List.filter_eq_nil_iff]
  intro x _
  by_cases hx:x.turn=t<;>simp [hx]
 refine ⟨MI h.nd,λu hu=>?_,λu l hu=>?_,?_⟩
 ·rw [D7] at hu
  by_cases e:u=t
  ·rw [e];exact hot
  ·rw [if_neg e] at hu;rw [hof u e];exact h.no u hu
 ·rw [D7] at hu
  by_cases e:u=t
  ·rw [if_pos e] at hu;cases hu
  ·rw [if_neg e] at hu;rw [hof u e];exact h.is u l hu
 ·have h1:=EW (g:=g) (t:=t) h.nd
  have h2:=h.len t
  have h3:=Nk b t
  have h4:=h.sum
  omega
theorem TB.says {g:Tl} {b:List Vm} (h:TB g b) (t:Nat):(b.find? λx=>x.turn == t).map (·.says)=(dB g t).bind λl=>l.getLast?:=by
 have e:b.find? (λx=>x.turn == t)=(kx b t).head?:=by
  unfold kx
  rw [List.head?_filter]
  congr 1
 rw [e,<- List.head?_map]
 cases q:dB g t with
 | none=>rw [h.no t q];rfl
 | some l =>
  rw [<- (h.is t l q).2,List.head?_reverse]
  rfl
section
variable {β:Type}
def yL (g:List (Nat × β)) (t:Nat):Option β:=(g.find? λp=>decide (p.1=t)).map (·.2)
def CO (g:List (Nat × β)) (t:Nat) (v:β):List (Nat × β):=if g.any (λp=>decide (p.1=t)) then g.map (λp=>if p.1=t then (p.1,v) else p) else g++[(t,v)]
def GJ (g:List (Nat × β)) (t:Nat):List (Nat × β):=g.filter λp=>decide (p.1≠t)
theorem BJ (i t:Nat):decide ((Sum.inl (i:Int):Key)=Sum.inl (t:Int))=decide (i=t):=by
 by_cases e:i=t
 ·subst e;simp
 ·rw [decide_eq_false e,decide_eq_false]
  intro h
  injection h with h
  omega
theorem key_ne (i t:Nat):decide ((Sum.inl (i:Int):Key)≠Sum.inl (t:Int))=decide (i≠t):=by
 have:=BJ i t
 by_cases e:i=t
 ·subst e;simp
 ·rw [decide_eq_false e] at this
  have h:=of_decide_eq_false this
  rw [decide_eq_true h,decide_eq_true e]
def DR (S:V->β->Prop) (kvs:List (Key × V)) (g:List (Nat × β)):Prop:=Paired (λ(kv:Key × V) (p:Nat × β)=>kv.1=Sum.inl ((p.1:Nat):Int)/\S kv.2 p.2) kvs g
variable {S S':V->β->Prop}
theorem DR.len {kvs:List (Key × V)} {g:List (Nat × β)} (h:DR S kvs g):kvs.length=g.length:=Paired.length h
theorem DR.get:∀ {kvs:List (Key × V)} {g:List (Nat × β)},DR S kvs g->∀ t:Nat,(yL g t=none/\k6 kvs (Sum.inl (t:Int))=none)∨∃ b v,yL g t=some b/\k6 kvs (Sum.inl (t:Int))=some v/\S v b
 | _,_,.nil,t=>.inl ⟨rfl,rfl⟩
 | kv::kvs,p::g,.cons r h,t=>by
  have ih:=DR.get h t
  unfold yL k6 at ih ⊢
  rw [Vg,Vg,r.1,BJ]
  by_cases e:p.1=t
  ·rw [decide_eq_true e]
   exact .inr ⟨p.2,kv.2,rfl,rfl,r.2⟩
  ·rw [decide_eq_false e]
   exact ih
theorem DR.any {t:Nat}:∀ {kvs:List (Key × V)} {g:List (Nat × β)},DR S kvs g->(kvs.any λkv=>decide (kv.1=Sum.inl (t:Int)))=g.any λp=>decide (p.1=t)
 | _,_,.nil=>rfl
 | kv::kvs,p::g,.cons r h=>by rw [Vv,Vv,r.1,BJ,DR.any h]
theorem DR.snoc:∀ {kvs:List (Key × V)} {g:List (Nat × β)} {t:Nat} {v:V} {b:β},DR S kvs g->S v b->DR S (kvs++[(Sum.inl (t:Int),v)]) (g++[(t,b)])
 | _,_,_,_,_,.nil,s=>.cons ⟨rfl,s⟩ .nil
 | _,_,_,_,_,.cons r h,s=>.cons r (DR.snoc h s)
theorem DR.map {t:Nat} {v:V} {b:β} (s:S v b):∀ {kvs:List (Key × V)} {g:List (Nat × β)},DR S kvs g->DR S (kvs.map λkv=>if kv.1=Sum.inl (t:Int) then (kv.1,v) else kv) (g.map λp=>if p.1=t then (p.1,b) else p)
 | _,_,.nil=>.nil
 | kv::kvs,p::g,.cons r h=>by
  refine .cons ?_ (DR.map s h)
  have k:=BJ p.1 t
  show (if kv.1=Sum.inl (t:Int) then (kv.1,v) else kv).1=Sum.inl (((if p.1=t then (p.1,b) else p).1:Nat):Int)/\S (if kv.1=Sum.inl (t:Int) then (kv.1,v) else kv).2 (if p.1=t then (p.1,b) else p).2
  by_cases e:p.1=t
  ·rw [if_pos e,if_pos (by rw [r.1,e])]
   exact ⟨r.1,s⟩
  ·rw [decide_eq_false e] at k
   rw [if_neg e,if_neg (by rw [r.1];exact of_decide_eq_false k)]
   exact r
theorem DR.put {kvs:List (Key × V)} {g:List (Nat × β)} {t:Nat} {v:V} {b:β} (h:DR S kvs g) (s:S v b):DR S (putK kvs (Sum.inl (t:Int)) v) (CO g t b):=by
 unfold putK CO
 rw [h.any]
 split
 ·exact DR.map s h
 ·exact DR.snoc h s
theorem DR.drop {t:Nat}:∀ {kvs:List (Key × V)} {g:List (Nat × β)},DR S kvs g->DR S (tS kvs (Sum.inl (t:Int))) (GJ g t)
 | _,_,.nil=>.nil
 | kv::kvs,p::g,.cons r h=>by
  have ih:=DR.drop (t:=t) h
  unfold tS GJ at ih ⊢
  rw [UW,UW,r.1,key_ne]
  split
  ·exact .cons r ih
  ·exact ih
theorem DR.imp (f:∀ v b,S v b->S' v b):∀ {kvs:List (Key × V)} {g:List (Nat × β)},DR S kvs g->DR S' kvs g
 | _,_,.nil=>.nil
 | _,_,.cons r h=>.cons ⟨r.1,f _ _ r.2⟩ (DR.imp f h)
theorem DR.at:∀ {kvs:List (Key × V)} {g:List (Nat × β)} {i:Nat} {kv:Key × V},DR S kvs g->kvs[i]?=some kv->∃ p,g[i]?=some p/\kv.1=Sum.inl ((p.1:Nat):Int)/\S kv.2 p.2
 | _,_,i,kv,.nil,e=>by simp at e
 | _,_,0,kv,.cons r h,e=>by cases e;exact ⟨_,rfl,r⟩
 | _,_,i+1,kv,.cons r h,e=>by
  obtain ⟨p,q1,q2⟩:=DR.at (i:=i) h (by simpa using e)
  exact ⟨p,by simpa using q1,q2⟩
end
def Keeps (l:List Addr) (H H':Hp):Prop:=∀ b o,H b=some o->¬ b∈l->H' b=some o
theorem Keeps.refl (l:List Addr) (H:Hp):Keeps l H H:=λ_ _ e _=>e
theorem Keeps.trans {l:List Addr} {H H1 H2:Hp} (a:Keeps l H H1) (b:Keeps l H1 H2):Keeps l H H2:=λc o e n=>b c o (a c o e n) n
theorem Keeps.same {l:List Addr} {H H1:Hp} (s:az H H1):Keeps l H H1:=λb o e _=>s b o e
theorem Keeps.upd {l:List Addr} {H:Hp} {p:Addr} {o:HO} (m:p∈l):Keeps l H (upd H p o):=λb u e n=>by
 rw [ak (λz=>n (by rw [z];exact m))]
 exact e
theorem Keeps.free {l:List Addr} {H H':Hp} (k:Keeps l H H') {p:Addr} (h:H' p=none) (n:¬ p∈l):H p=none:=by
 cases q:H p with
 | none=>rfl
 | some o =>
  rw [k p o q n] at h
  cases h
theorem Keeps.wide {l m:List Addr} {H H':Hp} (k:Keeps l H H') (s:∀ x∈l,x∈m):Keeps m H H':=λb o e n=>k b o e λz=>n (s b z)
theorem KZ {d:Addr} {ob:Obj} {kvs:List (Key × V)} {g:TG} {tt:TT} {te:TE} {vs:List Nat} {σ:St} {H1:Hp} {D:Addr} {Qd:Hp->Prop} (Pv:Nat->Hp->Prop) (h0:Pv 0 (upd H1 D (.lst []))) (hl:∀ i H,i<=kvs.length->Pv i H->H d=some (.frz ob (.dK kvs)))
  (hs:∀ i k x H,kvs[i]?=some (k,x)->Pv i H->g x (wipe σ vs) H λσ2 H2=>wipe σ2 vs=wipe σ vs/\tt σ2 H2 λb H3 =>
   if b=true then te σ2 H3 λy H4=>∃ acc,H4 D=some (.lst acc)/\acc.length < sizeLine/\Pv (i+1) (upd H4 D (.lst (acc++[y]))) else Pv (i+1) H3) (hd:∀ H,Pv kvs.length H->Qd H) :
  ∃ W:Nat->Nat->Hp->Prop,(∃ m,W 0 m (upd H1 D (.lst [])))/\∀ i m H,W i m H ->
   ((Sn d ob kvs).stop i H/\Qd H)∨((Sn d ob kvs).go i H/\∃ Nx:Hp->Prop,(∀ H',Nx H'->∃ m',m' < m/\W (i+1) m' H')/\∀ x H',(Sn d ob kvs).O5 i H x H'->g x (wipe σ vs) H' λσ2 H2=>wipe σ2 vs=wipe σ vs/\tt σ2 H2 λb H3 =>
    if b=true then te σ2 H3 λy H4=>∃ acc,H4 D=some (.lst acc)/\acc.length < sizeLine/\Nx (upd H4 D (.lst (acc++[y]))) else Nx H3):=by
 refine ⟨λi m H=>m=kvs.length - i/\i<=kvs.length/\Pv i H,⟨kvs.length,by simp,U9 _,h0⟩,?_⟩
 rintro i m H ⟨rfl,hi,p⟩
 have q:=hl i H hi p
 by_cases hlt:i < kvs.length
 ·refine .inr ⟨⟨q,hlt⟩,Pv (i+1),λH' p'=>⟨kvs.length - (i+1),by omega,rfl,hlt,p'⟩,λx H' y=>?_⟩
  obtain ⟨e,k,y⟩:=y
  subst e
  exact hs i k x _ y p
 ·have e:i=kvs.length:=by omega
  subst e
  exact .inl ⟨⟨q,UI _⟩,hd H p⟩
def kX (H:Hp) (v:V) (s:Option UB):Prop:=match s with
 | none=>v=.dH
 | some r=>∃ q,v=.ref q/\H q=some (.tup (Fq r))
def CZ (bad:List Addr) (H:Hp) (v:V) (l:List (Option UB)):Prop:=∃ (ad:Addr) (vs:List V),v=.ref ad/\¬ ad∈bad/\H ad=some (.lst vs)/\Paired (kX H) vs l
def uY (bad:List Addr) (H:Hp) (t:Addr) (g:Tl):Prop:=∃ kvs,H t=some (.dK kvs)/\DR (CZ bad H) kvs g
def RU (st:Nat) (out:Bool) (t h:Addr):List (Str × V):=[("stake",.int (st:Int)),("out",.bl out),("tellings",.ref t),("heard",.ref h)]
def rM (a:bI) (H:Hp) (p t h:Addr) (st:Nat) (out:Bool):Prop:=∃ dx,H p=some (.ins a.bB dx (RU st out t h))
theorem kX.qr {H H':Hp} {v:V} {s:Option UB} (k:∀ b xs,H b=some (.tup xs)->H' b=some (.tup xs)) (h:kX H v s):kX H' v s:=by
 cases s with
 | none=>exact h
 | some r =>
  obtain ⟨q,e,hq⟩:=h
  exact ⟨q,e,k _ _ hq⟩
theorem ue {H H':Hp} (k:∀ b xs,H b=some (.tup xs)->H' b=some (.tup xs)):∀ {vs:List V} {l:List (Option UB)},Paired (kX H) vs l->Paired (kX H') vs l
 | _,_,.nil=>.nil
 | _,_,.cons r h=>.cons (r.qr k) (ue k h)
theorem CZ.qr {bad l:List Addr} {H H':Hp} {v:V} {x:List (Option UB)} (k:∀ b xs,H b=some (.tup xs)->H' b=some (.tup xs)) (kl:∀ b xs,H b=some (.lst xs)->¬ b∈bad->H' b=some (.lst xs)) (h:CZ bad H v x):CZ bad H' v x:=by
 obtain ⟨ad,vs,e,n,hv,hp⟩:=h
 exact ⟨ad,vs,e,n,kl _ _ hv n,ue k hp⟩
theorem qf {α β:Type} {F:α->β->Prop}:∀ {l:List α} {m:List β} {x:α} {y:β},Paired F l m->F x y->Paired F (l++[x]) (m++[y])
 | _,_,_,_,.nil,h=>.cons h .nil
 | _,_,_,_,.cons r t,h=>.cons r (qf t h)
theorem CH {α β:Type} {F:α->β->Prop}:∀ {l:List α} {m:List β},Paired F l m->l≠[]->∃ x y,l[l.length - 1]?=some x/\m.getLast?=some y/\F x y
 | _,_,.nil,h=>absurd rfl h
 | [x],[y],.cons r .nil,_=>⟨x,y,rfl,rfl,r⟩
 | x::x2::l,y::y2::m,.cons r (.cons r2 t),_=>by
  obtain ⟨u,v,h1,h2,h3⟩:=CH (l:=x2::l) (m:=y2::m) (.cons r2 t) (by simp)
  exact ⟨u,v,by simpa using h1,by simpa [List.getLast?_cons_cons] using h2,h3⟩
section
variable {P:Program} {w:World} {K:Uy} {mg:Str->Option Value} {base:Heap} {a:bI}
def G4 (K:Uy) (a:bI):Sp:=λvs H Q _=>∃ (p dx:Addr) (st:Nat),vs=[.ref p,.int (st:Int)]/\H p=some (.ins a.bB dx []) /\
 ∀ (H':Hp) (t h:Addr),Keeps [p] H H'->H t=none->H h=none->t≠h->rM a H' p t h st false->H' t=some (.dK [])->H' h=some (.dK [])->Q .dH H'
theorem He (T:Txt K mg a):a8 P w K mg base eS 1 a.p8 a.p6 ["self","stake"] (G4 K a):=by
 refine T.xO.ok HH ?_ ?_
 ·rintro _ _ _ _ ⟨_,_,_,rfl,_⟩
  rfl
 ·rintro cdv A outer s H _ Q E hr ⟨p,dx,st,rfl,hp,k⟩
  refine ⟨_,(ah (aS (K:=K) (pv 0) (pv 1) rfl)
   (ah (aS (K:=K) (pv 0) Fo rfl)
   (ah (aS (K:=K) (pv 0) DV rfl)
   (ao (aS (K:=K) (pv 0) DV rfl))))),?_⟩
  refine ⟨_,rfl,_,rfl,p,a.bB,dx,_,rfl,hp,T.bP,T.dW,by show 0 < 1000;decide,?_⟩
  refine ⟨_,rfl,p,a.bB,dx,_,rfl,ae,T.bP,T.mH,by show 1 < 1000;decide,?_⟩
  rw [b9]
  refine λt ht=>?_
  have nt:t≠p:=λz=>by rw [z,ae] at ht;cases ht
  have ht0:H t=none:=by rw [ak nt] at ht;exact ht
  refine ⟨_,rfl,p,a.bB,dx,_,rfl,by rw [ak nt.symm];exact ae,T.bP,T.eN,by show 2 < 1000;decide,?_⟩
  refine λh hh=>?_
  have nh:h≠p:=λz=>by rw [z,ae] at hh;cases hh
  have nth:t≠h:=λz=>by rw [<- z,ak nt,ae] at hh;cases hh
  have hh0:H h=none:=by rw [ak nh,ak nth.symm,ak nh] at hh;exact hh
  refine ⟨_,rfl,p,a.bB,dx,_,rfl,by rw [ak nh.symm];exact ae,T.bP,T.lK,by show 3 < 1000;decide,?_⟩
  refine k _ t h (λb o e n=>?_) ht0 hh0 nth ⟨dx,ae⟩ ?_ ?_
  ·have nb:b≠p:=λz=>n (by rw [z];exact UE.mpr rfl)
   rw [ak nb,ak (aF e hh0),ak nb,ak (aF e ht0),ak nb]
   exact e
  ·rw [ak nt,ak nth,ak nt,ae]
  ·rw [ak nh,ae]
def HB (K:Uy) (a:bI):Sp:=λvs H Q _=>∃ (p t h:Addr) (st:Nat) (out:Bool) (n:Nat) (v:V) (s:Option UB) (bad:List Addr) (g:Tl),vs=[.ref p,.int (n:Int),v]/\rM a H p t h st out/\uY bad H t g/\kX H v s/\g.length<=1000/\(∀ l,dB g n=some l->l.length<=1000)/\(∀ x∈bad,H x≠none) /\
 ∀ (H':Hp),Keeps [t] H H'->uY bad H' t (zo g n ((dB g n).getD []++[s]))->Q .dH H'
theorem GU (T:Txt K mg a):a8 P w K mg base eS 1 a.qb a.p4 ["self","turn","state"] (HB K a):=by
 refine T.xP.ok GO ?_ ?_
 ·rintro _ _ _ _ ⟨_,_,_,_,_,_,_,_,_,_,rfl,_⟩
  rfl
 ·rintro cdv A outer s H _ Q E hr ⟨p,t,h,st,out,n,v,s0,bad,g,rfl,⟨dx,hp⟩,⟨kvs,ht,hD⟩,hv,hg,hgl,hb,k⟩
  refine ⟨_,(ao (G8 (md hr) (ai (K:=K) (pv 0) rfl) (pv 1) (b8 lQ (Ni (md hr) (ai (K:=K) (pv 0) rfl) (pv 1) (aT aj) ⟨rfl,rfl,rfl,rfl⟩) (aT (aa (pv 2) aj))) rfl)),?_⟩
  have hz:=sizeLine_eq
  have pt:p≠t:=aV hp ht (by intro z;cases z)
  refine ⟨_,rfl,p,a.bB,dx,_,_,rfl,hp,T.bP,T.eN,rfl,t,rfl,.inl ⟨_,.inl ht⟩,_,rfl,Uj,λe he=>⟨_,mw.k (k:=Sum.inl (n:Int)) (az.laid he _ _ ht),?_⟩⟩
  obtain ⟨ad,vs,e1,e2,e3,e4⟩:∃ ad vs,(k6 kvs (Sum.inl (n:Int))).getD (.ref e)=.ref ad/\upd H e (.lst []) ad=some (.lst vs)/\Paired (kX H) vs ((dB g n).getD [])/\vs.length<=1000:=by
   rcases hD.get n with ⟨q1,q2⟩ | ⟨l,v',q1,q2,ad,vs,rfl,_,q3,q4⟩
   ·rw [q2,show dB g n=none from q1]
    exact ⟨e,[],rfl,ae,.nil,U9 _⟩
   ·have q1:dB g n=some l:=q1
    rw [q2,q1]
    exact ⟨ad,vs,rfl,az.laid he _ _ q3,q4,by rw [Paired.length q4];exact hgl l q1⟩
  rw [e1]
  refine ⟨_,rfl,nz,λc hc=>⟨ad,c,vs,_,rfl,rfl,az.laid hc _ _ e2,ae,by show vs.length+1<=sizeLine;omega,λl hl=>?_⟩⟩
  have s3:=(az.trans (az.laid (o:=.lst []) he) (az.laid (o:=.lst [v]) hc)).trans (az.laid (o:=.lst (vs++[v])) hl)
  have hl0:H l=none:=(az.trans (az.laid (o:=.lst []) he) (az.laid (o:=.lst [v]) hc)).free hl
  refine ⟨_,rfl,p,a.bB,dx,_,_,rfl,s3 _ _ hp,T.bP,T.eN,rfl,_,rfl,t,_,rfl,Hz.k (k:=Sum.inl (n:Int)) (s3 _ _ ht) (by rw [hD.len];omega),?_⟩
  have lt:l≠t:=λz=>by rw [z,ht] at hl0;cases hl0
  have kt:∀ b xs,H b=some (.tup xs)->upd (upd (upd (upd H e (.lst [])) c (.lst [v])) l (.lst (vs++[v]))) t (.dK (putK kvs (Sum.inl (n:Int)) (.ref l))) b=some (.tup xs):=λb xs q=>by
   rw [ak (aV q ht (by intro z;cases z))]
   exact s3 _ _ q
  refine k _ (λb o q nb=>?_) ⟨_,ae,?_⟩
  ·rw [ak (λz=>nb (by rw [z];exact UE.mpr rfl))]
   exact s3 _ _ q
  ·refine DR.put (DR.imp (λv' l' hh=>CZ.qr (l:=[]) kt (λb xs q nb=>?_) hh) hD) ⟨l,vs++[v],rfl,λm=>hb l m hl0,?_,qf (ue kt e3) (hv.qr kt)⟩
   ·rw [ak (aV q ht (by intro z;cases z))]
    exact s3 _ _ q
   ·rw [ak lt,ae]
def Be (K:Uy) (a:bI):Sp:=λvs H Q _=>∃ (p t h:Addr) (st:Nat) (out:Bool) (n:Nat) (bad:List Addr) (g:Tl),vs=[.ref p,.int (n:Int)]/\rM a H p t h st out/\uY bad H t g /\
 ∀ (H':Hp),Keeps [t] H H'->uY bad H' t (wA g n)->Q .dH H'
theorem Br (T:Txt K mg a):a8 P w K mg base eS 1 a.i3 a.iS ["self","turn"] (Be K a):=by
 refine T.pB.ok Bq ?_ ?_
 ·rintro _ _ _ _ ⟨_,_,_,_,_,_,_,_,rfl,_⟩
  rfl
 ·rintro cdv A outer s H _ Q E hr ⟨p,t,h,st,out,n,bad,g,rfl,⟨dx,hp⟩,⟨kvs,ht,hD⟩,k⟩
  refine ⟨_,(ao (bU (Nc (ai (K:=K) (pv 0) rfl) (pv 1) ib ⟨rfl,rfl,rfl,rfl⟩))),?_⟩
  refine ⟨_,rfl,p,a.bB,dx,_,_,rfl,hp,T.bP,T.eN,rfl,t,rfl,.inl ⟨_,.inl ht⟩,_,rfl,kvs,Sum.inl (n:Int),ht,rfl,λv hv=>?_,λhn=>?_⟩
  ·refine k _ (Keeps.upd (UE.mpr rfl)) ⟨_,ae,DR.drop (DR.imp (λv' l' hh=>CZ.qr (l:=[]) (λb xs q=>?_) (λb xs q nb=>?_) hh) hD)⟩
   ·rw [ak (aV q ht (by intro z;cases z))];exact q
   ·rw [ak (aV q ht (by intro z;cases z))];exact q
  ·refine k _ (Keeps.refl _ _) ⟨kvs,ht,?_⟩
   have:=DR.drop (t:=n) hD
   rw [Jb (N6 hn)] at this
   exact this
def xa (K:Uy) (a:bI):Sp:=λvs H Q _=>∃ (p t h:Addr) (st:Nat) (out:Bool) (bad:List Addr) (g:Tl),vs=[.ref p]/\rM a H p t h st out/\uY bad H t g/\g.length<=1000 /\
 ∀ (H':Hp),az H H'->Q (.int (qY g:Nat)) H'
theorem NX (g:Tl):((g.map λp=>(p.2.length:Int)).sum:Int)=((qY g:Nat):Int):=by
 unfold qY
 induction g with
 | nil=>rfl
 | cons p r ih=>rw [UT,V2,UT,V2,ih];push_cast;rfl
theorem jR (T:Txt K mg a):a8 P w K mg base eS 1 a.ed a.d8 ["self"] (xa K a):=by
 refine T.kd.ok jQ ?_ ?_
 ·rintro _ _ _ _ ⟨_,_,_,_,_,_,_,rfl,_⟩
  rfl
 ·rintro cdv A outer s H _ Q E hr ⟨p,t,h,st,out,bad,g,rfl,⟨dx,hp⟩,⟨kvs,ht,hD⟩,hg,k⟩
  refine ⟨_,(ao (aE (aU (Lu (K:=K) rfl) (by rfl) T.Qh CM (aa (Lx (wX rfl jQ.nd (GD (ai (K:=K) (pv 0) rfl)) (fc (own:=[("told",1)]) (by show w8 ["self","told"] (aq gk) _ _=true;decide +kernel)) (λ_ _ _ _ _=>fq (i:=1) jQ.nd rfl (Or.inl rfl)) (λ_ _ _ _ _=>oy) (λ_ _ _ _ _=>(aU (a7 (K:=K)) (by rfl) T.dO UU (aa (pv 1) aj))))) aj)))),?_⟩
  have hz:=sizeLine_eq
  have pt:p≠t:=aV hp ht (by intro z;cases z)
  refine ⟨t,_,ht,trivial,λod=>?_⟩
  refine ⟨_,rfl,p,a.bB,dx,_,_,rfl,(by rw [ak pt];exact hp),T.bP,T.eN,rfl,t,od,kvs,rfl,ae,λD hDn=>KZ (λi H'=>H' D=some (.lst ((g.take i).map λp=>V.int (p.2.length:Int)))/\az (upd H t (.frz od (.dK kvs))) H') ⟨ae,az.laid hDn⟩ (λi H' _ q=>q.2 _ _ ae) ?_ ?_⟩
  ·rintro i kk x H' hx ⟨h1,h2⟩
   obtain ⟨pp,q1,q2,ad,vs,rfl,_,q3,q4⟩:=hD.at hx
   refine ⟨rfl,DT ⟨_,rfl,ad,_,rfl,.inl (bf.of (h2 _ _ (by rw [ak (aV q3 ht (by intro z;cases z))];exact q3))),_,h1,?_,?_,?_⟩⟩
   ·rw [UA,Va];omega
   ·rw [ae,take_snoc q1,U1,Paired.length q4];rfl
   ·exact cS h2 hDn
  ·rintro H' ⟨h1,h2⟩
   rw [hD.len,VB] at h1
   refine ⟨h2 _ _ ae,?_⟩
   have Dt:D≠t:=λz=>by rw [z,ae] at hDn;cases hDn
   refine ⟨D,g.map λp=>(p.2.length:Int),rfl,bf.of (by rw [ak Dt,h1,VG];rfl),?_⟩
   rw [NX]
   refine k _ λb o q=>?_
   by_cases hb:b=t
   ·subst hb
    rw [ht] at q
    cases q
    exact ae
   ·rw [ak hb]
    exact h2 _ _ (by rw [ak hb];exact q)
def Ja (g:Tl) (prog:List UP) (b:UB) (n:Nat):Option UB:=match dB g n with
 | some l=>(l.getLast?).getD none
 | none=>some (VH prog n b)
def Ii (K:Uy) (a:bI):Sp:=λvs H Q _=>∃ (p t h r lo ls:Addr) (os ts:List Addr) (st:Nat) (out:Bool) (m nn:Nat) (bad:List Addr) (g:Tl) (prog:List UP) (b:UB),vs=[.ref p,.int (m:Int),.ref r]/\rM a H p t h st out/\uY bad H t g /\
 (∀ l,dB g m=some l->l≠[])/\rX a H r lo ls os ts prog b/\xq prog/\nn<=6/\ik prog nn b/\m<=2000/\ts.length<=2001 /\
 ∀ (H':Hp) (v:V) (ts':List Addr),RP ls H H'->rX a H' r lo ls os ts' prog b->ts'.length<=2001->kX H' v (Ja g prog b m)->Q v H'
theorem A7 (T:Txt K mg a):a8 P w K mg base eS 5 a.qp a.qh ["self","turn","run"] (Ii K a):=by
 refine T.yu.ok HJ ?_ ?_
 ·rintro _ _ _ _ ⟨_,_,_,_,_,_,_,_,_,_,_,_,_,_,_,_,rfl,_⟩
  rfl
 ·rintro cdv A outer s H _ Q E hr ⟨p,t,h,r,lo,ls,os,ts,st,out,m,nn,bad,g,prog,b,rfl,⟨dx,hp⟩,⟨kvs,ht,hD⟩,hne,R,OP,h6,OS,hm,htl,k⟩
  refine ⟨_,(ah (bj (D5 (QQ (md hr) (pv 1) (ai (K:=K) (pv 0) rfl))) (ao (aE (aM (aB (K:=K)) (tP (md hr) (ai (K:=K) (pv 0) rfl) (pv 1) (λ_ _=>rfl)) (Qp Nd ax) (λ_ _=>rfl)))) aQ)
   (ao (aE (aK (pv 2) T.mW T.ki (qH T) hr.lo T.kE .nil aG (aa (pv 1) aj))))),?_⟩
  refine ⟨_,rfl,_,rfl,p,a.bB,dx,_,_,rfl,hp,T.bP,T.eN,rfl,t,_,rfl,mw.k (k:=Sum.inl (m:Int)) ht,_,rfl,?_⟩
  rcases hD.get m with ⟨q1,q2⟩ | ⟨l,v',q1,q2,ad,vs,rfl,_,q3,q4⟩
  ·rw [q2]
   have q1:dB g m=none:=q1
   obtain ⟨dr,hr1⟩:=R.run
   refine bu ⟨_,rfl,r,dr,_,rfl,hr1,rfl,_,rfl,r,lo,ls,os,ts,prog,b,nn,m,rfl,R,OP,h6,OS,hm,htl,λH' tt ts' bt R' l' hh=>?_⟩
   refine k H' (.ref tt) ts' bt R' l' ?_
   unfold Ja
   rw [q1]
   exact ⟨tt,rfl,hh⟩
  ·rw [q2]
   have q1:dB g m=some l:=q1
   have hvs:vs≠[]:=λz=>hne l q1 (by rw [z] at q4;cases q4;rfl)
   obtain ⟨x,y,w1,w2,w3⟩:=CH q4 hvs
   refine bc ⟨_,rfl,p,a.bB,dx,_,_,rfl,hp,T.bP,T.eN,rfl,_,rfl,t,_,rfl,(by have:=mw.k (k:=Sum.inl (m:Int)) ht;rw [q2] at this;exact this),1,rfl,ad,vs,_,x,rfl,rfl,bf.of q3,KR w1,?_⟩
   refine k H x ts (λb o e _=>e) R htl ?_
   unfold Ja
   rw [q1]
   show kX H x (l.getLast?.getD none)
   rw [w2]
   exact w3
end
theorem kL {H:Hp} {p q C C' dx dx':Addr} {f f':Str} {v v':V} {r r':List (Str × V)} (h:H p=some (.ins C dx ((f,v)::r))) (h':H q=some (.ins C' dx' ((f',v')::r'))) (ne:f≠f'):p≠q :=
 aV h h' λe=>by injection e with _ _ e;injection e with e _;injection e with e _;exact ne e
def LI (d h t:Nat) (sv:V):List (Str × V):=[("dispute",.int (d:Int)),("host",.int (h:Int)),("turn",.int (t:Int)),("state",sv)]
def vY (a:bI) (H:Hp) (q:Addr) (x:U4):Prop:=∃ dx sv,H q=some (.ins a.bK dx (LI x.dispute x.host x.turn sv))/\kX H sv x.answer
def Ge (wd:Addr) (made came lost:Nat):List (Str × V):=[("words",.ref wd),("made",.int (made:Int)),("came",.int (came:Int)),("lost",.int (lost:Int))]
def Fd (l:List U4):List (Nat × U4):=l.map λx=>(x.id,x)
def WS (a:bI) (H:Hp) (v:V) (x:U4):Prop:=∃ q,v=.ref q/\vY a H q x
structure mK (a:bI) (H:Hp) (ln wd:Addr) (line:List U4) (next came gone:Nat):Prop where
 ins:∃ dx,H ln=some (.ins a.bh dx (Ge wd next came gone))
 Uw:∃ kvs,H wd=some (.dK kvs)/\DR (WS a H) kvs (Fd line)
theorem vY.qr {a:bI} {H H':Hp} {q:Addr} {x:U4} {l:List Addr} (k:Keeps l H H') (hw:∀ x∈l,∀ C dx v r,H x≠some (.ins C dx (("dispute",v)::r))) (ht:∀ x∈l,∀ xs,H x≠some (.tup xs)) (h:vY a H q x):vY a H' q x:=by
 obtain ⟨dx,sv,h1,h2⟩:=h
 exact ⟨dx,sv,k _ _ h1 λm=>hw q m _ _ _ _ h1,h2.qr λb xs e=>k _ _ e λm=>ht b m xs e⟩
theorem vN (l:List U4) (n:Nat):yL (Fd l) n=l.find? λx=>x.id == n:=by
 unfold yL Fd
 induction l with
 | nil=>rfl
 | cons x r ih =>
  rw [UT,Vg,Vg]
  by_cases e:x.id=n
  ·simp [e]
  ·have e2:(x.id == n)=false:=beq_eq_false_iff_ne.mpr e
   rw [e2]
   simp only [e,decide_false]
   exact ih
theorem Gn (l:List U4) (n:Nat):GJ (Fd l) n=Fd (l.filter λx=>x.id != n):=by
 unfold GJ Fd
 rw [List.filter_map]
 congr 1
 refine List.filter_congr λx _=>?_
 by_cases e:x.id=n<;>simp [e]
theorem ND {l:List U4} {x:U4} (h:∀ y∈l,y.id≠x.id):CO (Fd l) x.id x=Fd (l++[x]):=by
 unfold CO
 rw [if_neg]
 ·unfold Fd
  rw [U1]
  rfl
 ·intro q
  obtain ⟨p,hp,e⟩:=Ws.mp q
  obtain ⟨y,hy,rfl⟩:=UR.mp hp
  exact h y hy (of_decide_eq_true e)
def jv (ns:List Int):PyData:=.tuple (ns.map PyData.int)
theorem CA:∀ ns ms:List Int,PyData.eqvAll (ns.map PyData.int) (ms.map PyData.int)=decide (ns=ms)
 | [],[]=>by simp [PyData.eqvAll]
 | [],_::_=>by simp [PyData.eqvAll]
 | _::_,[]=>by simp [PyData.eqvAll]
 | n::ns,m::ms=>by
  rw [UT,UT,PyData.eqvAll,CA ns ms]
  by_cases e:n=m<;>by_cases e2:ns=ms<;>simp [PyData.eqv,e,e2]
theorem sH (ns ms:List Int):PyData.eqv (jv ns) (jv ms)=decide (ns=ms):=by
 unfold jv
 rw [PyData.eqv]
 exact CA ns ms
theorem CT:∀ ns:List Int,PyData.canLayAll0 (ns.map PyData.int)=true
 | []=>by simp [PyData.canLayAll0]
 | n::r=>by simp only [Vs,PyData.canLayAll0,PyData.canLay0,CT r,Bool.and_self]
theorem zU:∀ ns:List Int,PyData.depthAll (ns.map PyData.int)<=1
 | []=>by simp [PyData.depthAll]
 | n::r=>by
  have:=zU r
  simp only [Vs,PyData.depthAll,PyData.depth]
  omega
theorem shaped_ints (ns:List Int):SeqAt.shaped (jv ns)=true:=by
 unfold SeqAt.shaped jv
 rw [UN]
 refine ⟨by rw [PyData.canLay0];exact CT ns,decide_eq_true ?_⟩
 have:=zU ns
 simp only [PyData.depth]
 omega
theorem Lr {K:Uy} {H:Hp}:∀ ns:List Int,zw K H (ns.map V.int) (ns.map PyData.int)
 | []=>.nil
 | n::r=>.cons (.int n) (Lr r)
theorem pI {K:Uy} {H:Hp} {p:Addr} {ns:List Int} (h:gc K H p (ns.map V.int)):Dp K H (.ref p) (jv ns):=.tup h (Lr ns)
theorem OU {a:bI} {H:Hp} {ln wd dx:Addr} {kvs:List (Key × V)} {n c g:Nat} (h1:H ln=some (.ins a.bh dx (Ge wd n c g))) (h2:H wd=some (.dK kvs)) :
  (∀ x∈[ln,wd],∀ C dx v r,H x≠some (.ins C dx (("dispute",v)::r)))/\∀ x∈[ln,wd],∀ xs,H x≠some (.tup xs):=by
 refine ⟨λx hx C dx' v r e=>?_,λx hx xs e=>?_⟩
 ·rcases UL.mp hx with rfl | hx
  ·exact kL h1 e (by decide) rfl
  ·rw [UE.mp hx,h2] at e
   cases e
 ·rcases UL.mp hx with rfl | hx
  ·rw [h1] at e;cases e
  ·rw [UE.mp hx,h2] at e
   cases e
section
variable {P:Program} {w:World} {K:Uy} {mg:Str->Option Value} {base:Heap} {a:bI}
def HY (K:Uy) (a:bI):Sp:=λvs H Q _=>∃ (q dx:Addr) (d h t:Nat) (sv:V),vs=[.ref q,.int (d:Int),.int (h:Int),.int (t:Int),sv]/\H q=some (.ins a.bK dx []) /\
 ∀ (H':Hp),Keeps [q] H H'->H' q=some (.ins a.bK dx (LI d h t sv))->Q .dH H'
theorem vW (T:Txt K mg a):a8 P w K mg base eS 1 a.p5 a.qx ["self","dispute","host","turn","state"] (HY K a):=by
 refine T.xG.ok HF ?_ ?_
 ·rintro _ _ _ _ ⟨_,_,_,_,_,_,rfl,_⟩
  rfl
 ·rintro cdv A outer s H _ Q E hr ⟨q,dx,d,h,t,sv,rfl,hq,k⟩
  refine ⟨_,(ah (aS (K:=K) (pv 0) (pv 1) rfl)
   (ah (aS (K:=K) (pv 0) (pv 2) rfl)
   (ah (aS (K:=K) (pv 0) (pv 3) rfl)
   (ao (aS (K:=K) (pv 0) (pv 4) rfl))))),?_⟩
  refine ⟨_,rfl,_,rfl,q,a.bK,dx,_,rfl,hq,T.dD,T.iY,by show 0 < 1000;decide,?_⟩
  refine ⟨_,rfl,_,rfl,q,a.bK,dx,_,rfl,ae,T.dD,T.kZ,by show 1 < 1000;decide,?_⟩
  refine ⟨_,rfl,_,rfl,q,a.bK,dx,_,rfl,ae,T.dD,T.kh,by show 2 < 1000;decide,?_⟩
  refine ⟨_,rfl,_,rfl,q,a.bK,dx,_,rfl,ae,T.dD,T.lz,by show 3 < 1000;decide,?_⟩
  rw [b9,b9,b9]
  exact k _ (Keeps.upd (UE.mpr rfl)) ae
def Hw (K:Uy) (a:bI):Sp:=λvs H Q _=>∃ (ln dx:Addr),vs=[.ref ln]/\H ln=some (.ins a.bh dx []) /\
 ∀ (H':Hp) (wd:Addr),Keeps [ln] H H'->H wd=none->mK a H' ln wd [] 0 0 0->Q .dH H'
theorem Az (T:Txt K mg a):a8 P w K mg base eS 1 a.p9 a.qv ["self"] (Hw K a):=by
 refine T.xt.ok GI ?_ ?_
 ·rintro _ _ _ _ ⟨_,_,rfl,_⟩
  rfl
 ·rintro cdv A outer s H _ Q E hr ⟨ln,dx,rfl,hl,k⟩
  refine ⟨_,(ah (aS (K:=K) (pv 0) DV rfl)
   (ah (aS (K:=K) (pv 0) ax rfl)
   (ah (aS (K:=K) (pv 0) ax rfl)
   (ao (aS (K:=K) (pv 0) ax rfl))))),?_⟩
  refine λwd hwd=>?_
  have nl:wd≠ln:=λz=>by rw [z,hl] at hwd;cases hwd
  refine ⟨_,rfl,ln,a.bh,dx,_,rfl,by rw [ak nl.symm];exact hl,T.bO,T.bp,by show 0 < 1000;decide,?_⟩
  refine ⟨_,rfl,ln,a.bh,dx,_,rfl,ae,T.bO,T.tU,by show 1 < 1000;decide,?_⟩
  refine ⟨_,rfl,ln,a.bh,dx,_,rfl,ae,T.bO,T.yh,by show 2 < 1000;decide,?_⟩
  refine ⟨_,rfl,ln,a.bh,dx,_,rfl,ae,T.bO,T.xI,by show 3 < 1000;decide,?_⟩
  rw [b9,b9,b9]
  refine k _ wd (λb o e n=>?_) hwd ⟨⟨dx,ae⟩,[],by rw [ak nl,ae],.nil⟩
  rw [ak (λz=>n (by rw [z];exact UE.mpr rfl)),ak (aF e hwd)]
  exact e
def Dk (K:Uy) (a:bI):Sp:=λvs H Q _=>∃ (ln wd:Addr) (line:List U4) (next came gone:Nat),vs=[.ref ln]/\mK a H ln wd line next came gone/\Q (.bl (decide (60<=line.length))) H
theorem wO (T:Txt K mg a):a8 P w K mg base eS 1 a.kb a.kY ["self"] (Dk K a):=by
 refine T.sU.ok C5 ?_ ?_
 ·rintro _ _ _ _ ⟨_,_,_,_,_,_,rfl,_⟩
  rfl
 ·rintro cdv A outer s H _ Q E hr ⟨ln,wd,line,next,came,gone,rfl,⟨⟨dx,h1⟩,kvs,h2,h3⟩,k⟩
  refine ⟨_,(ao (aE (nU K5 (aU vC (by rfl) T.dO UU (aa (ai (K:=K) (pv 0) rfl) aj)) (aO (by rfl) T.JA) (bo _)))),?_⟩
  refine ⟨_,rfl,ln,a.bh,dx,_,_,rfl,h1,T.bO,T.bp,rfl,wd,kvs,rfl,h2,_,_,rfl,rfl,?_⟩
  have e:kvs.length=line.length:=by rw [h3.len];exact UA ..
  have e2:decide ((60:Int)<=(kvs.length:Int))=decide (60<=line.length):=by rw [e];by_cases q:60<=line.length<;>simp [q]<;>omega
  rw [<- e2] at k
  exact k
def IG (K:Uy) (a:bI):Sp:=λvs H Q _=>∃ (ln wd q:Addr) (line:List U4) (next came gone:Nat) (x:U4),vs=[.ref ln,.ref q]/\mK a H ln wd line next came gone/\vY a H q x/\x.id=next/\(∀ y∈line,y.id≠next)/\line.length<=1000 /\
 ∀ (H':Hp),Keeps [ln,wd] H H'->mK a H' ln wd (line++[x]) (next+1) came gone->Q (.int (next:Nat)) H'
theorem yy (T:Txt K mg a):a8 P w K mg base eS 1 a.su a.sj ["self","word"] (IG K a):=by
 refine T.zL.ok Cr ?_ ?_
 ·rintro _ _ _ _ ⟨_,_,_,_,_,_,_,_,rfl,_⟩
  rfl
 ·rintro cdv A outer s H _ Q E hr ⟨ln,wd,q,line,next,came,gone,x,rfl,⟨⟨dx,h1⟩,kvs,h2,h3⟩,hq,hx,hid,hll,k⟩
  refine ⟨_,(ah (aP (i:=2) Cr.nd rfl (Or.inl rfl) (ai (K:=K) (pv 0) rfl))
   (ah (G8 (md hr) (ai (K:=K) (pv 0) rfl) (pv 2) (pv 1) rfl)
   (ah (gV (K:=K) (pv 0) ax uQ)
   (ao (aE (pv 2)))))),?_⟩
  have hz:=sizeLine_eq
  have nlw:ln≠wd:=aV h1 h2 (by intro z;cases z)
  have hl:kvs.length=line.length:=by rw [h3.len];exact UA ..
  refine ⟨_,rfl,ln,a.bh,dx,_,_,rfl,h1,T.bO,T.tU,rfl,?_⟩
  refine ⟨_,rfl,_,rfl,ln,a.bh,dx,_,_,rfl,h1,T.bO,T.bp,rfl,_,rfl,wd,_,rfl,Hz.k (k:=Sum.inl (next:Int)) h2 (by omega),?_⟩
  refine ⟨_,rfl,ln,a.bh,dx,_,_,rfl,by rw [ak nlw];exact h1,T.bO,T.tU,rfl,?_⟩
  refine ⟨_,_,rfl,rfl,?_⟩
  refine ⟨dx,_,by rw [ak nlw];exact h1,by show 4 < 1000;decide,_,rfl,?_⟩
  have kp:Keeps [ln,wd] H (upd (upd H wd (.dK (putK kvs (Sum.inl (next:Int)) (.ref q)))) ln (.ins a.bh dx (a6 (Str.ofString "made") (.int ((next:Int)+1)) (Ge wd next came gone)))):=(Keeps.upd (by simp)).trans (Keeps.upd (by simp))
  obtain ⟨o1,o2⟩:=OU h1 h2
  refine k _ kp ⟨⟨dx,ae⟩,_,by rw [ak nlw.symm,ae],?_⟩
  have hp:=DR.put (t:=next) (DR.imp (λv y ⟨q',e,hq'⟩=>⟨q',e,hq'.qr kp o1 o2⟩) h3) (show WS a _ (.ref q) x from ⟨q,rfl,hq.qr kp o1 o2⟩)
  have e:=ND (l:=line) (x:=x) (λy hy=>by rw [hx];exact hid y hy)
  rw [hx] at e
  rw [e] at hp
  exact hp
def BZ (K:Uy) (a:bI):Sp:=λvs H Q _=>∃ (ln wd:Addr) (line:List U4) (next came gone n:Nat) (x:U4),vs=[.ref ln,.int (n:Int)]/\mK a H ln wd line next came gone/\(line.find? λy=>y.id == n)=some x /\
 ∀ (H':Hp) (q:Addr),Keeps [ln,wd] H H'->mK a H' ln wd (line.filter λy=>y.id != n) next (came+1) gone->vY a H' q x->Q (.ref q) H'
theorem BE (T:Txt K mg a):a8 P w K mg base eS 1 a.jr a.jF ["self","number"] (BZ K a):=by
 refine T.qB.ok BF ?_ ?_
 ·rintro _ _ _ _ ⟨_,_,_,_,_,_,_,_,rfl,_⟩
  rfl
 ·rintro cdv A outer s H _ Q E hr ⟨ln,wd,line,next,came,gone,n,x,rfl,⟨⟨dx,h1⟩,kvs,h2,h3⟩,hx,k⟩
  refine ⟨_,(ah (gV (K:=K) (pv 0) ax uQ)
   (ao (aE (JQ (ai (K:=K) (pv 0) rfl) (pv 1) ⟨rfl,rfl,rfl,rfl⟩)))),?_⟩
  have nlw:ln≠wd:=aV h1 h2 (by intro z;cases z)
  rcases h3.get n with ⟨q1,q2⟩ | ⟨y,v,q1,q2,q,rfl,hq⟩
  ·rw [vN,hx] at q1;cases q1
  rw [vN,hx] at q1
  cases q1
  refine ⟨_,rfl,ln,a.bh,dx,_,_,rfl,h1,T.bO,T.yh,rfl,_,_,rfl,rfl,dx,_,h1,by show 4 < 1000;decide,?_⟩
  refine ⟨_,rfl,ln,a.bh,dx,_,_,rfl,ae,T.bO,T.bp,rfl,wd,rfl,.inl ⟨_,.inl (by rw [ak nlw.symm];exact h2)⟩,_,rfl,kvs,Sum.inl (n:Int),_,by rw [ak nlw.symm];exact h2,rfl,q2,?_⟩
  have kp:Keeps [ln,wd] H (upd (upd H ln (.ins a.bh dx (a6 (Str.ofString "came") (.int ((came:Int)+1)) (Ge wd next came gone)))) wd (.dK (tS kvs (Sum.inl (n:Int))))):=(Keeps.upd (by simp)).trans (Keeps.upd (by simp))
  obtain ⟨o1,o2⟩:=OU h1 h2
  refine k _ q kp ⟨⟨dx,by rw [ak nlw];exact ae⟩,_,ae,?_⟩ (hq.qr kp o1 o2)
  have hp:=DR.drop (t:=n) (DR.imp (λv y ⟨q',e,hq'⟩=>(⟨q',e,hq'.qr kp o1 o2⟩:WS a _ v y)) h3)
  rw [Gn] at hp
  exact hp
def EC (K:Uy) (a:bI):Sp:=λvs H Q _=>∃ (ln wd:Addr) (line:List U4) (next came gone n:Nat) (x:U4),vs=[.ref ln,.int (n:Int)]/\mK a H ln wd line next came gone/\(line.find? λy=>y.id == n)=some x /\
 ∀ (H':Hp) (q:Addr),Keeps [ln,wd] H H'->mK a H' ln wd (line.filter λy=>y.id != n) next came (gone+1)->vY a H' q x->Q (.ref q) H'
theorem EL (T:Txt K mg a):a8 P w K mg base eS 1 a.mq a.l8 ["self","number"] (EC K a):=by
 refine T.vd.ok Ee ?_ ?_
 ·rintro _ _ _ _ ⟨_,_,_,_,_,_,_,_,rfl,_⟩
  rfl
 ·rintro cdv A outer s H _ Q E hr ⟨ln,wd,line,next,came,gone,n,x,rfl,⟨⟨dx,h1⟩,kvs,h2,h3⟩,hx,k⟩
  refine ⟨_,(ah (gV (K:=K) (pv 0) ax uQ)
   (ao (aE (JQ (ai (K:=K) (pv 0) rfl) (pv 1) ⟨rfl,rfl,rfl,rfl⟩)))),?_⟩
  have nlw:ln≠wd:=aV h1 h2 (by intro z;cases z)
  rcases h3.get n with ⟨q1,q2⟩ | ⟨y,v,q1,q2,q,rfl,hq⟩
  ·rw [vN,hx] at q1;cases q1
  rw [vN,hx] at q1
  cases q1
  refine ⟨_,rfl,ln,a.bh,dx,_,_,rfl,h1,T.bO,T.xI,rfl,_,_,rfl,rfl,dx,_,h1,by show 4 < 1000;decide,?_⟩
  refine ⟨_,rfl,ln,a.bh,dx,_,_,rfl,ae,T.bO,T.bp,rfl,wd,rfl,.inl ⟨_,.inl (by rw [ak nlw.symm];exact h2)⟩,_,rfl,kvs,Sum.inl (n:Int),_,by rw [ak nlw.symm];exact h2,rfl,q2,?_⟩
  have kp:Keeps [ln,wd] H (upd (upd H ln (.ins a.bh dx (a6 (Str.ofString "lost") (.int ((gone:Int)+1)) (Ge wd next came gone)))) wd (.dK (tS kvs (Sum.inl (n:Int))))):=(Keeps.upd (by simp)).trans (Keeps.upd (by simp))
  obtain ⟨o1,o2⟩:=OU h1 h2
  refine k _ q kp ⟨⟨dx,by rw [ak nlw];exact ae⟩,_,ae,?_⟩ (hq.qr kp o1 o2)
  have hp:=DR.drop (t:=n) (DR.imp (λv y ⟨q',e,hq'⟩=>(⟨q',e,hq'.qr kp o1 o2⟩:WS a _ v y)) h3)
  rw [Gn] at hp
  exact hp
def oB (d h t:Nat) (x:U4):Bool:=x.dispute == d&&(x.host == h&&x.turn == t)
theorem Mg (d h t:Nat) (x:U4):decide (([(x.dispute:Int),(x.host:Int),(x.turn:Int)]:List Int)=[(d:Int),(h:Int),(t:Int)])=oB d h t x:=by
 cases hb:oB d h t x with
 | true =>
  unfold oB at hb
  simp at hb
  obtain ⟨e1,e2,e3⟩:=hb
  rw [e1,e2,e3]
  exact decide_eq_true rfl
 | false =>
  refine decide_eq_false λe=>?_
  injection e with e1 e
  injection e with e2 e
  injection e with e3 _
  have f1:x.dispute=d:=by omega
  have f2:x.host=h:=by omega
  have f3:x.turn=t:=by omega
  unfold oB at hb
  rw [f1,f2,f3] at hb
  simp at hb
def v3 (K:Uy) (a:bI):Sp:=λvs H Q _=>∃ (ln wd:Addr) (line:List U4) (next came gone d h t:Nat),vs=[.ref ln,.int (d:Int),.int (h:Int),.int (t:Int)]/\mK a H ln wd line next came gone/\line.length<=1000 /\
 ∀ (H':Hp),az H H'->Q (.bl (line.any (oB d h t))) H'
theorem wJ (T:Txt K mg a):a8 P w K mg base eS 1 a.dI a.dG ["self","dispute","host","turn"] (v3 K a):=by
 refine T.jO.ok fm ?_ ?_
 ·rintro _ _ _ _ ⟨_,_,_,_,_,_,_,_,_,rfl,_⟩
  rfl
 ·rintro cdv A outer s H _ Q E hr ⟨ln,wd,line,next,came,gone,d,h,t,rfl,⟨⟨dx,h1⟩,kvs,h2,h3⟩,hll,k⟩
  refine ⟨_,(ah (aP (i:=4) fm.nd rfl (Or.inr rfl) (wk (aa (pv 1) (aa (pv 2) (aa (pv 3) aj)))))
   (ao (aE (aU (LM (K:=K) rfl) (by rfl) T.Qg CN (aa (Lx (wX rfl fm.nd (GD (ai (K:=K) (pv 0) rfl)) (fc (own:=[("word",5)]) (by show w8 ["self","dispute","host","turn","about","word"] (aq fX) _ _=true;decide +kernel)) (λ_ _ _ _ _=>fq (i:=5) fm.nd rfl (Or.inl rfl)) (λ_ _ _ _ _=>oy) (λ_ _ _ _ _=>(nU (DH (K:=K) hr.units) (wk (aa (ai (K:=K) (pv 5) rfl) (aa (ai (K:=K) (pv 5) rfl) (aa (ai (K:=K) (pv 5) rfl) aj)))) (pv 4) (bo _))))) aj))))),?_⟩
  have hz:=sizeLine_eq
  have nlw:ln≠wd:=aV h1 h2 (by intro z;cases z)
  refine ⟨_,rfl,_,rfl,_,rfl,RO,λab hab=>?_⟩
  have s1:az H (upd H ab (.tup [.int (d:Int),.int (h:Int),.int (t:Int)])):=az.laid hab
  refine ⟨wd,_,s1 _ _ h2,trivial,λod=>?_⟩
  generalize hH1:upd H ab (.tup [.int (d:Int),.int (h:Int),.int (t:Int)])=H1 at s1 ⊢
  have hab1:H1 ab=some (.tup [.int (d:Int),.int (h:Int),.int (t:Int)]):=by rw [<- hH1,ae]
  have h1':=s1 _ _ h1
  have h2':=s1 _ _ h2
  refine ⟨_,rfl,ln,a.bh,dx,_,_,rfl,(by rw [ak nlw];exact h1'),T.bO,T.bp,rfl,wd,od,kvs,rfl,ae,λD hDn=>KZ (λi H'=>H' D=some (.lst ((line.take i).map λx=>V.bl (oB d h t x)))/\az (upd H1 wd (.frz od (.dK kvs))) H') ⟨ae,az.laid hDn⟩ (λi H' _ q=>q.2 _ _ ae) ?_ ?_⟩
  ·rintro i kk x H' hx ⟨g1,g2⟩
   obtain ⟨pp,q1,q2,q,rfl,dq,sv,q3,q4⟩:=h3.at hx
   obtain ⟨y,q5,rfl⟩:=sR q1
   have hq:H' q=some (.ins a.bK dq (LI y.dispute y.host y.turn sv)):=g2 _ _ (by rw [ak (aV q3 h2 (by intro z;cases z))];exact s1 _ _ q3)
   refine ⟨rfl,DT ⟨_,rfl,q,a.bK,dq,_,_,rfl,hq,T.dD,T.iY,rfl,_,rfl,q,a.bK,dq,_,_,rfl,hq,T.dD,T.kZ,rfl,_,rfl,q,a.bK,dq,_,_,rfl,hq,T.dD,T.kh,rfl,RO,λc hc=>?_⟩⟩
   refine ⟨_,rfl,jv [(y.dispute:Int),(y.host:Int),(y.turn:Int)],jv [(d:Int),(h:Int),(t:Int)],pI (gc.of ae),pI (gc.of (az.laid hc _ _ (g2 _ _ (by rw [ak (aV hab1 h2' (by intro z;cases z))];exact hab1)))),shaped_ints _,shaped_ints _,_,az.laid hc _ _ g1,?_,?_,?_⟩
   ·rw [UA,Va];omega
   ·rw [ae,take_snoc q5,U1,sH,Mg];rfl
   ·exact cS (g2.trans (az.laid hc)) hDn
  ·rintro H' ⟨g1,g2⟩
   have hl:kvs.length=line.length:=by rw [h3.len];exact UA ..
   rw [hl,VB] at g1
   refine ⟨g2 _ _ ae,?_⟩
   have Dt:D≠wd:=λz=>by rw [z,ae] at hDn;cases hDn
   refine ⟨D,line.map (oB d h t),rfl,bf.of (by rw [ak Dt,g1,VG];rfl),?_⟩
   rw [V1]
   refine k _ λb o q=>?_
   by_cases hb:b=wd
   ·subst hb
    rw [h2] at q
    cases q
    exact ae
   ·rw [ak hb]
    exact g2 _ _ (by rw [ak hb];exact s1 _ _ q)
end
def zeros (xs:List Nat):List (Key × V):=xs.map λ(x:Nat)=>(Sum.inl (x:Int),V.int 0)
theorem Gd:∀ (more acc:List (Key × V)),((acc++more).map (·.1)).Nodup->u5 acc more=acc++more
 | [],acc,_=>by rw [Wa];rfl
 | kv::r,acc,h=>by
  show u5 (putK acc kv.1 kv.2) r=acc++kv::r
  have hk:¬ kv.1∈acc.map (·.1):=by
   rw [U1,UT,List.nodup_append] at h
   exact λm=>h.2.2 _ m _ (UZ ..) rfl
  have hv:k6 acc kv.1=none:=by
   cases e:k6 acc kv.1 with
   | none=>rfl
   | some v=>exact absurd (LN e) hk
  rw [Og kv.2 hv,Gd r (acc++[kv]) (by rw [WJ];exact h),WJ]
  rfl
theorem NW {xs:List Nat} (h:xs.Nodup):((zeros xs).map (·.1)).Nodup:=by
 unfold zeros
 rw [VG]
 induction xs with
 | nil=>exact List.nodup_nil
 | cons x r ih =>
  obtain ⟨h1,h2⟩:=VO.mp h
  refine VO.mpr ⟨λm=>?_,ih h2⟩
  obtain ⟨y,hy,e⟩:=UR.mp m
  have e:(Sum.inl (y:Int):Key)=Sum.inl (x:Int):=e
  injection e with e
  exact h1 (by rw [show x=y by omega];exact hy)
def wW (x y m n:Nat):List (Key × V):=[(Sum.inl (x:Int),.int (m:Int)),(Sum.inl (y:Int),.int (n:Int))]
def vA (ht:Addr) (lo:Nat) (ag:Addr) (hi asked:Nat) (ask:Addr) (q l:Nat) (en:Addr):List (Str × V) :=
 [("hosts",.ref ht),("low_turn",.int (lo:Int)),("agreed",.ref ag),("high_turn",.int (hi:Int)),("turn_asked",.int (asked:Int)),("asked",.ref ask),("questions",.int (q:Int)),("lost",.int (l:Int)),("ended",.ref en)]
def FT (H:Hp) (p:Addr) (xs:List V):Prop:=∃ o:Obj,H p=some (.frz o (.tup xs))/\o.cls=.type "tuple"/\o.dict=none
theorem FT.sq {K:Uy} {H:Hp} {p:Addr} {xs:List V} (h:FT H p xs):gc K H p xs:=by
 obtain ⟨o,h,_⟩:=h
 exact .inl (.inr ⟨o,h⟩)
theorem FT.imp {H H':Hp} {p:Addr} {xs:List V} (h:FT H p xs) (f:∀ o,H p=some o->H' p=some o):FT H' p xs:=by
 obtain ⟨o,h,q⟩:=h
 exact ⟨o,f _ h,q⟩
theorem FT.ne {H:Hp} {p q C dx:Addr} {xs:List V} {fs:List (Str × V)} (h:FT H p xs) (g:H q=some (.ins C dx fs)):p≠q:=by
 obtain ⟨o,h,_⟩:=h
 exact aV h g (by intro z;cases z)
structure fZ (a:bI) (H:Hp) (p ask ht ag en:Addr) (d:UC):Prop where
 ins:∃ dx,H p=some (.ins a.ay dx (vA ht d.lo ag d.hi d.asked ask d.questions d.lost en))
 hosts:FT H ht [.int (d.x:Int),.int (d.y:Int)]
 FF:H ag=some (.tup (Fq d.agreed))
 ask:H ask=some (.dK (wW d.x d.y d.saidX d.saidY))
 fin:H en=some (.tup ((V3 d.verdict).map λ(n:Nat)=>V.int (n:Int)))
theorem Qv (v:Option Vbapaj.Verdict):∃ k n,V3 v=[k,n]:=by
 cases v with
 | none=>exact ⟨0,0,rfl⟩
 | some v=>cases v<;>exact ⟨_,_,rfl⟩
theorem PM (v:Option Vbapaj.Verdict):decide ((V3 v).map (λ(n:Nat)=>(n:Int))=[0,0])=v.isNone:=by
 cases v with
 | none=>rfl
 | some v=>cases v<;>simp [V3]
section
variable {P:Program} {w:World} {K:Uy} {mg:Str->Option Value} {base:Heap} {a:bI}
def HX (K:Uy) (a:bI):Sp:=λvs H Q _=>∃ (p:Addr) (xs:List Nat),vs=[.ref p]/\gc K H p (mf xs)/\xs.Nodup/\xs.length<=1000 /\
 ∀ (H':Hp) (d:Addr),az H H'->H d=none->H' d=some (.dK (zeros xs))->Q (.ref d) H'
theorem we (T:Txt K mg a):a8 P w K mg base eS 1 a.qi a.qw ["hosts"] (HX K a):=by
 refine T.m7.ok wF ?_ ?_
 ·rintro _ _ _ _ ⟨_,_,rfl,_⟩
  rfl
 ·rintro cdv A outer s H _ Q E hr ⟨p,xs,rfl,hS,hnd,hl,k⟩
  refine ⟨_,(ao (aE (gb (Kl (K:=K) rfl) (by rfl) T.Ra G2 (aa (wX rfl wF.nd (HM (K:=K) (pv 0)) (fc (own:=[("host",1)]) (by show w8 ["hosts","host"] (aq tV) _ _=true;decide +kernel)) (λ_ _ _ _ _=>fq (i:=1) wF.nd rfl (Or.inl rfl)) (λ_ _ _ _ _=>oy) (λ_ _ _ _ _=>(wk (aa (pv 1) (aa ax aj))))) aj)))),?_⟩
  have hz:=sizeLine_eq
  refine ⟨_,rfl,p,rfl,⟨_,hS⟩,λD hD=>Ky (xs:=mf xs) (λi H'=>∃ ps,H' D=some (.lst (ps.map V.ref))/\Paired (λ(q:Addr) (kv:Key × V)=>H' q=some (.tup [kV kv.1,kv.2])) ps (zeros (xs.take i))/\az H H') ⟨[],ae,.nil,az.laid hD⟩ (λi H' _ ⟨_,_,_,s⟩=>gc.same s hS) ?_ ?_⟩
  ·rintro i x H' hx ⟨ps,h1,h2,h3⟩
   obtain ⟨z,hz',rfl⟩:=sR hx
   have hpl:ps.length<=1000:=by
    rw [Paired.length h2]
    unfold zeros
    rw [UA,Va]
    omega
   refine ⟨rfl,DT ⟨_,rfl,Ob,λc hc=>⟨_,az.laid hc _ _ h1,by rw [UA];omega,ps++[c],?_,?_,?_⟩⟩⟩
   ·rw [ae,U1];rfl
   ·have nc:c≠D:=(aF h1 hc).symm
    have e:zeros (xs.take (i+1))=zeros (xs.take i)++[(Sum.inl (z:Int),V.int 0)]:=by
     unfold zeros
     rw [take_snoc hz',U1]
     rfl
    rw [e]
    refine qf (Paired.J8 h2 λq kv hq=>?_) ?_
    ·rw [ak (aV hq h1 (by intro z;cases z))]
     exact az.laid hc _ _ hq
    ·rw [ak nc,ae]
     rfl
   ·exact cS (h3.trans (az.laid hc)) hD
  ·rintro H' ⟨ps,h1,h2,h3⟩
   rw [iq,VB] at h2
   refine ⟨D,ps,zeros xs,rfl,bf.of h1,Paired.J8 h2 λq kv hq=>gc.of hq,λd hd=>?_⟩
   refine k _ d (cS h3 (h3.free hd)) (h3.free hd) ?_
   rw [ae,Gd (zeros xs) [] (NW hnd)]
   rfl
def zR (K:Uy) (a:bI):Sp:=λvs H Q _=>∃ (p ask ht ag en:Addr) (d:UC),vs=[.ref p]/\fZ a H p ask ht ag en d/\∀ H',az H H'->Q (.bl (UJ d)) H'
theorem i4 (T:Txt K mg a):a8 P w K mg base eS 1 a.gE a.gi ["self"] (zR K a):=by
 refine T.nN.ok zK ?_ ?_
 ·rintro _ _ _ _ ⟨_,_,_,_,_,_,rfl,_⟩
  rfl
 ·rintro cdv A outer s H _ Q E hr ⟨p,ask,ht,ag,en,d,rfl,⟨⟨dx,h1⟩,h2,h3,h4,h5⟩,k⟩
  refine ⟨_,(ao (aE (nU (DH (K:=K) hr.units) (ai (K:=K) (pv 0) rfl) (wk (aa ax (aa ax aj))) (bo _)))),?_⟩
  refine ⟨_,rfl,p,a.ay,dx,_,_,rfl,h1,T.aA,T.dC,rfl,Ob,λc hc=>?_⟩
  refine ⟨jv ((V3 d.verdict).map λ(n:Nat)=>(n:Int)),jv [0,0],pI (gc.of (az.laid hc _ _ (by rw [h5,VG];rfl))),pI (gc.of ae),shaped_ints _,shaped_ints _,?_⟩
  rw [sH,PM]
  exact k _ (az.laid hc)
def iz (K:Uy) (a:bI):Sp:=λvs H Q _=>∃ (p ask ht ag en:Addr) (d:UC),vs=[.ref p]/\fZ a H p ask ht ag en d/\Q (.bl (decide (d.hi=d.lo+1))) H
theorem iw (T:Txt K mg a):a8 P w K mg base eS 1 a.bL a.bN ["self"] (iz K a):=by
 refine T.ee.ok pG ?_ ?_
 ·rintro _ _ _ _ ⟨_,_,_,_,_,_,rfl,_⟩
  rfl
 ·rintro cdv A outer s H _ Q E hr ⟨p,ask,ht,ag,en,d,rfl,⟨⟨dx,h1⟩,h2,h3,h4,h5⟩,k⟩
  refine ⟨_,(ao (aE (nU uf (ai (K:=K) (pv 0) rfl) (b8 zO (ai (K:=K) (pv 0) rfl) ax) (bo _)))),?_⟩
  refine ⟨_,rfl,p,a.ay,dx,_,_,rfl,h1,T.aA,T.dy,rfl,_,rfl,p,a.ay,dx,_,_,rfl,h1,T.aA,T.dN,rfl,_,_,rfl,rfl,rfl,?_⟩
  have e:decide (V.int (d.hi:Int)=V.int ((d.lo:Int)+1))=decide (d.hi=d.lo+1):=by
   by_cases q:d.hi=d.lo+1
   ·rw [decide_eq_true q,q];exact decide_eq_true (by push_cast;rfl)
   ·rw [decide_eq_false q];exact decide_eq_false λz=>q (by injection z with z;omega)
  rw [<- e] at k
  exact k
def BN (K:Uy) (a:bI):Sp:=λvs H Q _=>∃ (p ask ht ag en:Addr) (d:UC) (h:Nat),vs=[.ref p,.int (h:Int)]/\fZ a H p ask ht ag en d/\Q (.int ((if h=d.x then d.y else d.x:Nat):Int)) H
theorem vo (T:Txt K mg a):a8 P w K mg base eS 1 a.jw a.jE ["self","host"] (BN K a):=by
 refine T.qM.ok BP ?_ ?_
 ·rintro _ _ _ _ ⟨_,_,_,_,_,_,_,rfl,_⟩
  rfl
 ·rintro cdv A outer s H _ Q E hr ⟨p,ask,ht,ag,en,d,h,rfl,⟨⟨dx,h1⟩,h2,h3,h4,h5⟩,k⟩
  refine ⟨_,(ao (aE (ox (a9 uf (pv 1) (aM (bR (K:=K)) (ai (K:=K) (pv 0) rfl) ax (λ_ _=>rfl)) (bo _)) (aM (bR (K:=K)) (ai (K:=K) (pv 0) rfl) ax (λ_ _=>rfl)) (aM (bR (K:=K)) (ai (K:=K) (pv 0) rfl) ax (λ_ _=>rfl))))),?_⟩
  refine ⟨_,rfl,_,rfl,p,a.ay,dx,_,_,rfl,h1,T.aA,T.aY,rfl,ht,_,0,_,rfl,rfl,h2.sq,at_of (j:=0) rfl rfl,rfl,_,rfl,?_⟩
  refine BW (λe=>?_) λe=>?_
  ·rw [if_pos (by omega)] at k
   exact ⟨_,rfl,p,a.ay,dx,_,_,rfl,h1,T.aA,T.aY,rfl,ht,_,1,_,rfl,rfl,h2.sq,at_of (j:=1) rfl rfl,k⟩
  ·rw [if_neg (by omega)] at k
   exact ⟨_,rfl,p,a.ay,dx,_,_,rfl,h1,T.aA,T.aY,rfl,ht,_,0,_,rfl,rfl,h2.sq,at_of (j:=0) rfl rfl,k⟩
def asks (d:UC):UC:={ d with asked:=(d.lo+d.hi) / 2,saidX:=0,saidY:=0,questions:=d.questions+1 }
def lM (K:Uy) (a:bI):Sp:=λvs H Q _=>∃ (p ask ht ag en:Addr) (d:UC),vs=[.ref p]/\fZ a H p ask ht ag en d/\d.x≠d.y /\
 ∀ (H':Hp) (ask':Addr),Keeps [p] H H'->H ask'=none->fZ a H' p ask' ht ag en (asks d)->Q .dH H'
theorem tE (T:Txt K mg a):a8 P w K mg base eS 2 a.cu a.cB ["self"] (lM K a):=by
 refine T.gY.ok tD ?_ ?_
 ·rintro _ _ _ _ ⟨_,_,_,_,_,_,rfl,_⟩
  rfl
 ·rintro cdv A outer s H _ Q E hr ⟨p,ask,ht,ag,en,d,rfl,⟨⟨dx,h1⟩,h2,h3,h4,h5⟩,hxy,k⟩
  refine ⟨_,(ah (aS (K:=K) (pv 0) (b8 AH (b8 zO (ai (K:=K) (pv 0) rfl) (ai (K:=K) (pv 0) rfl)) ax) rfl)
   (ah (aS (K:=K) (pv 0) (bE (we T) hr.lo rfl T.qg T.m7.kp T.qc .nil aG (aa (ai (K:=K) (pv 0) rfl) aj)) rfl)
   (ao (gV (K:=K) (pv 0) ax uQ)))),?_⟩
  have np:ht≠p:=h2.ne h1
  have gp:ag≠p:=aV h3 h1 (by intro z;cases z)
  have ep:en≠p:=aV h5 h1 (by intro z;cases z)
  refine ⟨_,rfl,p,a.ay,dx,_,_,rfl,h1,T.aA,T.dN,rfl,_,rfl,p,a.ay,dx,_,_,rfl,h1,T.aA,T.dy,rfl,_,_,rfl,rfl,_,_,rfl,rfl,⟨by decide,by decide⟩,_,rfl,p,a.ay,dx,_,rfl,h1,T.aA,T.bC,by show 9 < 1000;decide,?_⟩
  have e0:((λ(i j:Int)=>V.int (i / j)) ((d.lo:Int)+(d.hi:Int)) 2)=V.int (((d.lo+d.hi) / 2:Nat):Int):=by
   show V.int _=_
   congr 1
  rw [e0]
  refine ⟨_,rfl,p,a.ay,dx,_,_,rfl,ae,T.aA,T.aY,rfl,ht,[d.x,d.y],rfl,(h2.imp λo q=>by rw [ak np];exact q).sq,by simp [hxy],by show 2<=1000;decide,λH2 ask' s2 ha hask=>?_⟩
  have ap:ask'≠p:=λz=>by rw [z,ae] at ha;cases ha
  refine ⟨_,rfl,p,a.ay,dx,_,rfl,s2 _ _ ae,T.aA,T.jy,by show 9 < 1000;decide,?_⟩
  refine ⟨_,rfl,p,a.ay,dx,_,_,rfl,ae,T.aA,T.lT,rfl,_,_,rfl,rfl,dx,_,ae,by show 9 < 1000;decide,?_⟩
  rw [b9]
  have kp:∀ (b:Addr) (o:HO),H b=some o->b≠p->H2 b=some o:=λb o e n=>s2 _ _ (by rw [ak n];exact e)
  refine k _ ask' (λb o e n=>?_) (by rw [ak ap] at ha;exact ha) ⟨⟨dx,ae⟩,?_,?_,?_,?_⟩
  ·have nb:b≠p:=λz=>n (by rw [z];exact UE.mpr rfl)
   rw [ak nb]
   exact kp _ _ e nb
  ·exact h2.imp λo q=>by rw [ak np];exact kp _ _ q np
  ·rw [ak gp];exact kp _ _ h3 gp
  ·rw [ak ap];exact hask
  ·rw [ak ep];exact kp _ _ h5 ep
def stI (s:UB):List Int:=(s.at_:Int)::s.nums.map λ(n:Nat)=>(n:Int)
theorem fN (s:UB):Fq s=(stI s).map V.int:=by
 unfold Fq stI mf
 rw [UT,VG]
 rfl
theorem Bs:∀ {l m:List Nat},(l.map λ(n:Nat)=>(n:Int))=m.map (λ(n:Nat)=>(n:Int))->l=m
 | [],[],_=>rfl
 | [],_::_,h=>by simp at h
 | _::_,[],h=>by simp at h
 | x::l,y::m,h=>by
  rw [UT,UT] at h
  injection h with h1 h2
  rw [Bs h2,show x=y by omega]
theorem P0 {s t:UB} (h:stI s=stI t):s=t:=by
 unfold stI at h
 injection h with h1 h2
 have e1:s.at_=t.at_:=by omega
 have e2:=Bs h2
 cases s
 cases t
 simp at e1 e2
 rw [e1,e2]
theorem A4 (s t:UB):decide (stI s=stI t)=decide (s=t):=by
 by_cases e:s=t
 ·rw [e];simp
 ·rw [decide_eq_false e];exact decide_eq_false λh=>e (P0 h)
def cH (d:UC) (r s:UB):UC:=if r=s then { d with lo:=d.asked,agreed:=r } else { d with hi:=d.asked }
def cT (d:UC) (r s:UB):UC:=if (cH d r s).hi=(cH d r s).lo+1 then cH d r s else asks (cH d r s)
theorem Gk (d:UC) (r s:UB):(cH d r s).x=d.x/\(cH d r s).y=d.y:=by
 unfold cH
 split<;>exact ⟨rfl,rfl⟩
def BD (K:Uy) (a:bI):Sp:=λvs H Q _=>∃ (p ask ht ag en f g:Addr) (d:UC) (r s:UB),vs=[.ref p,.ref f,.ref g]/\fZ a H p ask ht ag en d/\d.x≠d.y/\H f=some (.tup (Fq r))/\H g=some (.tup (Fq s)) /\
 ∀ (H':Hp) (ask' ag':Addr),Keeps [p] H H'->(ask'=ask∨H ask'=none)->fZ a H' p ask' ht ag' en (cT d r s)->Q .dH H'
theorem Cm (T:Txt K mg a):a8 P w K mg base eS 3 a.jC a.jD ["self","first_said","second_said"] (BD K a):=by
 refine T.qU.ok Cd ?_ ?_
 ·rintro _ _ _ _ ⟨_,_,_,_,_,_,_,_,_,_,rfl,_⟩
  rfl
 ·rintro cdv A outer s H _ Q E hr ⟨p,ask,ht,ag,en,f,g,d,r,s0,rfl,D0,hxy,hf,hg,k⟩
  refine ⟨_,(ah (bj (a9 (DH (K:=K) hr.units) (pv 1) (pv 2) (bo _)) (ah (aS (K:=K) (pv 0) (ai (K:=K) (pv 0) rfl) rfl)
   (ao (aS (K:=K) (pv 0) (pv 1) rfl))) (ao (aS (K:=K) (pv 0) (ai (K:=K) (pv 0) rfl) rfl)))
   (ao (bj (ie (bJ (b7 (pv 0) T.aA T.ck (iw T) hr.lo T.cg .nil aG))) (ao (bU (b7 (pv 0) T.aA T.gU (tE T) hr.lo T.gR .nil aG))) aQ))),?_⟩
  obtain ⟨⟨dx,h1⟩,h2,h3,h4,h5⟩:=D0
  have np:ht≠p:=h2.ne h1
  have gp:ag≠p:=aV h3 h1 (by intro z;cases z)
  have ep:en≠p:=aV h5 h1 (by intro z;cases z)
  have ap:ask≠p:=aV h4 h1 (by intro z;cases z)
  have fp:f≠p:=aV hf h1 (by intro z;cases z)
  have fin:∀ (H1:Hp) (ag1:Addr),Keeps [p] H H1->fZ a H1 p ask ht ag1 en (cH d r s0) ->
    SJ (SD (tB (K2 a.ay (Str.ofString "is_down_to_one_turn") (iz K a) [] E0 (PH 0) Oh)))
     (P7 (K2 a.ay (Str.ofString "ask_for_middle") (lM K a) [] E0 (PH 0) Oh)) Qj { nx:=λx H'=>Q V.dH H',rt:=Q } [some (.ref p),some (.ref f),some (.ref g)] H1:=λH1 ag1 kp D1=>by
   obtain ⟨dx1,g1⟩:=D1.ins
   refine ⟨_,rfl,p,dx1,_,rfl,g1,rfl,p,ask,ht,ag1,en,_,rfl,D1,_,rfl,?_⟩
   by_cases c:(cH d r s0).hi=(cH d r s0).lo+1
   ·rw [decide_eq_true c]
    refine bu (k H1 ask ag1 kp (.inl rfl) ?_)
    unfold cT
    rw [if_pos c]
    exact D1
   ·rw [decide_eq_false c]
    refine bc ⟨_,rfl,p,dx1,_,rfl,g1,rfl,p,ask,ht,ag1,en,_,rfl,D1,?_,λH2 ask' k2 ha D2=>?_⟩
    ·rw [(Gk d r s0).1,(Gk d r s0).2];exact hxy
    ·refine k H2 ask' ag1 (kp.trans k2) (.inr ?_) ?_
     ·exact kp.free ha λm=>by rw [UE.mp m,g1] at ha;cases ha
     ·unfold cT
      rw [if_neg c]
      exact D2
  refine ⟨_,rfl,_,rfl,jv (stI r),jv (stI s0),pI (gc.of (by rw [hf,fN])),pI (gc.of (by rw [hg,fN])),shaped_ints _,shaped_ints _,_,rfl,?_⟩
  rw [sH,A4]
  by_cases c:r=s0
  ·rw [decide_eq_true c]
   refine bc ?_
   refine ⟨_,rfl,p,a.ay,dx,_,_,rfl,h1,T.aA,T.bC,rfl,_,rfl,p,a.ay,dx,_,rfl,h1,T.aA,T.dN,by show 9 < 1000;decide,?_⟩
   refine ⟨_,rfl,_,rfl,p,a.ay,dx,_,rfl,ae,T.aA,T.lx,by show 9 < 1000;decide,?_⟩
   rw [b9]
   refine fin _ f (Keeps.upd (UE.mpr rfl)) ?_
   unfold cH
   rw [if_pos c]
   exact ⟨⟨dx,ae⟩,h2.imp λo q=>(by rw [ak np];exact q),by rw [ak fp];exact hf,by rw [ak ap];exact h4,by rw [ak ep];exact h5⟩
  ·rw [decide_eq_false c]
   refine bu ?_
   refine ⟨_,rfl,p,a.ay,dx,_,_,rfl,h1,T.aA,T.bC,rfl,_,rfl,p,a.ay,dx,_,rfl,h1,T.aA,T.dy,by show 9 < 1000;decide,?_⟩
   refine fin _ ag (Keeps.upd (UE.mpr rfl)) ?_
   unfold cH
   rw [if_neg c]
   exact ⟨⟨dx,ae⟩,h2.imp λo q=>(by rw [ak np];exact q),by rw [ak gp];exact h3,by rw [ak ap];exact h4,by rw [ak ep];exact h5⟩
def newD (no x y T:Nat) (b:UB):UC:={ no:=no,x:=x,y:=y,lo:=0,agreed:=b,hi:=T,asked:=T / 2,saidX:=0,saidY:=0,lost:=0,questions:=if T<=1 then 0 else 1,verdict:=none }
def Dx (K:Uy) (a:bI):Sp:=λvs H Q _=>∃ (p dx g:Addr) (x y T:Nat) (b:UB),vs=[.ref p,.int (x:Int),.int (y:Int),.ref g,.int (T:Int)]/\H p=some (.ins a.ay dx [])/\H g=some (.tup (Fq b))/\x≠y/\1<=T /\
 ∀ (H':Hp) (ask ht en:Addr),Keeps [p] H H'->H ask=none->(∀ no,fZ a H' p ask ht g en (newD no x y T b))->Q .dH H'
theorem Dh (T:Txt K mg a):a8 P w K mg base eS 2 a.kJ a.kj ["self","first","second","beginning","turns"] (Dx K a):=by
 refine T.sJ.ok Du ?_ ?_
 ·rintro _ _ _ _ ⟨_,_,_,_,_,_,_,rfl,_⟩
  rfl
 ·rintro cdv A outer s H _ Q E hr ⟨p,dx,g,x,y,T0,b,rfl,hp,hg,hxy,hT,k⟩
  refine ⟨_,(ah (aS (K:=K) (pv 0) (Pg (aa (pv 1) (aa (pv 2) aj))) rfl)
   (ah (aS (K:=K) (pv 0) ax rfl)
   (ah (aS (K:=K) (pv 0) (pv 3) rfl)
   (ah (aS (K:=K) (pv 0) (pv 4) rfl)
   (ah (aS (K:=K) (pv 0) (b8 AH (pv 4) ax) rfl)
   (ah (aS (K:=K) (pv 0) (bE (we T) hr.lo rfl T.qg T.m7.kp T.qc .nil aG (aa (ai (K:=K) (pv 0) rfl) aj)) rfl)
   (ah (aS (K:=K) (pv 0) (ox (a9 uf (pv 4) ax (bo _)) ax ax) rfl)
   (ah (aS (K:=K) (pv 0) ax rfl)
   (ao (aS (K:=K) (pv 0) (wk (aa ax (aa ax aj))) rfl)))))))))),?_⟩
  have gp:g≠p:=aV hg hp (by intro z;cases z)
  refine ⟨_,rfl,_,rfl,Ob,λht ob hht hoc hod=>?_⟩
  have tp:ht≠p:=λz=>by rw [z,hp] at hht;cases hht
  refine ⟨_,rfl,p,a.ay,dx,_,rfl,by rw [ak tp.symm];exact hp,T.aA,T.aY,by show 0 < 1000;decide,?_⟩
  refine ⟨_,rfl,p,a.ay,dx,_,rfl,ae,T.aA,T.dN,by show 1 < 1000;decide,?_⟩
  rw [b9]
  refine ⟨_,rfl,_,rfl,p,a.ay,dx,_,rfl,ae,T.aA,T.lx,by show 2 < 1000;decide,?_⟩
  rw [b9]
  refine ⟨_,rfl,_,rfl,p,a.ay,dx,_,rfl,ae,T.aA,T.dy,by show 3 < 1000;decide,?_⟩
  rw [b9]
  refine ⟨_,rfl,_,_,rfl,rfl,⟨by decide,by decide⟩,_,rfl,p,a.ay,dx,_,rfl,ae,T.aA,T.bC,by show 4 < 1000;decide,?_⟩
  rw [b9]
  have e0:((λ(i j:Int)=>V.int (i / j)) (T0:Int) 2)=V.int ((T0 / 2:Nat):Int):=by
   show V.int _=_
   congr 1
  rw [e0]
  refine ⟨_,rfl,p,a.ay,dx,_,_,rfl,ae,T.aA,T.aY,rfl,ht,[x,y],rfl,(FT.sq (p:=ht) (xs:=mf [x,y]) ⟨ob,by rw [ak tp,ae];rfl,hoc,hod⟩),by simp [hxy],by show 2<=1000;decide,λH2 ask s2 ha hask=>?_⟩
  have ap:ask≠p:=λz=>by rw [z,ae] at ha;cases ha
  have at':ask≠ht:=λz=>by rw [z,ak tp,ae] at ha;cases ha
  refine ⟨_,rfl,p,a.ay,dx,_,rfl,s2 _ _ ae,T.aA,T.jy,by show 5 < 1000;decide,?_⟩
  refine ⟨_,rfl,rfl,_,rfl,?_⟩
  refine NA (.int ((if T0<=1 then 0 else 1:Nat):Int)) (λhc Q' hq'=>?_) (λhc Q' hq'=>?_) ?_
  ·have:T0=1:=by have:=of_decide_eq_true hc;injection this with this;omega
   rw [if_pos (by omega)] at hq'
   exact hq'
  ·have:¬ T0=1:=λz=>by rw [z] at hc;exact absurd hc (by decide)
   rw [if_neg (by omega)] at hq'
   exact hq'
  refine ⟨_,rfl,p,a.ay,dx,_,rfl,ae,T.aA,T.lT,by show 6 < 1000;decide,?_⟩
  rw [b9]
  refine ⟨_,rfl,p,a.ay,dx,_,rfl,ae,T.aA,T.sf,by show 7 < 1000;decide,?_⟩
  rw [b9]
  refine ⟨Ob,λen hen=>?_⟩
  have enp:en≠p:=λz=>by rw [z,ae] at hen;cases hen
  refine ⟨_,rfl,p,a.ay,dx,_,rfl,by rw [ak enp.symm];exact ae,T.aA,T.dC,by show 8 < 1000;decide,?_⟩
  have hen2:H2 en=none:=by rw [ak enp] at hen;exact hen
  have ha0:H ask=none:=by rw [ak ap,ak at'] at ha;exact ha
  have kp:∀ (b:Addr) (o:HO),H b=some o->b≠p->H2 b=some o:=λb o e n=>s2 _ _ (by rw [ak n,ak (aF e hht)];exact e)
  have kt:FT H2 ht [.int (x:Int),.int (y:Int)]:=⟨ob,s2 _ _ (by rw [ak tp,ae]),hoc,hod⟩
  have fin:∀ (o1 o2 o3:HO) (b:Addr) (o:HO),H2 b=some o->b≠p->upd (upd (upd H2 p o1) en o2) p o3 b=some o:=λo1 o2 o3 b o e n=>by
   rw [ak n,ak (aF e hen2),ak n]
   exact e
  refine k _ ask ht en (λb o e n=>?_) ha0 (λno=>⟨⟨dx,ae⟩,kt.imp (λo q=>fin _ _ _ _ _ q tp),fin _ _ _ _ _ (kp _ _ hg gp) gp,fin _ _ _ _ _ hask ap,?_⟩)
  ·have nb:b≠p:=λz=>n (by rw [z];exact UE.mpr rfl)
   exact fin _ _ _ _ _ (kp _ _ e nb) nb
  ·rw [ak enp,ae]
   rfl
def RQ (ot:Addr) (T:Nat) (oa:Addr) (l:Nat):List (Str × V):=[("hosts",.ref ot),("turn_asked",.int (T:Int)),("asked",.ref oa),("lost",.int (l:Int))]
def wR (cA:List Nat):List (Nat × Nat):=(List.range cA.length).map λi=>(i,cA.getD i 0)
structure HI (a:bI) (H:Hp) (op oa ot:Addr) (T:Nat) (cA:List Nat) (lost:Nat):Prop where
 ins:∃ dx,H op=some (.ins a.bH dx (RQ ot T oa lost))
 hosts:H ot=some (.tup (mf (List.range cA.length)))
 ask:∃ kvs,H oa=some (.dK kvs)/\DR (λv (m:Nat)=>v=.int (m:Int)) kvs (wR cA)
theorem Kj (n:Nat):DR (λv (m:Nat)=>v=.int (m:Int)) (zeros (List.range n)) (wR (Wl n 0)):=by
 unfold zeros wR DR
 rw [Wn]
 have:∀ l:List Nat,(∀ i∈l,i < n)->Paired (λ(kv:Key × V) (p:Nat × Nat)=>kv.1=Sum.inl ((p.1:Nat):Int)/\kv.2=.int ((p.2:Nat):Int)) (l.map λ(x:Nat)=>(Sum.inl (x:Int),V.int 0)) (l.map λi=>(i,(Wl n 0).getD i 0)):=by
  intro l
  induction l with
  | nil=>exact λ_=>.nil
  | cons i r ih =>
   intro h
   refine .cons ⟨rfl,?_⟩ (ih λj hj=>h j (U2 _ hj))
   have hi:=h i (UZ ..)
   show V.int 0=V.int (((Wl n 0).getD i 0:Nat):Int)
   rw [VE,List.getElem?_replicate,if_pos hi]
   rfl
 exact this _ λi hi=>U8.mp hi
def C8 (K:Uy) (a:bI):Sp:=λvs H Q _=>∃ (op dx:Addr) (T n:Nat),vs=[.ref op,.int (T:Int),.int (n:Int)]/\H op=some (.ins a.bH dx [])/\n<=1000 /\
 ∀ (H':Hp) (oa ot:Addr),Keeps [op] H H'->H oa=none->HI a H' op oa ot T (Wl n 0) 0->Q .dH H'
theorem Dj (T:Txt K mg a):a8 P w K mg base eS 2 a.km a.kG ["self","turns","n"] (C8 K a):=by
 refine T.rO.ok Di ?_ ?_
 ·rintro _ _ _ _ ⟨_,_,_,_,rfl,_⟩
  rfl
 ·rintro cdv A outer s H _ Q E hr ⟨op,dx,T0,n,rfl,hp,hn,k⟩
  refine ⟨_,(ah (aS (K:=K) (pv 0) (gb (MF rfl) (by rfl) T.y9 jK (aa (gb Of (by rfl) T.DL Ft (aa (pv 2) aj)) aj)) rfl)
   (ah (aS (K:=K) (pv 0) (pv 1) rfl)
   (ah (aS (K:=K) (pv 0) (bE (we T) hr.lo rfl T.qg T.m7.kp T.qc .nil aG (aa (ai (K:=K) (pv 0) rfl) aj)) rfl)
   (ao (aS (K:=K) (pv 0) ax rfl))))),?_⟩
  refine ⟨_,rfl,_,rfl,λrg hrg=>⟨rg,n,rfl,ae,hn,λot hot=>?_⟩⟩
  have s1:az H (upd (upd H rg (.rng 0 (n:Int))) ot (.tup ((List.range n).map λ(i:Nat)=>V.int (i:Int)))):=(az.laid hrg).trans (az.laid hot)
  have hot0:H ot=none:=(az.laid hrg).free hot
  generalize hH1:upd (upd H rg (.rng 0 (n:Int))) ot (.tup ((List.range n).map λ(i:Nat)=>V.int (i:Int)))=H1 at s1 ⊢
  have ht1:H1 ot=some (.tup (mf (List.range n))):=by rw [<- hH1,ae];rfl
  have hp1:=s1 _ _ hp
  have tp:ot≠op:=aV ht1 hp1 (by intro z;cases z)
  refine ⟨_,rfl,op,a.bH,dx,_,rfl,hp1,T.eG,T.qN,by show 0 < 1000;decide,?_⟩
  refine ⟨_,rfl,_,rfl,op,a.bH,dx,_,rfl,ae,T.eG,T.lh,by show 1 < 1000;decide,?_⟩
  rw [b9]
  refine ⟨_,rfl,op,a.bH,dx,_,_,rfl,ae,T.eG,T.qN,rfl,ot,List.range n,rfl,gc.of (by rw [ak tp];exact ht1),List.nodup_range,by rw [Vi];exact hn,λH2 oa s2 ha hask=>?_⟩
  have ap:oa≠op:=λz=>by rw [z,ae] at ha;cases ha
  refine ⟨_,rfl,op,a.bH,dx,_,rfl,s2 _ _ ae,T.eG,T.qG,by show 2 < 1000;decide,?_⟩
  refine ⟨_,rfl,op,a.bH,dx,_,rfl,ae,T.eG,T.sk,by show 3 < 1000;decide,?_⟩
  rw [b9]
  have kp:∀ (b:Addr) (o:HO),H1 b=some o->b≠op->H2 b=some o:=λb o e n=>s2 _ _ (by rw [ak n];exact e)
  have ha1:H1 oa=none:=by rw [ak ap] at ha;exact ha
  refine k _ oa ot (λb o e nb=>?_) (s1.free ha1) ⟨⟨dx,ae⟩,?_,zeros (List.range n),?_,Kj n⟩
  ·have nb':b≠op:=λz=>nb (by rw [z];exact UE.mpr rfl)
   rw [ak nb']
   exact kp _ _ (s1 _ _ e) nb'
  ·rw [ak tp,Wn]
   exact kp _ _ ht1 tp
  ·rw [ak ap]
   exact hask
def Ab (K:Uy) (a:bI):Sp:=λvs H Q _=>∃ (op:Addr),vs=[.ref op]/\Q (.bl true) H
theorem zH (T:Txt K mg a):a8 P w K mg base eS 1 a.gm a.gO ["self"] (Ab K a):=by
 refine T.nq.ok z3 ?_ ?_
 ·rintro _ _ _ _ ⟨_,rfl,_⟩
  rfl
 ·rintro cdv A outer s H _ Q E hr ⟨op,rfl,k⟩
  refine ⟨_,(ao (aE Fo)),?_⟩
  exact k
end
inductive Role where
 | af | ls | op | oa | dl | host (i:Nat) | tell (i:Nat) | pS (i:Nat) | aH (j:Nat) | bM (j:Nat)
 deriving DecidableEq
def FD (n m:Nat):Role->Prop
 | .host i=>i < n
 | .tell i=>i < n
 | .pS i=>i < n
 | .aH j=>j < m
 | .bM j=>j < m
 | _=>True
structure Lay where
 ad:Role->Addr
 r:Addr
 lo:Addr
 hl:Addr
 ot:Addr
 os:List Addr
 ts:List Addr
 dt:Nat->Addr
 da:Nat->Addr
 de:Nat->Addr
 tl:Nat->Tl
def Fp (L:Lay) (A:Ux):List (Str × V):=[("run",.ref L.r),("turns",.int (A.turns:Int)),("losses_allowed",.int (A.mayLose:Int)),("hosts",.ref L.hl),("opening",.ref (L.ad .op)),("disputes",.ref (L.ad .dl)),("purse",.int (A.purse:Int)),("end_found",.bl A.found.isSome)]
def lV (A:Ux) (i:Nat):List (Nat × UB):=((A.heard.filter λh=>h.host == i).reverse).map λh=>(h.turn,h.says)
def T4 (H:Hp) (v:V) (s:UB):Prop:=∃ q,v=.ref q/\H q=some (.tup (Fq s))
def Hb (H:Hp) (h:Addr) (g:List (Nat × UB)):Prop:=∃ kvs,H h=some (.dK kvs)/\DR (T4 H) kvs g
structure aJ (a:bI) (bad:List Addr) (H:Hp) (L:Lay) (A:Ux):Prop where
 inj:∀ r r',FD A.hosts.length A.disputes.length r->FD A.hosts.length A.disputes.length r'->L.ad r=L.ad r'->r=r'
 af:∃ dx,H (L.ad .af)=some (.ins a.aw dx (Fp L A))
 run:rX a H L.r L.lo (L.ad .ls) L.os L.ts A.program A.begin_
 M6:L.ts.length<=2001
 hl:H L.hl=some (.lst ((List.range A.hosts.length).map λi=>V.ref (L.ad (.host i))))
 host:∀ i,i < A.hosts.length->rM a H (L.ad (.host i)) (L.ad (.tell i)) (L.ad (.pS i)) (Uz A i).stake (Uz A i).out
 tell:∀ i,i < A.hosts.length->uY (L.ad .ls::L.ad .dl::bad) H (L.ad (.tell i)) (L.tl i)/\TB (L.tl i) (Uz A i).bent
 pS:∀ i,i < A.hosts.length->Hb H (L.ad (.pS i)) (lV A i)
 op:HI a H (L.ad .op) (L.ad .oa) L.ot A.turns A.saidTo A.lost
 dl:H (L.ad .dl)=some (.lst ((List.range A.disputes.length).map λj=>V.ref (L.ad (.aH j))))
 aH:∀ j d,A.disputes[j]?=some d->fZ a H (L.ad (.aH j)) (L.ad (.bM j)) (L.dt j) (L.da j) (L.de j) d
 OR:¬ L.lo∈L.ad .ls::L.ad .dl::bad
 N7:¬ L.hl∈L.ad .ls::L.ad .dl::bad
 FL:A.saidTo.length=A.hosts.length
def Once:List Vbapaj.Heard->Prop
 | []=>True
 | h::r=>(∀ k∈r,¬ (k.host=h.host/\k.turn=h.turn))/\Once r
theorem y8 (A:Ux) (i t:Nat) (ho:Once A.heard):yL (lV A i) t=UD A i t:=by
 unfold lV UD yL
 generalize A.heard=l at ho
 have key:∀ l:List Vbapaj.Heard,Once l->((((l.filter λh=>h.host == i).reverse).map λh=>(h.turn,h.says)).find? λp=>decide (p.1=t)).map (·.2)=(l.find? λh=>h.host == i&&h.turn == t).map λh=>h.says:=by
  intro l
  induction l with
  | nil=>intro _;rfl
  | cons h r ih =>
   intro hl
   have ih:=ih hl.2
   rw [UW,Vg]
   by_cases hi:h.host=i
   ·have e1:(h.host == i)=true:=beq_iff_eq.mpr hi
    rw [e1,if_pos rfl,List.reverse_cons,U1,List.find?_append]
    by_cases ht:h.turn=t
    ·have e2:(h.turn == t)=true:=beq_iff_eq.mpr ht
     have hn:((((r.filter λh=>h.host == i).reverse).map λh=>(h.turn,h.says)).find? λp=>decide (p.1=t))=none:=by
      rw [Wx]
      intro p hp
      obtain ⟨k,hk,rfl⟩:=UR.mp hp
      have hk:=VM.mp (List.mem_reverse.mp hk)
      have h1:k.host=i:=beq_iff_eq.mp hk.2
      simp only [decide_eq_true_eq]
      exact λe=>hl.1 k hk.1 ⟨by rw [h1,hi],by rw [e,ht]⟩
     rw [hn,e2]
     simp [ht]
    ·have e2:(h.turn == t)=false:=beq_eq_false_iff_ne.mpr ht
     rw [e2]
     simp only [VU]
     rw [<- ih]
     congr 1
     have:([(h.turn,h.says)].find? λp=>decide (p.1=t))=none:=by simp [ht]
     rw [show (Vs (λh=>(h.turn,h.says)) [h])=[(h.turn,h.says)] from rfl,this]
     simp
   ·have e1:(h.host == i)=false:=beq_eq_false_iff_ne.mpr hi
    rw [e1]
    simp only [V7,Bool.false_eq_true,if_false]
    exact ih
 exact key l ho
section
variable {P:Program} {w:World} {K:Uy} {mg:Str->Option Value} {base:Heap} {a:bI}
def z7 (K:Uy) (a:bI):Sp:=λvs H Q _=>∃ (bad:List Addr) (L:Lay) (A:Ux) (z:Int),vs=[.ref (L.ad .af),.int z]/\aJ a bad H L A/\Q (.bl (decide (0<=z)&&decide (z < (A.hosts.length:Int)))) H
theorem fO (T:Txt K mg a):a8 P w K mg base eS 1 a.gu a.gz ["self","number"] (z7 K a):=by
 refine T.oC.ok Ao ?_ ?_
 ·rintro _ _ _ _ ⟨_,_,_,_,rfl,_⟩
  rfl
 ·rintro cdv A outer s H _ Q E hr ⟨bad,L,A,z,rfl,F,k⟩
  refine ⟨_,(ao (aE (vJ ku Jm ax (pv 1) (aU (a7 (K:=K)) (by rfl) T.dO UU (aa (ai (K:=K) (pv 0) rfl) aj))))),?_⟩
  obtain ⟨dx,h1⟩:=F.af
  refine ⟨_,rfl,0,z,rfl,rfl,_,rfl,?_⟩
  by_cases c1:(0:Int)<=z
  ·rw [decide_eq_true c1] at k ⊢
   refine bc ⟨_,rfl,L.ad .af,a.aw,dx,_,_,rfl,h1,T.au,T.bw,rfl,L.hl,_,rfl,.inl (bf.of F.hl),_,_,rfl,rfl,?_⟩
   rw [UA,Vi]
   exact k
  ·rw [decide_eq_false c1] at k ⊢
   exact bu k
def zB (K:Uy) (a:bI):Sp:=λvs H Q _=>∃ (bad:List Addr) (L:Lay) (A:Ux) (z:Int),vs=[.ref (L.ad .af),.int z]/\aJ a bad H L A/\Q (.bl (decide (0<=z)&&decide (z<=(A.turns:Int)))) H
theorem rY (T:Txt K mg a):a8 P w K mg base eS 1 a.gI a.gy ["self","turn"] (zB K a):=by
 refine T.oj.ok z6 ?_ ?_
 ·rintro _ _ _ _ ⟨_,_,_,_,rfl,_⟩
  rfl
 ·rintro cdv A outer s H _ Q E hr ⟨bad,L,A,z,rfl,F,k⟩
  refine ⟨_,(ao (aE (vJ ku ku ax (pv 1) (ai (K:=K) (pv 0) rfl)))),?_⟩
  obtain ⟨dx,h1⟩:=F.af
  refine ⟨_,rfl,0,z,rfl,rfl,_,rfl,?_⟩
  by_cases c1:(0:Int)<=z
  ·rw [decide_eq_true c1] at k ⊢
   exact bc ⟨_,rfl,L.ad .af,a.aw,dx,_,_,rfl,h1,T.au,T.fW,rfl,_,_,rfl,rfl,k⟩
  ·rw [decide_eq_false c1] at k ⊢
   exact bu k
def w6 (K:Uy) (a:bI):Sp:=λvs H Q _=>∃ (bad:List Addr) (L:Lay) (A:Ux) (z:Int),vs=[.ref (L.ad .af),.int z]/\aJ a bad H L A/\Q (.bl (decide (0<=z)&&decide (z<=(A.disputes.length:Int)))) H
theorem oW (T:Txt K mg a):a8 P w K mg base eS 1 a.ef a.dY ["self","number"] (w6 K a):=by
 refine T.kQ.ok xh ?_ ?_
 ·rintro _ _ _ _ ⟨_,_,_,_,rfl,_⟩
  rfl
 ·rintro cdv A outer s H _ Q E hr ⟨bad,L,A,z,rfl,F,k⟩
  refine ⟨_,(ao (aE (vJ ku ku ax (pv 1) (aU (a7 (K:=K)) (by rfl) T.dO UU (aa (ai (K:=K) (pv 0) rfl) aj))))),?_⟩
  obtain ⟨dx,h1⟩:=F.af
  refine ⟨_,rfl,0,z,rfl,rfl,_,rfl,?_⟩
  by_cases c1:(0:Int)<=z
  ·rw [decide_eq_true c1] at k ⊢
   refine bc ⟨_,rfl,L.ad .af,a.aw,dx,_,_,rfl,h1,T.au,T.bS,rfl,L.ad .dl,_,rfl,.inl (bf.of F.dl),_,_,rfl,rfl,?_⟩
   rw [UA,Vi]
   exact k
  ·rw [decide_eq_false c1] at k ⊢
   exact bu k
theorem kP {n i:Nat} {f:Nat->V} (h:i < n):((List.range n).map f)[i]?=some (f i):=by
 rw [Ve,Wt h]
 rfl
def BL (K:Uy) (a:bI):Sp:=λvs H Q _=>∃ (bad:List Addr) (L:Lay) (A:Ux) (i:Nat),vs=[.ref (L.ad .af),.int (i:Int)]/\aJ a bad H L A/\i < A.hosts.length/\Q (.bl (Uz A i).out) H
theorem lG (T:Txt K mg a):a8 P w K mg base eS 1 a.jx a.jB ["self","number"] (BL K a):=by
 refine T.qD.ok BH ?_ ?_
 ·rintro _ _ _ _ ⟨_,_,_,_,rfl,_⟩
  rfl
 ·rintro cdv A outer s H _ Q E hr ⟨bad,L,A,i,rfl,F,hi,k⟩
  refine ⟨_,(ao (aE (ai (K:=K) (aM (aB (K:=K)) (ai (K:=K) (pv 0) rfl) (pv 1) (λ_ _=>rfl)) rfl))),?_⟩
  obtain ⟨dx,h1⟩:=F.af
  obtain ⟨dh,h2⟩:=F.host i hi
  exact ⟨_,rfl,L.ad .af,a.aw,dx,_,_,rfl,h1,T.au,T.bw,rfl,_,rfl,L.hl,_,_,_,rfl,rfl,bf.of F.hl,at_of (j:=i) rfl (kP hi),L.ad (.host i),a.bB,dh,_,_,rfl,h2,T.bP,T.mH,rfl,k⟩
def EX (K:Uy) (a:bI):Sp:=λvs H Q _=>∃ (bad:List Addr) (L:Lay) (A:Ux) (i t:Nat),vs=[.ref (L.ad .af),.int (i:Int),.int (t:Int)]/\aJ a bad H L A/\i < A.hosts.length/\Once A.heard/\∀ v,kX H v (UD A i t)->Q v H
theorem fV (T:Txt K mg a):a8 P w K mg base eS 1 a.lY a.mr ["self","number","turn"] (EX K a):=by
 refine T.uw.ok Ed ?_ ?_
 ·rintro _ _ _ _ ⟨_,_,_,_,_,rfl,_⟩
  rfl
 ·rintro cdv A outer s H _ Q E hr ⟨bad,L,A,i,t,rfl,F,hi,ho,k⟩
  refine ⟨_,(ao (aE (E8 (md hr) (ai (K:=K) (aM (aB (K:=K)) (ai (K:=K) (pv 0) rfl) (pv 1) (λ_ _=>rfl)) rfl) (pv 2) ⟨rfl,rfl,rfl,rfl⟩))),?_⟩
  obtain ⟨dx,h1⟩:=F.af
  obtain ⟨dh,h2⟩:=F.host i hi
  obtain ⟨kvs,h3,h4⟩:=F.pS i hi
  refine ⟨_,rfl,L.ad .af,a.aw,dx,_,_,rfl,h1,T.au,T.bw,rfl,_,rfl,L.hl,_,_,_,rfl,rfl,bf.of F.hl,at_of (j:=i) rfl (kP hi),L.ad (.host i),a.bB,dh,_,_,rfl,h2,T.bP,T.lK,rfl,L.ad (.pS i),rfl,.inl ⟨_,.inl h3⟩,_,rfl,_,mw.k (k:=Sum.inl (t:Int)) h3,?_⟩
  refine k _ ?_
  rw [<- y8 A i t ho]
  rcases h4.get t with ⟨q1,q2⟩ | ⟨b,v,q1,q2,q3⟩
  ·rw [q1,q2]
   rfl
  ·rw [q1,q2]
   exact q3
end
section
variable {a:bI} {bad:List Addr} {H H':Hp} {L:Lay} {A:Ux}
abbrev Lv (A:Ux) (r:Role):Prop:=FD A.hosts.length A.disputes.length r
theorem aJ.kind (F:aJ a bad H L A) {r:Role} (hr:Lv A r) :
  (∃ C dx f v rest,H (L.ad r)=some (.ins C dx ((f,v)::rest))/\(f="run"∨f="hosts"∨f="stake"))∨(∃ kvs,H (L.ad r)=some (.dK kvs))∨((∃ xs,H (L.ad r)=some (.lst xs))/\(r=.ls∨r=.dl)):=by
 cases r with
 | af=>obtain ⟨dx,h⟩:=F.af;exact .inl ⟨_,dx,_,_,_,h,.inl rfl⟩
 | ls=>exact .inr (.inr ⟨⟨_,F.run.EY⟩,.inl rfl⟩)
 | op=>obtain ⟨dx,h⟩:=F.op.ins;exact .inl ⟨_,dx,_,_,_,h,.inr (.inl rfl)⟩
 | oa=>obtain ⟨kvs,h,_⟩:=F.op.ask;exact .inr (.inl ⟨_,h⟩)
 | dl=>exact .inr (.inr ⟨⟨_,F.dl⟩,.inr rfl⟩)
 | host i=>obtain ⟨dx,h⟩:=F.host i hr;exact .inl ⟨_,dx,_,_,_,h,.inr (.inr rfl)⟩
 | tell i=>obtain ⟨⟨kvs,h,_⟩,_⟩:=F.tell i hr;exact .inr (.inl ⟨_,h⟩)
 | pS i=>obtain ⟨kvs,h,_⟩:=F.pS i hr;exact .inr (.inl ⟨_,h⟩)
 | aH j =>
  obtain ⟨dx,h⟩:=(F.aH j _ (Vo hr)).ins
  exact .inl ⟨_,dx,_,_,_,h,.inr (.inl rfl)⟩
 | bM j=>exact .inr (.inl ⟨_,(F.aH j _ (Vo hr)).ask⟩)
theorem aJ.there (F:aJ a bad H L A) {r:Role} (hr:Lv A r):∃ o,H (L.ad r)=some o:=by
 rcases F.kind hr with ⟨_,_,_,_,_,h,_⟩ | ⟨_,h⟩ | ⟨⟨_,h⟩,_⟩<;>exact ⟨_,h⟩
theorem aJ.P9 (F:aJ a bad H L A) {r:Role} (hr:Lv A r) (xs:List V):H (L.ad r)≠some (.tup xs):=λe=>by
 rcases F.kind hr with ⟨_,_,_,_,_,h,_⟩ | ⟨_,h⟩ | ⟨⟨_,h⟩,_⟩<;>(rw [h] at e;cases e)
theorem aJ.off (F:aJ a bad H L A) {r:Role} {rs:List Role} (hr:Lv A r) (hrs:∀ x∈rs,Lv A x) (h:¬ r∈rs):¬ L.ad r∈rs.map L.ad:=λm=>by
 obtain ⟨r',h',e⟩:=UR.mp m
 exact h (F.inj _ _ (hrs r' h') hr e ▸ h')
theorem aJ.Ar (F:aJ a bad H L A) {rs:List Role} (hrs:∀ x∈rs,Lv A x) (k:Keeps (rs.map L.ad) H H'):∀ b xs,H b=some (.tup xs)->H' b=some (.tup xs):=λb xs e=>k _ _ e λm=>by
 obtain ⟨r',h',rfl⟩:=UR.mp m
 exact F.P9 (hrs r' h') xs e
theorem aJ.Ci (F:aJ a bad H L A) {rs:List Role} (hrs:∀ x∈rs,Lv A x) (k:Keeps (rs.map L.ad) H H') {b:Addr} {xs:List V} (h:FT H b xs):FT H' b xs:=by
 obtain ⟨o,h,q⟩:=h
 refine ⟨o,k _ _ h λm=>?_,q⟩
 obtain ⟨r',h',rfl⟩:=UR.mp m
 rcases F.kind (hrs r' h') with ⟨_,_,_,_,_,h2,_⟩ | ⟨_,h2⟩ | ⟨⟨_,h2⟩,_⟩<;>(rw [h2] at h;cases h)
theorem aJ.Q7 (F:aJ a bad H L A) {rs:List Role} (hrs:∀ x∈rs,Lv A x) (k:Keeps (rs.map L.ad) H H'):∀ b xs,H b=some (.lst xs)->¬ b∈L.ad .ls::L.ad .dl::bad->H' b=some (.lst xs):=λb xs e n=>k _ _ e λm=>by
 obtain ⟨r',h',rfl⟩:=UR.mp m
 rcases F.kind (hrs r' h') with ⟨_,_,_,_,_,h,_⟩ | ⟨_,h⟩ | ⟨⟨_,h⟩,rfl | rfl⟩
 ·rw [h] at e;cases e
 ·rw [h] at e;cases e
 ·exact n (UZ ..)
 ·exact n (U2 _ (UZ ..))
theorem aJ.TL (F:aJ a bad H L A) {rs:List Role} (hrs:∀ x∈rs,Lv A x):¬ L.r∈rs.map L.ad:=λm=>by
 obtain ⟨r',h',e⟩:=UR.mp m
 obtain ⟨dx,h⟩:=F.run.run
 rcases F.kind (hrs r' h') with ⟨_,_,f,_,_,h2,hf⟩ | ⟨_,h2⟩ | ⟨⟨_,h2⟩,_⟩
 ·refine kL h h2 ?_ e.symm
  rcases hf with rfl | rfl | rfl<;>decide
 ·rw [e,h] at h2;cases h2
 ·rw [e,h] at h2;cases h2
variable {rs:List Role}
theorem aJ.runK (F:aJ a bad H L A) (hrs:∀ x∈rs,Lv A x) (k:Keeps (rs.map L.ad) H H') (n:¬ Role.ls∈rs):rX a H' L.r L.lo (L.ad .ls) L.os L.ts A.program A.begin_:=by
 obtain ⟨⟨dx,h1⟩,h2,h3,h4,h5,h6,h7,h8⟩:=F.run
 have t:=F.Ar hrs k
 exact ⟨⟨dx,k _ _ h1 (F.TL hrs)⟩,F.Q7 hrs k _ _ h2 F.OR,h3,λi q o hq ho=>t _ _ (h4 i q o hq ho),k _ _ h5 (F.off trivial hrs n),h6,h7,λi u hu=>t _ _ (h8 i u hu)⟩
theorem aJ.P4 (F:aJ a bad H L A) (hrs:∀ x∈rs,Lv A x) (k:Keeps (rs.map L.ad) H H'):H' L.hl=some (.lst ((List.range A.hosts.length).map λi=>V.ref (L.ad (.host i)))):=F.Q7 hrs k _ _ F.hl F.N7
theorem aJ.Rv (F:aJ a bad H L A) (hrs:∀ x∈rs,Lv A x) (k:Keeps (rs.map L.ad) H H') (n:¬ Role.af∈rs):∃ dx,H' (L.ad .af)=some (.ins a.aw dx (Fp L A)):=by
 obtain ⟨dx,h⟩:=F.af
 exact ⟨dx,k _ _ h (F.off trivial hrs n)⟩
theorem aJ.DZ (F:aJ a bad H L A) (hrs:∀ x∈rs,Lv A x) (k:Keeps (rs.map L.ad) H H') {i:Nat} (hi:i < A.hosts.length) (n:¬ Role.host i∈rs):rM a H' (L.ad (.host i)) (L.ad (.tell i)) (L.ad (.pS i)) (Uz A i).stake (Uz A i).out:=by
 obtain ⟨dx,h⟩:=F.host i hi
 exact ⟨dx,k _ _ h (F.off (r:=.host i) hi hrs n)⟩
theorem aJ.Cw (F:aJ a bad H L A) (hrs:∀ x∈rs,Lv A x) (k:Keeps (rs.map L.ad) H H') {i:Nat} (hi:i < A.hosts.length) (n:¬ Role.tell i∈rs):uY (L.ad .ls::L.ad .dl::bad) H' (L.ad (.tell i)) (L.tl i):=by
 obtain ⟨⟨kvs,h,hD⟩,_⟩:=F.tell i hi
 exact ⟨kvs,k _ _ h (F.off (r:=.tell i) hi hrs n),DR.imp (λv l hh=>CZ.qr (l:=[]) (F.Ar hrs k) (F.Q7 hrs k) hh) hD⟩
theorem aJ.IC (F:aJ a bad H L A) (hrs:∀ x∈rs,Lv A x) (k:Keeps (rs.map L.ad) H H') {i:Nat} (hi:i < A.hosts.length) (n:¬ Role.pS i∈rs):Hb H' (L.ad (.pS i)) (lV A i):=by
 obtain ⟨kvs,h,hD⟩:=F.pS i hi
 exact ⟨kvs,k _ _ h (F.off (r:=.pS i) hi hrs n),DR.imp (λv s ⟨q,e,hq⟩=>⟨q,e,F.Ar hrs k _ _ hq⟩) hD⟩
theorem aJ.Q4 (F:aJ a bad H L A) (hrs:∀ x∈rs,Lv A x) (k:Keeps (rs.map L.ad) H H') (n:¬ Role.op∈rs) (n2:¬ Role.oa∈rs):HI a H' (L.ad .op) (L.ad .oa) L.ot A.turns A.saidTo A.lost:=by
 obtain ⟨⟨dx,h1⟩,h2,kvs,h3,h4⟩:=F.op
 exact ⟨⟨dx,k _ _ h1 (F.off trivial hrs n)⟩,F.Ar hrs k _ _ h2,kvs,k _ _ h3 (F.off trivial hrs n2),h4⟩
theorem aJ.QN (F:aJ a bad H L A) (hrs:∀ x∈rs,Lv A x) (k:Keeps (rs.map L.ad) H H') (n:¬ Role.dl∈rs):H' (L.ad .dl)=some (.lst ((List.range A.disputes.length).map λj=>V.ref (L.ad (.aH j)))):=k _ _ F.dl (F.off trivial hrs n)
theorem aJ.CP (F:aJ a bad H L A) (hrs:∀ x∈rs,Lv A x) (k:Keeps (rs.map L.ad) H H') {j:Nat} {d:UC} (hj:A.disputes[j]?=some d) (n:¬ Role.aH j∈rs) (n2:¬ Role.bM j∈rs):fZ a H' (L.ad (.aH j)) (L.ad (.bM j)) (L.dt j) (L.da j) (L.de j) d:=by
 have hl:j < A.disputes.length:=(U5.mp hj).1
 obtain ⟨⟨dx,h1⟩,h2,h3,h4,h5⟩:=F.aH j d hj
 have t:=F.Ar hrs k
 exact ⟨⟨dx,k _ _ h1 (F.off (r:=.aH j) hl hrs n)⟩,F.Ci hrs k h2,t _ _ h3,k _ _ h4 (F.off (r:=.bM j) hl hrs n2),t _ _ h5⟩
def Lay.rm (L:Lay) (j:Nat) (ask dt da de:Addr):Lay:={ L with ad:=λr=>if r=.bM j then ask else L.ad r,dt:=λi=>if i=j then dt else L.dt i,da:=λi=>if i=j then da else L.da i,de:=λi=>if i=j then de else L.de i }
theorem aJ.rm (F:aJ a bad H L A) {j:Nat} {d d':UC} {ask dt da de:Addr} (hj:A.disputes[j]?=some d) (k:Keeps [L.ad (.aH j),L.ad (.bM j)] H H') (hask:ask=L.ad (.bM j)∨H ask=none) (D:fZ a H' (L.ad (.aH j)) ask dt da de d') :
  aJ a bad H' (L.rm j ask dt da de) { A with disputes:=A.disputes.set j d' }:=by
 have hl:j < A.disputes.length:=(U5.mp hj).1
 have hrs:∀ x∈[Role.aH j,Role.bM j],Lv A x:=λx hx=>by
  rcases UL.mp hx with rfl | hx
  ·exact hl
  ·rw [UE.mp hx];exact hl
 have k':Keeps ([Role.aH j,Role.bM j].map L.ad) H H':=k
 have ad:∀ r,r≠.bM j->(L.rm j ask dt da de).ad r=L.ad r:=λr hr=>if_neg hr
 have adj:(L.rm j ask dt da de).ad (.bM j)=ask:=if_pos rfl
 have ll:(A.disputes.set j d').length=A.disputes.length:=Vb ..
 refine ⟨λr r' hr hr' e=>?_,?_,?_,F.M6,?_,λi hi=>?_,λi hi=>?_,λi hi=>?_,?_,?_,λi e he=>?_,?_,?_,F.FL⟩
 ·have hr:Lv A r:=by show FD _ _ r;rw [<- ll];exact hr
  have hr':Lv A r':=by show FD _ _ r';rw [<- ll];exact hr'
  by_cases c:r=.bM j
  ·by_cases c':r'=.bM j
   ·rw [c,c']
   ·rw [c,adj,ad _ c'] at e
    rcases hask with q | q
    ·rw [q] at e;rw [c];exact F.inj _ _ hl hr' e
    ·obtain ⟨o,ho⟩:=F.there hr'
     rw [<- e,q] at ho
     cases ho
  ·by_cases c':r'=.bM j
   ·rw [c',adj,ad _ c] at e
    rcases hask with q | q
    ·rw [q] at e;rw [c'];exact F.inj _ _ hr hl e
    ·obtain ⟨o,ho⟩:=F.there hr
     rw [e,q] at ho
     cases ho
   ·rw [ad _ c,ad _ c'] at e
    exact F.inj _ _ hr hr' e
 ·exact F.Rv hrs k' (by simp)
 ·exact F.runK hrs k' (by simp)
 ·exact F.P4 hrs k'
 ·exact F.DZ hrs k' hi (by simp)
 ·exact ⟨F.Cw hrs k' hi (by simp),(F.tell i hi).2⟩
 ·exact F.IC hrs k' hi (by simp)
 ·exact F.Q4 hrs k' (by simp) (by simp)
 ·rw [ll]
  exact F.QN hrs k' (by simp)
 ·by_cases c:i=j
  ·subst c
   rw [VN hl] at he
   cases he
   rw [adj,ad _ (by simp)]
   show fZ a H' _ ask (if i=i then dt else L.dt i) (if i=i then da else L.da i) (if i=i then de else L.de i) d'
   rw [if_pos rfl,if_pos rfl,if_pos rfl]
   exact D
  ·rw [Wk (λz=>c z.symm)] at he
   rw [ad _ (by simp),ad _ (by simp [c])]
   show fZ a H' _ _ (if i=j then dt else L.dt i) (if i=j then da else L.da i) (if i=j then de else L.de i) e
   rw [if_neg c,if_neg c,if_neg c]
   exact F.CP hrs k' he (by simp [c]) (by simp [c])
 ·exact F.OR
 ·exact F.N7
theorem aJ.N1 (F:aJ a bad H L A) {hs:List Vbapaj.Host} {pu:Nat} {fo:Option UB} (hlen:hs.length=A.hosts.length)
  (hb:∀ i,i < A.hosts.length->(Uz { A with hosts:=hs,purse:=pu,found:=fo } i).bent=(Uz A i).bent)
  (k:Keeps ((Role.af::(List.range A.hosts.length).map Role.host).map L.ad) H H') (haf:∃ dx,H' (L.ad .af)=some (.ins a.aw dx (Fp L { A with hosts:=hs,purse:=pu,found:=fo })))
  (hh:∀ i,i < A.hosts.length->rM a H' (L.ad (.host i)) (L.ad (.tell i)) (L.ad (.pS i)) (Uz { A with hosts:=hs,purse:=pu,found:=fo } i).stake (Uz { A with hosts:=hs,purse:=pu,found:=fo } i).out) :
  aJ a bad H' L { A with hosts:=hs,purse:=pu,found:=fo }:=by
 have hrs:∀ x∈Role.af::(List.range A.hosts.length).map Role.host,Lv A x:=λx hx=>by
  rcases UL.mp hx with rfl | hx
  ·trivial
  ·obtain ⟨i,hi,rfl⟩:=UR.mp hx
   exact U8.mp hi
 have nl:∀ {r:Role},(∀ i,r≠.host i)->r≠.af->¬ r∈Role.af::(List.range A.hosts.length).map Role.host:=λh1 h2 m=>by
  rcases UL.mp m with e | m
  ·exact h2 e
  ·obtain ⟨i,_,e⟩:=UR.mp m
   exact h1 i e.symm
 have lv:∀ {r:Role},FD hs.length A.disputes.length r->Lv A r:=λh=>by rw [hlen] at h;exact h
 refine ⟨λr r' hr hr' e=>F.inj r r' (lv hr) (lv hr') e,haf,F.runK hrs k (nl (by simp) (by simp)),F.M6,?_,λi hi=>?_,λi hi=>?_,λi hi=>?_,F.Q4 hrs k (nl (by simp) (by simp)) (nl (by simp) (by simp)),F.QN hrs k (nl (by simp) (by simp)),
  λj d hj=>F.CP hrs k hj (nl (by simp) (by simp)) (nl (by simp) (by simp)),F.OR,F.N7,?_⟩
 ·have:=F.P4 hrs k
  show H' L.hl=some (.lst ((List.range hs.length).map λi=>V.ref (L.ad (.host i))))
  rw [hlen]
  exact this
 ·exact hh i (by have hi:i < hs.length:=hi;omega)
 ·have hi:i < A.hosts.length:=by have hi:i < hs.length:=hi;omega
  rw [hb i hi]
  exact ⟨F.Cw hrs k hi (nl (by simp) (by simp)),(F.tell i hi).2⟩
 ·exact F.IC hrs k (by have hi:i < hs.length:=hi;omega) (nl (by simp) (by simp))
 ·show A.saidTo.length=hs.length
  rw [hlen]
  exact F.FL
end
structure Step (H:Hp) (L:Lay) (A:Ux) (H':Hp) (L':Lay) (A':Ux):Prop where
 keep:∀ b o,H b=some o->(∀ r,Lv A r->b≠L.ad r)->H' b=some o
 old:∀ r,Lv A' r->(∃ r0,Lv A r0/\L'.ad r=L.ad r0)∨H (L'.ad r)=none
 af:L'.ad .af=L.ad .af
 hl:A'.hosts.length=A.hosts.length
 dn:A.disputes.length<=A'.disputes.length
 aH:∀ j,j < A.disputes.length->L'.ad (.aH j)=L.ad (.aH j)
 host:∀ j,L'.ad (.host j)=L.ad (.host j)
 dl:L'.ad .dl=L.ad .dl
 ls:L'.ad .ls=L.ad .ls
 op:L'.ad .op=L.ad .op
 r:L'.r=L.r
theorem Step.refl (H:Hp) (L:Lay) (A:Ux):Step H L A H L A:=⟨λ_ _ e _=>e,λr hr=>.inl ⟨r,hr,rfl⟩,rfl,rfl,UI _,λ_ _=>rfl,λ_=>rfl,rfl,rfl,rfl,rfl⟩
theorem Step.trans {H H1 H2:Hp} {L L1 L2':Lay} {A A1 A2:Ux} (s:Step H L A H1 L1 A1) (t:Step H1 L1 A1 H2 L2' A2):Step H L A H2 L2' A2 where
 keep:=λb o e n=>t.keep b o (s.keep b o e n) λr hr z=>by
  rcases s.old r hr with ⟨r0,h0,e0⟩ | h0
  ·exact n r0 h0 (z.trans e0)
  ·rw [<- z,e] at h0;cases h0
 old:=λr hr=>by
  rcases t.old r hr with ⟨r1,h1,e1⟩ | h1
  ·rcases s.old r1 h1 with ⟨r0,h0,e0⟩ | h0
   ·exact .inl ⟨r0,h0,e1.trans e0⟩
   ·exact .inr (by rw [e1];exact h0)
  ·cases q:H (L2'.ad r) with
   | none=>exact .inr rfl
   | some o =>
    by_cases c:∃ r0,Lv A r0/\L2'.ad r=L.ad r0
    ·exact .inl c
    ·rw [s.keep _ _ q λr0 h0 e0=>c ⟨r0,h0,e0⟩] at h1
     cases h1
 af:=t.af.trans s.af
 hl:=t.hl.trans s.hl
 dn:=US s.dn t.dn
 aH:=λj hj=>(t.aH j (Vq hj s.dn)).trans (s.aH j hj)
 host:=λj=>(t.host j).trans (s.host j)
 dl:=t.dl.trans s.dl
 ls:=t.ls.trans s.ls
 op:=t.op.trans s.op
 r:=t.r.trans s.r
theorem Step.rm {H H':Hp} {L:Lay} {A:Ux} {j:Nat} {d d':UC} {ask dt da de:Addr} (hj:A.disputes[j]?=some d) (k:Keeps [L.ad (.aH j),L.ad (.bM j)] H H') (hask:ask=L.ad (.bM j)∨H ask=none) :
  Step H L A H' (L.rm j ask dt da de) { A with disputes:=A.disputes.set j d' }:=by
 have hl:j < A.disputes.length:=(U5.mp hj).1
 refine ⟨λb o e n=>k b o e λm=>?_,λr hr=>?_,rfl,rfl,by rw [Vb];exact UI _,λi hi=>rfl,λi=>rfl,rfl,rfl,rfl,rfl⟩
 ·rcases UL.mp m with e | m
  ·exact n (.aH j) hl e
  ·exact n (.bM j) hl (UE.mp m)
 ·have hr:Lv A r:=by
   have hr:FD A.hosts.length (A.disputes.set j d').length r:=hr
   rw [Vb] at hr
   exact hr
  by_cases c:r=.bM j
  ·subst c
   rcases hask with q | q
   ·exact .inl ⟨.bM j,hl,by show (if Role.bM j=Role.bM j then ask else _)=_;rw [if_pos rfl];exact q⟩
   ·exact .inr (by show H (if Role.bM j=Role.bM j then ask else _)=none;rw [if_pos rfl];exact q)
  ·exact .inl ⟨r,hr,by show (if r=Role.bM j then ask else _)=_;rw [if_neg c]⟩
def cU (A:Ux) (d:UC):UC:=if UJ d=true then (if (Uz A d.x).out=true then { d with verdict:=some (.left d.x) } else if (Uz A d.y).out=true then { d with verdict:=some (.left d.y) } else d) else d
theorem kr (A:Ux):U6 A={ A with disputes:=A.disputes.map (cU A) }:=rfl
def mF (A:Ux) (i:Nat):Ux:={ A with disputes:=(A.disputes.take i).map (cU A)++A.disputes.drop i }
theorem aJ.same {a:bI} {bad:List Addr} {H H':Hp} {L:Lay} {A:Ux} (F:aJ a bad H L A) (s:az H H'):aJ a bad H' L A:=by
 have hrs:∀ x∈([]:List Role),Lv A x:=λx hx=>by cases hx
 have k:Keeps (([]:List Role).map L.ad) H H':=λb o e _=>s b o e
 exact ⟨F.inj,F.Rv hrs k (by simp),F.runK hrs k (by simp),F.M6,F.P4 hrs k,λi hi=>F.DZ hrs k hi (by simp),λi hi=>⟨F.Cw hrs k hi (by simp),(F.tell i hi).2⟩,λi hi=>F.IC hrs k hi (by simp),F.Q4 hrs k (by simp) (by simp),F.QN hrs k (by simp),
  λj d hj=>F.CP hrs k hj (by simp) (by simp),F.OR,F.N7,F.FL⟩
theorem Step.same {H H':Hp} {L:Lay} {A:Ux} (s:az H H'):Step H L A H' L A:={ Step.refl H L A with keep:=λb o e _=>s b o e }
theorem rJ {A:Ux} {i:Nat} {d:UC} (h:A.disputes[i]?=some d):(mF A i).disputes[i]?=some d:=by
 have hl:=(U5.mp h).1
 show ((A.disputes.take i).map (cU A)++A.disputes.drop i)[i]?=some d
 rw [Wm (by rw [UA,Va];omega),UA,Va,Ww (by omega),Wv,List.getElem?_drop,Nat.add_zero]
 exact h
theorem CB {A:Ux} {i:Nat} {d:UC} (h:A.disputes[i]?=some d):({ mF A i with disputes:=(mF A i).disputes.set i (cU A d) }:Ux)=mF A (i+1):=by
 have hl:=(U5.mp h).1
 have e:A.disputes.drop i=d::A.disputes.drop (i+1):=by
  rw [List.drop_eq_getElem_cons hl]
  congr 1
  exact (U5.mp h).2
 have e2:((A.disputes.take i).map (cU A)++A.disputes.drop i).set i (cU A d)=(A.disputes.take (i+1)).map (cU A)++A.disputes.drop (i+1):=by
  rw [e,List.set_append_right _ _ (by rw [UA,Va];omega),UA,Va,Ww (by omega),Wv,List.set_cons_zero,take_snoc h,U1,WJ]
  rfl
 show ({ A with disputes:=((A.disputes.take i).map (cU A)++A.disputes.drop i).set i (cU A d) }:Ux)={ A with disputes:=(A.disputes.take (i+1)).map (cU A)++A.disputes.drop (i+1) }
 rw [e2]
theorem Jc {α:Type} {l:List α} {i:Nat} {x:α} (h:l[i]?=some x):l.set i x=l:=by
 obtain ⟨h1,h2⟩:=U5.mp h
 rw [<- h2]
 exact List.set_getElem_self h1
theorem uc {A:Ux} {i:Nat} {d:UC} (h:A.disputes[i]?=some d) (e:cU A d=d):mF A (i+1)=mF A i:=by
 rw [<- CB h,e,Jc (rJ h)]
theorem CI (A:Ux):mF A 0=A:=by
 unfold mF
 simp
theorem J1 (A:Ux):mF A A.disputes.length=U6 A:=by
 rw [kr]
 unfold mF
 simp
theorem nS {n i:Nat} {f:Nat->V} {x:V} (h:((List.range n).map f)[i]?=some x):i < n/\x=f i:=by
 obtain ⟨j,hj,e⟩:=sR h
 obtain ⟨h1,h2⟩:=U5.mp hj
 rw [List.getElem_range] at h2
 rw [Vi] at h1
 exact ⟨h1,by rw [e,<- h2]⟩
section
variable {P:Program} {w:World} {K:Uy} {mg:Str->Option Value} {base:Heap} {a:bI}
def XY (A:Ux):Prop:=∀ d∈A.disputes,d.x < A.hosts.length/\d.y < A.hosts.length/\d.x≠d.y
def uH (K:Uy) (a:bI):Sp:=λvs H Q _=>∃ (bad:List Addr) (L:Lay) (A:Ux),vs=[.ref (L.ad .af)]/\aJ a bad H L A/\XY A /\
 ∀ (H':Hp) (L':Lay),Step H L A H' L' (U6 A)->aJ a bad H' L' (U6 A)->Q .dH H'
theorem va (T:Txt K mg a):a8 P w K mg base eS 2 a.cQ a.cR ["self"] (uH K a):=by
 refine T.iD.ok dQ ?_ ?_
 ·rintro _ _ _ _ ⟨_,_,_,rfl,_⟩
  rfl
 ·rintro cdv A outer s H _ Q E hr ⟨bad,L,A,rfl,F,hx,k⟩
  refine ⟨_,(ao (JU PassesOwn.never rfl (kU (K:=K) (ai (K:=K) (pv 0) rfl)) (fq (i:=1) dQ.nd rfl (Or.inl rfl)) (ah (A5 (i:=2) rfl dQ.nd rfl rfl (DJ rfl rfl rfl (by decide +kernel)) (HM (K:=K) (ai (K:=K) (pv 1) rfl)) (fc (own:=[("number",3)]) (by show w8 ["self","dispute","gone","number"] (aq eF) _ _=true;decide +kernel)) (λ_ _ _ _ _=>fq (i:=3) dQ.nd rfl (Or.inl rfl)) (λ_ _ _ _ _=>(Bi (bJ (aK (pv 0) T.au T.gf (lG T) hr.lo T.gg .nil aG (aa (pv 3) aj))))) (λ_ _ _ _ _=>(pv 3)))
   (ao (bj (PW.pt (ya (ze (K:=K) (pv 2) (λ_=>rfl)) (zf (bJ (b7 (pv 1) T.aA T.eI (i4 T) hr.lo T.eE .nil aG))))) (ao (aS (K:=K) (pv 1) (wk (aa (aO (by rfl) T.RH) (aa (aM (aB (K:=K)) (pv 2) ax (λ_ _=>rfl)) aj))) rfl)) aQ))))),?_⟩
  obtain ⟨dx,h1⟩:=F.af
  refine ⟨_,rfl,L.ad .af,a.aw,dx,_,_,rfl,h1,T.au,T.bS,rfl,L.ad .dl,rfl,⟨_,bf.of F.dl⟩,Ea (K:=K) (xs:=(List.range A.disputes.length).map λj=>V.ref (L.ad (.aH j))) (λi σ H'=>∃ (v g n:Option V) (L':Lay),σ=[some (.ref (L.ad .af)),v,g,n]/\Step H L A H' L' (mF A i)/\aJ a bad H' L' (mF A i)) ?_ ?_ ?_ ?_⟩
  ·exact ⟨none,none,none,L,rfl,by rw [CI];exact Step.refl _ _ _,by rw [CI];exact F⟩
  ·rintro i σ H' hi ⟨v,g,n,L',rfl,S,F'⟩
   have e:=F'.dl
   have e2:(mF A i).disputes.length=A.disputes.length:=by
    unfold mF
    simp
    rw [UA,Vi] at hi
    omega
   rw [S.dl,e2,VR (λj hj=>by rw [S.aH j (U8.mp hj)])] at e
   exact bf.of e
  ·rintro i x σ H1 hx1 ⟨v,g,n,L',rfl,S,F'⟩
   obtain ⟨hi,rfl⟩:=nS hx1
   obtain ⟨d,hd⟩:∃ d,A.disputes[i]?=some d:=⟨_,Vo hi⟩
   obtain ⟨xl,yl,xy⟩:=hx d (Vf hd)
   have D0:=F'.aH i d (rJ hd)
   rw [S.aH i hi] at D0
   obtain ⟨dd,g1⟩:=D0.ins
   obtain ⟨da,g2⟩:=F'.af
   refine ⟨_,rfl,L.ad (.aH i),a.ay,dd,_,_,rfl,g1,T.aA,T.aY,rfl,L'.dt i,rfl,⟨_,D0.hosts.sq⟩,λD hD=>Ky (K:=K) (xs:=mf [d.x,d.y]) (λj H2=>H2 D=some (.lst (mf (([d.x,d.y].take j).filter λz=>(Uz A z).out)))/\az H1 H2) ⟨ae,az.laid hD⟩ (λj H2 _ q=>(D0.hosts.imp (q.2 _)).sq) ?_ ?_⟩
   ·rintro j x H2 hj ⟨q1,q2⟩
    obtain ⟨z,hz,rfl⟩:=sR hj
    have zl:z < A.hosts.length:=by
     have:=Vf hz
     simp at this
     rcases this with rfl | rfl
     ·exact xl
     ·exact yl
    refine ⟨rfl,_,rfl,L.ad .af,da,_,rfl,by rw [<- S.af];exact q2 _ _ g2,rfl,_,rfl,bad,L',mF A i,z,by rw [S.af];rfl,F'.same q2,zl,_,rfl,?_⟩
    show if (Uz A z).out=true then _ else _
    cases ho:(Uz A z).out with
    | true =>
     refine bc ⟨_,rfl,_,q1,?_,?_,cS q2 hD⟩
     ·rw [iq,sizeLine_eq]
      have:=VA (λz=>(Uz A z).out) ([d.x,d.y].take j)
      have:([d.x,d.y].take j).length<=2:=by rw [Va];exact Nat.min_le_right _ _
      omega
     ·rw [ae,take_snoc hz,VX,UW,ho,if_pos rfl]
      unfold mf
      rw [U1]
      rfl
    | false =>
     refine bu ⟨?_,q2⟩
     rw [take_snoc hz,VX,UW,ho,if_neg (by decide),V4,Wa]
     exact q1
   ·rintro H2 ⟨q1,q2⟩
    have q1:H2 D=some (.lst (mf ([d.x,d.y].filter λz=>(Uz A z).out))):=q1
    have F2:=F'.same q2
    refine ⟨_,rfl,_,.inl ⟨_,bf.of q1,rfl⟩,?_⟩
    have key:(([d.x,d.y].filter λz=>(Uz A z).out)=[]/\cU A d=d)∨∃ z rest,([d.x,d.y].filter λz=>(Uz A z).out)=z::rest/\(UJ d=true->cU A d={ d with verdict:=some (.left z) })/\(UJ d=false->cU A d=d):=by
     unfold cU
     cases hX:(Uz A d.x).out with
     | true=>exact .inr ⟨d.x,_,by rw [UW,hX,if_pos rfl],λo=>by rw [if_pos o,if_pos rfl],λo=>by rw [o];rfl⟩
     | false =>
      cases hY:(Uz A d.y).out with
      | true=>exact .inr ⟨d.y,[],by rw [UW,hX,if_neg (by decide),UW,hY,if_pos rfl];rfl,λo=>by rw [if_pos o,if_neg (by decide),if_pos rfl],λo=>by rw [o];rfl⟩
      | false=>exact .inl ⟨by rw [UW,hX,if_neg (by decide),UW,hY,if_neg (by decide)];rfl,by split<;>rfl⟩
    rcases key with ⟨e,eD⟩ | ⟨z,rest,e,e1,e2⟩
    ·rw [e]
     refine bu (bu ⟨_,_,_,L',rfl,?_,?_⟩)
     ·rw [uc hd eD];exact S.trans (Step.same q2)
     ·rw [uc hd eD];exact F2
    ·rw [e] at q1 ⊢
     have D2:=F2.aH i d (rJ hd)
     rw [S.aH i hi] at D2
     refine bc ⟨_,rfl,L.ad (.aH i),dd,_,rfl,q2 _ _ g1,rfl,L.ad (.aH i),L'.ad (.bM i),L'.dt i,L'.da i,L'.de i,d,rfl,D2,λH3 s3=>⟨_,rfl,?_⟩⟩
     cases ho:UJ d with
     | false =>
      refine bu ⟨_,_,_,L',rfl,?_,?_⟩
      ·rw [uc hd (e2 ho)];exact S.trans (Step.same (q2.trans s3))
      ·rw [uc hd (e2 ho)];exact F2.same s3
     | true =>
      refine bc ⟨_,rfl,D,_,0,_,rfl,rfl,bf.of (s3 _ _ q1),at_of (j:=0) rfl rfl,Ob,λen hen=>?_⟩
      have g3:=s3 _ _ (q2 _ _ g1)
      have np:en≠L.ad (.aH i):=λz=>by rw [z,g3] at hen;cases hen
      refine ⟨_,rfl,L.ad (.aH i),a.ay,dd,_,rfl,by rw [ak np.symm];exact g3,T.aA,T.dC,by show 9 < 1000;decide,?_⟩
      have F3:=F2.same s3
      have D3:=F3.aH i d (rJ hd)
      rw [S.aH i hi] at D3
      have kk:∀ (o1 o2:HO) (b:Addr) (o:HO),H3 b=some o->b≠L.ad (.aH i)->upd (upd H3 en o1) (L.ad (.aH i)) o2 b=some o:=λo1 o2 b o e n=>by
       rw [ak n,ak (aF e hen)]
       exact e
      have n1:L'.dt i≠L.ad (.aH i):=D3.hosts.ne g3
      have n2:L'.da i≠L.ad (.aH i):=aV D3.FF g3 (by intro z;cases z)
      have n3:L'.ad (.bM i)≠L.ad (.aH i):=aV D3.ask g3 (by intro z;cases z)
      have DN:fZ a (upd (upd H3 en (.tup [.int 4,.int (z:Int)])) (L.ad (.aH i)) (.ins a.ay dd (a6 (Str.ofString "ended") (.ref en) (vA (L'.dt i) d.lo (L'.da i) d.hi d.asked (L'.ad (.bM i)) d.questions d.lost (L'.de i))))) (L.ad (.aH i)) (L'.ad (.bM i)) (L'.dt i) (L'.da i) en { d with verdict:=some (.left z) } :=
       ⟨⟨dd,ae⟩,D3.hosts.imp (λo q=>kk _ _ _ _ q n1),kk _ _ _ _ D3.FF n2,kk _ _ _ _ D3.ask n3,by rw [ak np,ae];rfl⟩
      rw [<- S.aH i hi] at DN
      have KK:Keeps [L'.ad (.aH i),L'.ad (.bM i)] H3 (upd (upd H3 en (.tup [.int 4,.int (z:Int)])) (L'.ad (.aH i)) (.ins a.ay dd (a6 (Str.ofString "ended") (.ref en) (vA (L'.dt i) d.lo (L'.da i) d.hi d.asked (L'.ad (.bM i)) d.questions d.lost (L'.de i))))):=λb o e n=>by
       rw [S.aH i hi] at n ⊢
       exact kk _ _ _ _ e λz=>n (by rw [z];exact UZ ..)
      have F5:=F3.rm (rJ hd) KK (.inl rfl) DN
      have S5:=(S.trans (Step.same (q2.trans s3))).trans (Step.rm (dt:=L'.dt i) (da:=L'.da i) (de:=en) (d':={ d with verdict:=some (.left z) }) (rJ hd) KK (.inl rfl))
      have eA:=CB hd
      rw [e1 ho] at eA
      rw [eA] at F5 S5
      rw [S.aH i hi] at F5 S5
      exact ⟨_,_,_,_,rfl,S5,F5⟩
  ·rintro σ H1 ⟨v,g,n,L',rfl,S,F'⟩
   rw [UA,Vi,J1] at S F'
   exact k H1 L' S F'
end
theorem j7 {A:Ux} {i j:Nat} {h:Vbapaj.Host} (hi:i < A.hosts.length):Uz (Vp A i h) j=if j=i then h else Uz A j:=by
 unfold Uz Vp
 rw [VE,VE]
 by_cases e:j=i
 ·subst e
  rw [if_pos rfl,VN hi]
  rfl
 ·rw [if_neg e,Wk (λz=>e z.symm)]
theorem sE (A:Ux) (i:Nat) (to:Option Nat):(Vc A i to).hosts.length=A.hosts.length:=by
 unfold Vc
 simp only []
 split
 ·rfl
 ·cases to with
  | none=>exact Vb ..
  | some o=>exact (Vb ..).trans (Vb ..)
theorem kC (A:Ux) (i:Nat) (to:Option Nat):Vc A i to={ A with hosts:=(Vc A i to).hosts,purse:=(Vc A i to).purse,found:=A.found }:=by
 unfold Vc
 simp only []
 split
 ·rfl
 ·cases to<;>rfl
theorem uk {A:Ux} {i j:Nat} {to:Option Nat} (hi:i < A.hosts.length) (ho:(Uz A i).out=false) (hto:∀ o,to=some o->o < A.hosts.length/\o≠i) :
  Uz (Vc A i to) j=if j=i then { Uz A i with out:=true,stake:=0 } else if to=some j then { Uz A j with stake:=(Uz A j).stake+(Uz A i).stake / 2 } else Uz A j:=by
 unfold Vc
 simp only []
 rw [if_neg (by rw [ho];decide)]
 cases to with
 | none =>
  show Uz (Vp A i _) j=_
  rw [j7 hi]
  simp
 | some o =>
  obtain ⟨h1,h2⟩:=hto o rfl
  have hl:o < (Vp A i { Uz A i with out:=true,stake:=0 }).hosts.length:=by
   show o < (A.hosts.set i _).length
   rw [Vb]
   exact h1
  show Uz (Vp (Vp A i _) o _) j=_
  rw [j7 hl,j7 hi,j7 hi]
  by_cases e:j=o
  ·subst e
   rw [if_pos rfl,if_neg h2,if_neg h2,if_pos rfl]
  ·rw [if_neg e]
   by_cases e2:j=i
   ·rw [if_pos e2,if_pos e2]
   ·rw [if_neg e2,if_neg e2,if_neg (by intro z;injection z with z;exact e z.symm)]
theorem A0 {A:Ux} {i:Nat} {to:Option Nat} (ho:(Uz A i).out=false):(Vc A i to).purse=A.purse+(match to with | none=>(Uz A i).stake | some _=>(Uz A i).stake - (Uz A i).stake / 2):=by
 unfold Vc
 simp only []
 rw [if_neg (by rw [ho];decide)]
 cases to<;>rfl
def outs (A:Ux) (ns:List Nat) (to:Option Nat):Ux:=ns.foldl (λA h=>Vc A h to) A
theorem LS (A:Ux) (ns:List Nat) (to:Option Nat) (x:Nat):outs A (ns++[x]) to=Vc (outs A ns to) x to:=by
 unfold outs
 rw [List.foldl_append]
 rfl
theorem Me (A:Ux) (to:Option Nat):∀ ns:List Nat,(outs A ns to).disputes=A.disputes/\(outs A ns to).hosts.length=A.hosts.length:=by
 intro ns
 unfold outs
 induction ns generalizing A with
 | nil=>exact ⟨rfl,rfl⟩
 | cons x r ih =>
  obtain ⟨h1,h2⟩:=ih (Vc A x to)
  refine ⟨?_,?_⟩
  ·rw [List.foldl_cons,h1,kC]
  ·rw [List.foldl_cons,h2,sE]
section
variable {P:Program} {w:World} {K:Uy} {mg:Str->Option Value} {base:Heap} {a:bI}
def T6 (v:V) (o:Option Nat):Prop:=match o with
 | none=>v=.dH
 | some n=>v=.int (n:Int)
def Bf (K:Uy) (a:bI):Sp:=λvs H Q _=>∃ (bad:List Addr) (L:Lay) (A:Ux) (p:Addr) (ns:List Nat) (v:V) (to:Option Nat),vs=[.ref (L.ad .af),.ref p,v]/\aJ a bad H L A/\XY A/\H p=some (.lst (mf ns))/\(¬ ∃ r,Lv A r/\p=L.ad r)/\T6 v to/\ns.Nodup /\
 (∀ n∈ns,n < A.hosts.length/\(Uz A n).out=false)/\(∀ o,to=some o->o < A.hosts.length/\∀ n∈ns,o≠n) /\
 ∀ (H':Hp) (L':Lay),Step H L A H' L' (U6 (outs A ns to))->aJ a bad H' L' (U6 (outs A ns to))->Q .dH H'
theorem Step.N1 {H H':Hp} {L:Lay} {A A':Ux} (k:Keeps ((Role.af::(List.range A.hosts.length).map Role.host).map L.ad) H H') (e1:A'.hosts.length=A.hosts.length) (e2:A'.disputes.length=A.disputes.length):Step H L A H' L A':=by
 refine ⟨λb o e n=>k b o e λm=>?_,λr hr=>.inl ⟨r,by show FD _ _ r;rw [<- e1,<- e2];exact hr,rfl⟩,rfl,e1,by omega,λ_ _=>rfl,λ_=>rfl,rfl,rfl,rfl,rfl⟩
 obtain ⟨r,hr,e⟩:=UR.mp m
 rcases UL.mp hr with rfl | hr
 ·exact n .af trivial e.symm
 ·obtain ⟨i,hi,rfl⟩:=UR.mp hr
  exact n (.host i) (U8.mp hi) e.symm
theorem II (L:Lay) (B:Ux) (n:Nat) (to:Option Nat):Fp L (Vc B n to)=a6 (Str.ofString "purse") (.int ((Vc B n to).purse:Int)) (Fp L B):=by
 rw [kC]
 rfl
theorem LL {bad:List Addr} {H H1 H5:Hp} {L:Lay} {A B:Ux} {ns:List Nat} {to:Option Nat} {i n:Nat} (S:Step H L A H1 L B) (F1:aJ a bad H1 L B) (hB:outs A (ns.take i) to=B) (hn:ns[i]?=some n) (hnd:ns.Nodup) (hnB:n < B.hosts.length)
  (hout:∀ n∈ns.drop i,(Uz B n).out=false) (hno:(Uz B n).out=false) (hto:∀ o,to=some o->o < B.hosts.length/\o≠n)
  (k:Keeps ((Role.af::(List.range B.hosts.length).map Role.host).map L.ad) H1 H5) (haf:∃ dx,H5 (L.ad .af)=some (.ins a.aw dx (a6 (Str.ofString "purse") (.int ((Vc B n to).purse:Int)) (Fp L B))))
  (hh:∀ j,j < B.hosts.length->rM a H5 (L.ad (.host j)) (L.ad (.tell j)) (L.ad (.pS j)) (Uz (Vc B n to) j).stake (Uz (Vc B n to) j).out) :
  Step H L A H5 L (outs A (ns.take (i+1)) to)/\aJ a bad H5 L (outs A (ns.take (i+1)) to)/\∀ m∈ns.drop (i+1),(Uz (outs A (ns.take (i+1)) to) m).out=false:=by
 rw [take_snoc hn,LS,hB]
 have hl:=sE B n to
 refine ⟨S.trans (Step.N1 k hl (by rw [kC])),?_,λm hm=>?_⟩
 ·rw [<- II] at haf
  have f:=kC B n to
  rw [f] at haf hh ⊢
  refine F1.N1 hl (λj hj=>?_) k haf hh
  rw [<- f,uk hnB hno hto]
  split
  ·rename_i e;rw [e]
  ·split<;>rfl
 ·have hl:=(U5.mp hn).1
  have e:ns.drop i=n::ns.drop (i+1):=by
   rw [List.drop_eq_getElem_cons hl]
   congr 1
   exact (U5.mp hn).2
  have hd:(ns.drop i).Nodup:=List.Nodup.sublist (List.drop_sublist _ _) hnd
  rw [e] at hd
  have nm:m≠n:=λz=>(VO.mp hd).1 (by rw [<- z];exact hm)
  have ho:=hout m (by rw [e];exact U2 _ hm)
  rw [uk hnB hno hto,if_neg nm]
  split<;>exact ho
theorem gh (T:Txt K mg a):a8 P w K mg base eS 3 a.iI a.iP ["self","numbers","winner"] (Bf K a):=by
 refine T.o5.ok j4 ?_ ?_
 ·rintro _ _ _ _ ⟨_,_,_,_,_,_,_,rfl,_⟩
  rfl
 ·rintro cdv A outer s H _ Q E hr ⟨bad,L,A,p,ns,v,to,rfl,F,hx,hp,hpn,hv,hnd,hns,hto,k⟩
  refine ⟨_,(ah (JU PassesOwn.never rfl (kU (K:=K) (pv 1)) (fq (i:=3) j4.nd rfl (Or.inl rfl)) (ah (aP (i:=4) j4.nd rfl (Or.inl rfl) (aM (aB (K:=K)) (ai (K:=K) (pv 0) rfl) (pv 3) (λ_ _=>rfl)))
   (ah (bj (a9 LG (pv 2) ib (bo _)) (ah (aP (i:=5) j4.nd rfl (Or.inl rfl) (aM (aB (K:=K)) (ai (K:=K) (pv 0) rfl) (pv 2) (λ_ _=>rfl)))
   (ah (gV (K:=K) (pv 5) (b8 AH (ai (K:=K) (pv 4) rfl) ax) uQ)
   (ao (gV (K:=K) (pv 4) (b8 AH (ai (K:=K) (pv 4) rfl) ax) QJ)))) aQ)
   (ah (gV (K:=K) (pv 0) (ai (K:=K) (pv 4) rfl) uQ)
   (ah (aS (K:=K) (pv 4) ax rfl)
   (ao (aS (K:=K) (pv 4) Fo rfl)))))))
   (ao (bU (b7 (pv 0) T.au T.iX (va T) hr.lo T.iT .nil aG)))),?_⟩
  refine ⟨_,rfl,p,rfl,⟨_,bf.of hp⟩,Ea (K:=K) (xs:=mf ns) (λi σ H'=>∃ (x y z:Option V),σ=[some (.ref (L.ad .af)),some (.ref p),some v,x,y,z]/\Step H L A H' L (outs A (ns.take i) to)/\aJ a bad H' L (outs A (ns.take i) to)/\∀ n∈ns.drop i,(Uz (outs A (ns.take i) to) n).out=false) ?_ ?_ ?_ ?_⟩
  ·exact ⟨none,none,none,rfl,Step.refl _ _ _,F,λn hn=>(hns n hn).2⟩
  ·rintro i σ H1 _ ⟨x,y,z,rfl,S,F1,_⟩
   exact bf.of (S.keep _ _ hp λr hr e=>hpn ⟨r,hr,e⟩)
  ·rintro i x σ H1 hx1 ⟨x0,y0,z0,rfl,S,F1,hout⟩
   obtain ⟨n,hn,rfl⟩:=sR hx1
   generalize hB:outs A (ns.take i) to=B at S F1 hout
   have hnB:n < B.hosts.length:=by rw [S.hl];exact (hns n (Vf hn)).1
   have hno:(Uz B n).out=false:=hout n (by rw [List.mem_iff_getElem?];exact ⟨0,by rw [List.getElem?_drop,Nat.add_zero];exact hn⟩)
   obtain ⟨da,g1⟩:=F1.af
   obtain ⟨dh,g2⟩:=F1.host n hnB
   refine ⟨_,rfl,L.ad .af,a.aw,da,_,_,rfl,g1,T.au,T.bw,rfl,_,rfl,L.hl,_,_,_,rfl,rfl,bf.of F1.hl,at_of (j:=n) rfl (kP hnB),?_⟩
   refine ⟨_,rfl,rfl,_,rfl,?_⟩
   cases to with
   | none =>
    cases hv
    refine bu ?_
    have nah:L.ad .af≠L.ad (.host n):=kL g1 g2 (by decide)
    refine ⟨_,rfl,L.ad .af,a.aw,da,_,_,rfl,g1,T.au,T.oR,rfl,_,rfl,L.ad (.host n),a.bB,dh,_,_,rfl,g2,T.bP,T.dW,rfl,_,_,rfl,rfl,da,_,g1,by show 8 < 1000;decide,?_⟩
    refine ⟨_,rfl,L.ad (.host n),a.bB,dh,_,rfl,by rw [ak nah.symm];exact g2,T.bP,T.dW,by show 4 < 1000;decide,?_⟩
    refine ⟨_,rfl,L.ad (.host n),a.bB,dh,_,rfl,ae,T.bP,T.mH,by show 4 < 1000;decide,?_⟩
    rw [b9]
    refine ⟨_,_,_,rfl,LL S F1 hB hn hnd hnB hout hno (λo z=>by cases z) (λb o e m=>?_) ⟨da,?_⟩ λj hj=>?_⟩
    ·rw [ak (λz=>m (UR.mpr ⟨.host n,U2 _ (UR.mpr ⟨n,U8.mpr hnB,rfl⟩),z.symm⟩)),ak (λz=>m (UR.mpr ⟨.af,UZ ..,z.symm⟩))]
     exact e
    ·rw [ak nah,ae,A0 hno]
     rfl
    ·rw [uk hnB hno (λo z=>by cases z)]
     by_cases e:j=n
     ·subst e
      rw [if_pos rfl]
      exact ⟨dh,ae⟩
     ·rw [if_neg e,if_neg (by intro z;cases z)]
      obtain ⟨dj,gj⟩:=F1.host j hj
      have n1:L.ad (.host j)≠L.ad (.host n):=λz=>e (by have:=F1.inj (.host j) (.host n) hj hnB z;injection this)
      have n2:L.ad (.host j)≠L.ad .af:=kL gj g1 (by decide)
      exact ⟨dj,by rw [ak n1,ak n2];exact gj⟩
   | some o =>
    cases hv
    refine bc ?_
    obtain ⟨ol,on⟩:=hto o rfl
    have ol:o < B.hosts.length:=by rw [S.hl];exact ol
    have on:o≠n:=on n (Vf hn)
    obtain ⟨dg,g3⟩:=F1.host o ol
    have nah:L.ad .af≠L.ad (.host n):=kL g1 g2 (by decide)
    have nao:L.ad .af≠L.ad (.host o):=kL g1 g3 (by decide)
    have nho:L.ad (.host n)≠L.ad (.host o):=λz=>on (by have:=F1.inj (.host n) (.host o) hnB ol z;injection this with this;exact this.symm)
    refine ⟨_,rfl,L.ad .af,a.aw,da,_,_,rfl,g1,T.au,T.bw,rfl,_,rfl,L.hl,_,_,_,rfl,rfl,bf.of F1.hl,at_of (j:=o) rfl (kP ol),?_⟩
    refine ⟨_,rfl,L.ad (.host o),a.bB,dg,_,_,rfl,g3,T.bP,T.dW,rfl,_,rfl,L.ad (.host n),a.bB,dh,_,_,rfl,g2,T.bP,T.dW,rfl,_,_,rfl,rfl,⟨by decide,by decide⟩,_,_,rfl,rfl,dg,_,g3,by show 4 < 1000;decide,?_⟩
    refine ⟨_,rfl,L.ad (.host n),a.bB,dh,_,_,rfl,by rw [ak nho];exact g2,T.bP,T.dW,rfl,_,rfl,L.ad (.host n),a.bB,dh,_,_,rfl,by rw [ak nho];exact g2,T.bP,T.dW,rfl,_,_,rfl,rfl,⟨by decide,by decide⟩,_,_,rfl,rfl,dh,_,by rw [ak nho];exact g2,by show 4 < 1000;decide,?_⟩
    refine ⟨_,rfl,L.ad .af,a.aw,da,_,_,rfl,by rw [ak nah,ak nao];exact g1,T.au,T.oR,rfl,_,rfl,L.ad (.host n),a.bB,dh,_,_,rfl,ae,T.bP,T.dW,rfl,_,_,rfl,rfl,da,_,by rw [ak nah,ak nao];exact g1,by show 8 < 1000;decide,?_⟩
    refine ⟨_,rfl,L.ad (.host n),a.bB,dh,_,rfl,by rw [ak nah.symm];exact ae,T.bP,T.dW,by show 4 < 1000;decide,?_⟩
    refine ⟨_,rfl,L.ad (.host n),a.bB,dh,_,rfl,ae,T.bP,T.mH,by show 4 < 1000;decide,?_⟩
    rw [b9]
    have mn:L.ad (.host n)∈(Role.af::(List.range B.hosts.length).map Role.host).map L.ad:=UR.mpr ⟨.host n,U2 _ (UR.mpr ⟨n,U8.mpr hnB,rfl⟩),rfl⟩
    have mo:L.ad (.host o)∈(Role.af::(List.range B.hosts.length).map Role.host).map L.ad:=UR.mpr ⟨.host o,U2 _ (UR.mpr ⟨o,U8.mpr ol,rfl⟩),rfl⟩
    have ma:L.ad .af∈(Role.af::(List.range B.hosts.length).map Role.host).map L.ad:=UR.mpr ⟨.af,UZ ..,rfl⟩
    refine ⟨_,_,_,rfl,LL S F1 hB hn hnd hnB hout hno (λo' z=>by cases z;exact ⟨ol,on⟩) (λb u e m=>?_) ⟨da,?_⟩ λj hj=>?_⟩
    ·rw [ak (λz=>m (by rw [z];exact mn)),ak (λz=>m (by rw [z];exact ma)),ak (λz=>m (by rw [z];exact mn)),ak (λz=>m (by rw [z];exact mo))]
     exact e
    ·rw [ak nah,ae,A0 hno]
     congr 3
     show V.int _=V.int _
     congr 1
     have:=Nat.div_le_self (Uz B n).stake 2
     push_cast
     omega
    ·rw [uk hnB hno (λo' z=>by cases z;exact ⟨ol,on⟩)]
     by_cases e:j=n
     ·subst e
      rw [if_pos rfl]
      exact ⟨dh,ae⟩
     ·rw [if_neg e]
      have n1:L.ad (.host j)≠L.ad (.host n):=λz=>e (by have:=F1.inj (.host j) (.host n) hj hnB z;injection this)
      by_cases e2:j=o
      ·subst e2
       rw [if_pos rfl]
       exact ⟨dg,by rw [ak n1,ak nao.symm,ak n1,ae];rfl⟩
      ·rw [if_neg (by intro z;injection z with z;exact e2 z.symm)]
       obtain ⟨dj,gj⟩:=F1.host j hj
       have n3:L.ad (.host j)≠L.ad (.host o):=λz=>e2 (by have:=F1.inj (.host j) (.host o) hj ol z;injection this)
       have n2:L.ad (.host j)≠L.ad .af:=kL gj g1 (by decide)
       exact ⟨dj,by rw [ak n1,ak n2,ak n1,ak n3];exact gj⟩
  ·rintro σ H1 ⟨x,y,z,rfl,S,F1,_⟩
   rw [iq,VB] at S F1
   obtain ⟨da,g1⟩:=F1.af
   obtain ⟨e1,e2⟩:=Me A to ns
   refine ⟨_,rfl,L.ad .af,da,_,rfl,g1,rfl,bad,L,outs A ns to,rfl,F1,λd hd=>?_,λH2 L2 S2 F2=>k H2 L2 (S.trans S2) F2⟩
   rw [e2]
   rw [e1] at hd
   exact hx d hd
end
def aN (A:Ux) (j:Nat):UC:=A.disputes.getD j { no:=0,x:=0,y:=0,lo:=0,agreed:=⟨0,[]⟩,hi:=0,asked:=0,saidX:=0,saidY:=0,lost:=0,questions:=0,verdict:=none }
theorem ba {A:Ux} {j:Nat} (h:j < A.disputes.length):A.disputes[j]?=some (aN A j):=by
 unfold aN
 rw [VE,Vo h]
 rfl
theorem yO {A:Ux} {j:Nat} {d:UC} (h:A.disputes[j]?=some d):aN A j=d:=by
 unfold aN
 rw [VE,h]
 rfl
def j1 (A:Ux) (n:Nat):List Nat:=(List.range A.disputes.length).filter λj=>UJ (aN A j)&&Vd (aN A j) n
theorem Hr (n x y:Nat):Lw (.int (n:Int)) [.int (x:Int),.int (y:Int)]=(x == n || y == n):=by
 have h:∀ u:Nat,((u:Int) == (n:Int))=(u == n):=λu=>by
  by_cases e:u=n
  ·rw [e];simp
  ·rw [beq_eq_false_iff_ne.mpr e,beq_eq_false_iff_ne.mpr (by omega)]
 unfold Lw
 simp only [Vv,List.any_nil,N2,Bool.or_false,h]
theorem sW {n i:Nat} (h:i < n):(List.range n)[i]?=some i:=Wt h
section
variable {P:Program} {w:World} {K:Uy} {mg:Str->Option Value} {base:Heap} {a:bI}
def qZ (L:Lay) (js:List Nat):List V:=js.map λj=>V.ref (L.ad (.aH j))
def nH (A:Ux):List Nat:=(List.range A.disputes.length).filter λj=>UJ (aN A j)
theorem Ox (A:Ux) (n:Nat):j1 A n=(nH A).filter λj=>Vd (aN A j) n:=by
 unfold j1 nH
 rw [List.filter_filter]
 exact List.filter_congr λj _=>Bool.and_comm _ _
theorem Ju (A:Ux):(nH A).length<=A.disputes.length:=by
 have:=VA (λj=>UJ (aN A j)) (List.range A.disputes.length)
 rw [Vi] at this
 exact this
def vF (K:Uy) (a:bI):Sp:=λvs H Q _=>∃ (bad:List Addr) (L:Lay) (A:Ux),vs=[.ref (L.ad .af)]/\aJ a bad H L A/\A.disputes.length<=1000 /\
 ∀ (H':Hp) (c:Addr),az H H'->H c=none->H' c=some (.lst (qZ L (nH A)))->Q (.ref c) H'
theorem m6 (T:Txt K mg a):a8 P w K mg base eS 2 a.dw a.df ["self"] (vF K a):=by
 refine T.jf.ok iV ?_ ?_
 ·rintro _ _ _ _ ⟨_,_,_,rfl,_⟩
  rfl
 ·rintro cdv A outer s H _ Q E hr ⟨bad,L,A,rfl,F,hm,k⟩
  refine ⟨_,(ao (aE (wX rfl iV.nd (kU (K:=K) (ai (K:=K) (pv 0) rfl)) (fc (own:=[("dispute",1)]) (by show w8 ["self","dispute"] (aq fi) _ _=true;decide +kernel)) (λ_ _ _ _ _=>fq (i:=1) iV.nd rfl (Or.inl rfl)) (λ_ _ _ _ _=>(Bi (bJ (b7 (pv 1) T.aA T.eI (i4 T) hr.lo T.eE .nil aG)))) (λ_ _ _ _ _=>(pv 1))))),?_⟩
  have hz:=sizeLine_eq
  obtain ⟨da,g1⟩:=F.af
  refine ⟨_,rfl,L.ad .af,a.aw,da,_,_,rfl,g1,T.au,T.bS,rfl,L.ad .dl,rfl,⟨_,bf.of F.dl⟩,λD hD=>tO (K:=K) (xs:=(List.range A.disputes.length).map λj=>V.ref (L.ad (.aH j))) (λi H2=>H2 D=some (.lst (qZ L (((List.range A.disputes.length).take i).filter λj=>UJ (aN A j))))/\az H H2) ⟨ae,az.laid hD⟩ (λi H2 _ q=>bf.of (q.2 _ _ F.dl)) ?_ ?_⟩
  ·rintro i x H2 hx ⟨q1,q2⟩
   obtain ⟨hi,rfl⟩:=nS hx
   have F2:=F.same q2
   have D2:=F2.aH i _ (ba hi)
   obtain ⟨dd,g2⟩:=D2.ins
   refine ⟨rfl,_,rfl,L.ad (.aH i),dd,_,rfl,g2,rfl,L.ad (.aH i),_,_,_,_,aN A i,rfl,D2,λH3 s3=>⟨_,rfl,?_⟩⟩
   have lenOk:(qZ L (((List.range A.disputes.length).take i).filter λj=>UJ (aN A j))).length < sizeLine:=by
    unfold qZ
    rw [UA]
    have:=VA (λj=>UJ (aN A j)) ((List.range A.disputes.length).take i)
    rw [Va,Vi] at this
    omega
   cases ho:UJ (aN A i) with
   | false =>
    refine bu ⟨?_,q2.trans s3⟩
    rw [take_snoc (sW hi),VX,UW,ho,if_neg (by decide),V4,Wa]
    exact s3 _ _ q1
   | true =>
    refine bc ⟨_,rfl,_,s3 _ _ q1,lenOk,?_,cS (q2.trans s3) hD⟩
    rw [ae,take_snoc (sW hi),VX,UW,ho]
    unfold qZ
    rw [U1]
    rfl
  ·rintro H2 ⟨q1,q2⟩
   rw [UA,VB] at q1
   exact k H2 D q2 hD q1
def tq (K:Uy) (a:bI):Sp:=λvs H Q _=>∃ (bad:List Addr) (L:Lay) (A:Ux) (n:Nat),vs=[.ref (L.ad .af),.int (n:Int)]/\aJ a bad H L A/\A.disputes.length<=1000 /\
 ∀ (H':Hp) (c:Addr),az H H'->H c=none->H' c=some (.lst (qZ L (j1 A n)))->Q (.ref c) H'
theorem fU (T:Txt K mg a):a8 P w K mg base eS 3 a.b6 a.b5 ["self","number"] (tq K a):=by
 refine T.fY.ok fK ?_ ?_
 ·rintro _ _ _ _ ⟨_,_,_,_,rfl,_⟩
  rfl
 ·rintro cdv A outer s H _ Q E hr ⟨bad,L,A,n,rfl,F,hm,k⟩
  refine ⟨_,(ao (aE (wX rfl fK.nd (kU (K:=K) (b7 (pv 0) T.au T.fg (m6 T) hr.lo T.fh .nil aG)) (fc (own:=[("dispute",2)]) (by show w8 ["self","number","dispute"] (aq dE) _ _=true;decide +kernel)) (λ_ _ _ _ _=>fq (i:=2) fK.nd rfl (Or.inl rfl)) (λ_ _ _ _ _=>(Bi (a9 (Np (K:=K)) (pv 1) (ai (K:=K) (pv 2) rfl) rfl))) (λ_ _ _ _ _=>(pv 2))))),?_⟩
  have hz:=sizeLine_eq
  obtain ⟨da,g1⟩:=F.af
  refine ⟨_,rfl,L.ad .af,da,_,rfl,g1,rfl,bad,L,A,rfl,F,hm,λH1 c s1 hc h1=>?_⟩
  have F1:=F.same s1
  have ml:=Ju A
  refine ⟨c,rfl,⟨_,bf.of h1⟩,λD hD=>tO (K:=K) (xs:=qZ L (nH A)) (λi H2=>H2 D=some (.lst (qZ L (((nH A).take i).filter λj=>Vd (aN A j) n)))/\az H1 H2) ⟨ae,az.laid hD⟩ (λi H2 _ q=>bf.of (q.2 _ _ h1)) ?_ ?_⟩
  ·rintro i v H2 hv ⟨q1,q2⟩
   obtain ⟨j,hj,rfl⟩:=sR hv
   have jl:j < A.disputes.length:=U8.mp (VM.mp (Vf hj)).1
   have D2:=(F1.same q2).aH j _ (ba jl)
   obtain ⟨dd,g2⟩:=D2.ins
   refine ⟨rfl,_,rfl,_,rfl,L.ad (.aH j),a.ay,dd,_,_,rfl,g2,T.aA,T.aY,rfl,_,_,rfl,.inr D2.hosts.sq,rfl,rfl,_,rfl,?_⟩
   show if Lw (.int (n:Int)) [.int ((aN A j).x:Int),.int ((aN A j).y:Int)]=true then _ else _
   rw [Hr]
   cases hp:Vd (aN A j) n with
   | false =>
    have hp':((aN A j).x == n || (aN A j).y == n)=false:=hp
    rw [hp']
    refine bu ⟨?_,q2⟩
    rw [take_snoc hj,VX,UW,hp,if_neg (by decide),V4,Wa]
    exact q1
   | true =>
    have hp':((aN A j).x == n || (aN A j).y == n)=true:=hp
    rw [hp']
    refine bc ⟨_,rfl,_,q1,?_,?_,cS q2 hD⟩
    ·unfold qZ
     rw [UA]
     have:=VA (λj=>Vd (aN A j) n) ((nH A).take i)
     rw [Va] at this
     omega
    ·rw [ae,take_snoc hj,VX,UW,hp]
     unfold qZ
     rw [U1]
     rfl
  ·rintro H2 ⟨q1,q2⟩
   have e:(qZ L (nH A)).length=(nH A).length:=UA ..
   rw [e,VB,<- Ox] at q1
   exact k H2 D (s1.trans q2) (s1.free hD) q1
def uP (K:Uy) (a:bI):Sp:=λvs H Q _=>∃ (bad:List Addr) (L:Lay) (A:Ux) (x y:Nat),vs=[.ref (L.ad .af),.int (x:Int),.int (y:Int)]/\aJ a bad H L A/\A.disputes.length<=1000 /\
 ∀ (H':Hp),az H H'->Q (.bl ((j1 A x).any λj=>Vd (aN A j) y)) H'
theorem uI (T:Txt K mg a):a8 P w K mg base eS 4 a.cI a.cP ["self","x","y"] (uP K a):=by
 refine T.iK.ok hZ ?_ ?_
 ·rintro _ _ _ _ ⟨_,_,_,_,_,rfl,_⟩
  rfl
 ·rintro cdv A outer s H _ Q E hr ⟨bad,L,A,x,y,rfl,F,hm,k⟩
  refine ⟨_,(ao (aE (aU (LM (K:=K) rfl) (by rfl) T.Qg CN (aa (wX rfl hZ.nd (kU (K:=K) (aK (pv 0) T.au T.b4 (fU T) hr.lo T.b3 .nil aG (aa (pv 1) aj))) (fc (own:=[("dispute",3)]) (by show w8 ["self","x","y","dispute"] (aq eL) _ _=true;decide +kernel)) (λ_ _ _ _ _=>fq (i:=3) hZ.nd rfl (Or.inl rfl)) (λ_ _ _ _ _=>oy) (λ_ _ _ _ _=>(nU (Np (K:=K)) (pv 2) (ai (K:=K) (pv 3) rfl) rfl))) aj)))),?_⟩
  have hz:=sizeLine_eq
  obtain ⟨da,g1⟩:=F.af
  refine ⟨_,rfl,L.ad .af,da,_,rfl,g1,rfl,_,rfl,bad,L,A,x,rfl,F,hm,λH1 c s1 hc h1=>?_⟩
  have F1:=F.same s1
  have ml:(j1 A x).length<=1000:=by
   have:=VA (λj=>UJ (aN A j)&&Vd (aN A j) x) (List.range A.disputes.length)
   rw [Vi] at this
   unfold j1
   omega
  refine ⟨c,rfl,⟨_,bf.of h1⟩,λD hD=>tO (K:=K) (xs:=qZ L (j1 A x)) (λi H2=>H2 D=some (.lst (((j1 A x).take i).map λj=>V.bl (Vd (aN A j) y)))/\az H1 H2) ⟨ae,az.laid hD⟩ (λi H2 _ q=>bf.of (q.2 _ _ h1)) ?_ ?_⟩
  ·rintro i v H2 hv ⟨q1,q2⟩
   obtain ⟨j,hj,rfl⟩:=sR hv
   have jl:j < A.disputes.length:=U8.mp (VM.mp (Vf hj)).1
   have D2:=(F1.same q2).aH j _ (ba jl)
   obtain ⟨dd,g2⟩:=D2.ins
   refine ⟨rfl,DT ⟨_,rfl,_,rfl,L.ad (.aH j),a.ay,dd,_,_,rfl,g2,T.aA,T.aY,rfl,_,_,rfl,.inr (D2.hosts.sq),rfl,rfl,_,q1,?_,?_,cS q2 hD⟩⟩
   ·rw [UA,Va];omega
   ·rw [ae,take_snoc hj,U1]
    show some (HO.lst (_++[V.bl (Lw (.int (y:Int)) [.int ((aN A j).x:Int),.int ((aN A j).y:Int)])]))=_
    rw [Hr]
    rfl
  ·rintro H2 ⟨q1,q2⟩
   have e:(qZ L (j1 A x)).length=(j1 A x).length:=UA ..
   rw [e,VB] at q1
   refine ⟨D,(j1 A x).map λj=>Vd (aN A j) y,rfl,bf.of (by rw [q1,VG];rfl),?_⟩
   rw [V1]
   exact k H2 (s1.trans q2)
def Ij (A:Ux):List Nat:=(List.range A.hosts.length).filter λi=>!(Uz A i).out
def Ag (K:Uy) (a:bI):Sp:=λvs H Q _=>∃ (bad:List Addr) (L:Lay) (A:Ux),vs=[.ref (L.ad .af)]/\aJ a bad H L A/\A.hosts.length<=1000 /\
 ∀ (H':Hp) (c:Addr),az H H'->H c=none->H' c=some (.lst ((Ij A).map λi=>V.ref (L.ad (.host i))))->Q (.ref c) H'
theorem rT (T:Txt K mg a):a8 P w K mg base eS 1 a.gK a.gF ["self"] (Ag K a):=by
 refine T.nG.ok mP ?_ ?_
 ·rintro _ _ _ _ ⟨_,_,_,rfl,_⟩
  rfl
 ·rintro cdv A outer s H _ Q E hr ⟨bad,L,A,rfl,F,hm,k⟩
  refine ⟨_,(ao (aE (wX rfl mP.nd (kU (K:=K) (ai (K:=K) (pv 0) rfl)) (fc (own:=[("host",1)]) (by show w8 ["self","host"] (aq j2) _ _=true;decide +kernel)) (λ_ _ _ _ _=>fq (i:=1) mP.nd rfl (Or.inl rfl)) (λ_ _ _ _ _=>(Bi (ie (bJ (ai (K:=K) (pv 1) rfl))))) (λ_ _ _ _ _=>(pv 1))))),?_⟩
  have hz:=sizeLine_eq
  obtain ⟨da,g1⟩:=F.af
  refine ⟨_,rfl,L.ad .af,a.aw,da,_,_,rfl,g1,T.au,T.bw,rfl,L.hl,rfl,⟨_,bf.of F.hl⟩,λD hD=>tO (K:=K) (xs:=(List.range A.hosts.length).map λj=>V.ref (L.ad (.host j))) (λi H2=>H2 D=some (.lst ((((List.range A.hosts.length).take i).filter λi=>!(Uz A i).out).map λi=>V.ref (L.ad (.host i))))/\az H H2) ⟨ae,az.laid hD⟩ (λi H2 _ q=>bf.of (q.2 _ _ F.hl)) ?_ ?_⟩
  ·rintro i x H2 hx ⟨q1,q2⟩
   obtain ⟨hi,rfl⟩:=nS hx
   obtain ⟨dh,g2⟩:=(F.same q2).host i hi
   refine ⟨rfl,_,rfl,L.ad (.host i),a.bB,dh,_,_,rfl,g2,T.bP,T.mH,rfl,_,rfl,?_⟩
   cases ho:(Uz A i).out with
   | true =>
    refine bu ⟨?_,q2⟩
    rw [take_snoc (sW hi),VX,UW,ho,if_neg (by decide),V4,Wa]
    exact q1
   | false =>
    refine bc ⟨_,rfl,_,q1,?_,?_,cS q2 hD⟩
    ·rw [UA]
     have:=VA (λi=>!(Uz A i).out) ((List.range A.hosts.length).take i)
     rw [Va,Vi] at this
     omega
    ·rw [ae,take_snoc (sW hi),VX,UW,ho,U1]
     rfl
  ·rintro H2 ⟨q1,q2⟩
   rw [UA,VB] at q1
   exact k H2 D q2 hD q1
def yp (K:Uy) (a:bI):Sp:=λvs H Q _=>∃ (bad:List Addr) (L:Lay) (A:Ux) (n:Nat),vs=[.ref (L.ad .af),.int (n:Int)]/\aJ a bad H L A/\n<=A.disputes.length/\Q (.ref (if n=0 then L.ad .op else L.ad (.aH (n - 1)))) H
theorem bW (T:Txt K mg a):a8 P w K mg base eS 1 a.eV a.fe ["self","number"] (yp K a):=by
 refine T.lX.ok yk ?_ ?_
 ·rintro _ _ _ _ ⟨_,_,_,_,rfl,_⟩
  rfl
 ·rintro cdv A outer s H _ Q E hr ⟨bad,L,A,n,rfl,F,hn,k⟩
  refine ⟨_,(ao (aE (ox (a9 uf (pv 1) ax (bo _)) (ai (K:=K) (pv 0) rfl) (aM (aB (K:=K)) (ai (K:=K) (pv 0) rfl) (b8 GH (pv 1) ax) (λ_ _=>rfl))))),?_⟩
  obtain ⟨da,g1⟩:=F.af
  refine ⟨_,rfl,rfl,_,rfl,?_⟩
  refine BW (λe=>?_) λe=>?_
  ·rw [if_pos (by omega)] at k
   exact ⟨_,rfl,L.ad .af,a.aw,da,_,_,rfl,g1,T.au,T.lq,rfl,k⟩
  ·rw [if_neg (by omega)] at k
   exact ⟨_,rfl,L.ad .af,a.aw,da,_,_,rfl,g1,T.au,T.bS,rfl,_,rfl,_,_,rfl,rfl,L.ad .dl,_,_,_,rfl,rfl,bf.of F.dl,at_of (j:=n - 1) (by omega) (kP (by omega)),k⟩
theorem XY.set {A:Ux} (h:XY A) {j:Nat} {d d':UC} (hj:A.disputes[j]?=some d) (e1:d'.x=d.x) (e2:d'.y=d.y):XY { A with disputes:=A.disputes.set j d' }:=λe he=>by
 rcases List.mem_or_eq_of_mem_set he with q | q
 ·exact h e q
 ·rw [q,e1,e2]
  exact h d (Vf hj)
theorem y4 {bad:List Addr} {H:Hp} {L:Lay} {A:Ux} {j:Nat} {d:UC} {dd en:Addr} {v:Option Vbapaj.Verdict} {xs:List V} (F:aJ a bad H L A) (hj:A.disputes[j]?=some d) (hen:H en=none)
  (g1:H (L.ad (.aH j))=some (.ins a.ay dd (vA (L.dt j) d.lo (L.da j) d.hi d.asked (L.ad (.bM j)) d.questions d.lost (L.de j)))) (hv:(V3 v).map (λ(n:Nat)=>V.int (n:Int))=xs) :
  aJ a bad (upd (upd H en (.tup xs)) (L.ad (.aH j)) (.ins a.ay dd (a6 (Str.ofString "ended") (.ref en) (vA (L.dt j) d.lo (L.da j) d.hi d.asked (L.ad (.bM j)) d.questions d.lost (L.de j))))) (L.rm j (L.ad (.bM j)) (L.dt j) (L.da j) en) { A with disputes:=A.disputes.set j { d with verdict:=v } } /\
  Step H L A (upd (upd H en (.tup xs)) (L.ad (.aH j)) (.ins a.ay dd (a6 (Str.ofString "ended") (.ref en) (vA (L.dt j) d.lo (L.da j) d.hi d.asked (L.ad (.bM j)) d.questions d.lost (L.de j))))) (L.rm j (L.ad (.bM j)) (L.dt j) (L.da j) en) { A with disputes:=A.disputes.set j { d with verdict:=v } }:=by
 have D3:=F.aH j d hj
 have np:en≠L.ad (.aH j):=λz=>by rw [z,g1] at hen;cases hen
 have kk:∀ (o1 o2:HO) (b:Addr) (o:HO),H b=some o->b≠L.ad (.aH j)->upd (upd H en o1) (L.ad (.aH j)) o2 b=some o:=λo1 o2 b o e n=>by
  rw [ak n,ak (aF e hen)]
  exact e
 have n1:L.dt j≠L.ad (.aH j):=D3.hosts.ne g1
 have n2:L.da j≠L.ad (.aH j):=aV D3.FF g1 (by intro z;cases z)
 have n3:L.ad (.bM j)≠L.ad (.aH j):=aV D3.ask g1 (by intro z;cases z)
 have KK:∀ o1 o2,Keeps [L.ad (.aH j),L.ad (.bM j)] H (upd (upd H en o1) (L.ad (.aH j)) o2):=λo1 o2 b o e n=>kk _ _ _ _ e λz=>n (by rw [z];exact UZ ..)
 refine ⟨F.rm hj (KK _ _) (.inl rfl) ⟨⟨dd,ae⟩,D3.hosts.imp (λo q=>kk _ _ _ _ q n1),kk _ _ _ _ D3.FF n2,kk _ _ _ _ D3.ask n3,?_⟩,Step.rm hj (KK _ _) (.inl rfl)⟩
 rw [ak np,ae,<- hv]
def xi (K:Uy) (a:bI):Sp:=λvs H Q _=>∃ (bad:List Addr) (L:Lay) (A:Ux) (j how n:Nat) (d:UC) (v:Vbapaj.Verdict),vs=[.ref (L.ad .af),.ref (L.ad (.aH j)),.int (how:Int),.int (n:Int)]/\aJ a bad H L A/\XY A/\A.disputes[j]?=some d /\
 V3 (some v)=[how,n]/\(n=d.x∨n=d.y)/\(Uz A n).out=false /\
 ∀ (H':Hp) (L':Lay),Step H L A H' L' (U6 (outs { A with disputes:=A.disputes.set j { d with verdict:=some v } } [n] (some (if n=d.x then d.y else d.x)))) ->
  aJ a bad H' L' (U6 (outs { A with disputes:=A.disputes.set j { d with verdict:=some v } } [n] (some (if n=d.x then d.y else d.x))))->Q .dH H'
theorem oU (T:Txt K mg a):a8 P w K mg base eS 4 a.d9 a.d7 ["self","dispute","how","number"] (xi K a):=by
 refine T.kW.ok w9 ?_ ?_
 ·rintro _ _ _ _ ⟨_,_,_,_,_,_,_,_,rfl,_⟩
  rfl
 ·rintro cdv A outer s H _ Q E hr ⟨bad,L,A,j,how,n,d,v,rfl,F,hx,hj,hv,hn,ho,k⟩
  refine ⟨_,(ah (aS (K:=K) (pv 1) (wk (aa (pv 2) (aa (pv 3) aj))) rfl)
   (ao (bU (aK (pv 0) T.au T.dJ (gh T) hr.lo T.dM .nil aG (aa (aT (aa (pv 3) aj)) (aa (aK (pv 1) T.aA T.mC (vo T) hr.lo T.mB .nil aG (aa (pv 3) aj)) aj)))))),?_⟩
  have jl:j < A.disputes.length:=(U5.mp hj).1
  obtain ⟨xl,yl,xy⟩:=hx d (Vf hj)
  have D0:=F.aH j d hj
  obtain ⟨dd,g1⟩:=D0.ins
  refine ⟨_,rfl,_,rfl,Ob,λen hen=>?_⟩
  have np:en≠L.ad (.aH j):=λz=>by rw [z,g1] at hen;cases hen
  refine ⟨_,rfl,L.ad (.aH j),a.ay,dd,_,rfl,by rw [ak np.symm];exact g1,T.aA,T.dC,by show 9 < 1000;decide,?_⟩
  obtain ⟨F1,S1⟩:=y4 (v:=some v) (xs:=[.int (how:Int),.int (n:Int)]) F hj hen g1 (by rw [hv];rfl)
  generalize hH1:upd (upd H en (.tup [.int (how:Int),.int (n:Int)])) (L.ad (.aH j)) (.ins a.ay dd (a6 (Str.ofString "ended") (.ref en) (vA (L.dt j) d.lo (L.da j) d.hi d.asked (L.ad (.bM j)) d.questions d.lost (L.de j))))=H1 at F1 S1 ⊢
  generalize hL1:L.rm j (L.ad (.bM j)) (L.dt j) (L.da j) en=L1 at F1 S1
  have hx1:XY { A with disputes:=A.disputes.set j { d with verdict:=some v } }:=hx.set hj rfl rfl
  have hj1:(A.disputes.set j { d with verdict:=some v })[j]?=some { d with verdict:=some v }:=VN jl
  obtain ⟨da,g2⟩:=F1.af
  rw [S1.af] at g2
  refine ⟨_,rfl,L.ad .af,da,_,rfl,g2,rfl,_,rfl,nz,λp hp=>?_⟩
  have s2:az H1 (upd H1 p (.lst [.int (n:Int)])):=az.laid hp
  have F2:=F1.same s2
  have D2:=F2.aH j _ hj1
  rw [S1.aH j jl] at D2
  obtain ⟨dd2,g3⟩:=D2.ins
  refine ⟨_,rfl,L.ad (.aH j),dd2,_,rfl,g3,rfl,_,rfl,L.ad (.aH j),_,_,_,_,_,n,rfl,D2,?_⟩
  refine ⟨bad,L1,_,p,[n],_,some (if n=d.x then d.y else d.x),by rw [S1.af];rfl,F2,hx1,ae,λ⟨r,hr,e⟩=>?_,rfl,by simp,λm hm=>?_,λo e=>?_,λH3 L3 S3 F3=>?_⟩
  ·obtain ⟨u,hu⟩:=F1.there hr
   rw [<- e,hp] at hu
   cases hu
  ·rw [UE.mp hm]
   refine ⟨?_,ho⟩
   rcases hn with e | e
   ·rw [e];exact xl
   ·rw [e];exact yl
  ·injection e with e
   subst e
   refine ⟨?_,λm hm=>?_⟩
   ·show (if n=d.x then d.y else d.x) < A.hosts.length
    split
    ·exact yl
    ·exact xl
   ·rw [UE.mp hm]
    rcases hn with e | e
    ·rw [if_pos e,e];exact λz=>xy z.symm
    ·rw [if_neg (by rw [e];exact λz=>xy z.symm),e];exact xy
  ·exact k H3 L3 ((S1.trans (Step.same s2)).trans S3) F3
def pj (A:Ux) (n:Nat):Ux:=match j1 A n with
 | []=>U6 (outs A [n] none)
 | j::_=>U6 (outs { A with disputes:=A.disputes.set j { aN A j with verdict:=some (.twice n) } } [n] (some (if n=(aN A j).x then (aN A j).y else (aN A j).x)))
def vP (K:Uy) (a:bI):Sp:=λvs H Q _=>∃ (bad:List Addr) (L:Lay) (A:Ux) (n:Nat),vs=[.ref (L.ad .af),.int (n:Int)]/\aJ a bad H L A/\XY A/\A.disputes.length<=1000/\n < A.hosts.length/\(Uz A n).out=false /\
 ∀ (H':Hp) (L':Lay),Step H L A H' L' (pj A n)->aJ a bad H' L' (pj A n)->Q .dH H'
theorem vw (T:Txt K mg a):a8 P w K mg base eS 5 a.du a.cZ ["self","number"] (vP K a):=by
 refine T.i8.ok mT ?_ ?_
 ·rintro _ _ _ _ ⟨_,_,_,_,rfl,_⟩
  rfl
 ·rintro cdv A outer s H _ Q E hr ⟨bad,L,A,n,rfl,F,hx,hm,hn,ho,k⟩
  refine ⟨_,(ah (aP (i:=2) mT.nd rfl (Or.inl rfl) (aK (pv 0) T.au T.b4 (fU T) hr.lo T.b3 .nil aG (aa (pv 1) aj)))
   (ao (bj (ze (K:=K) (pv 2) (λ_=>rfl)) (ao (bU (aK (pv 0) T.au T.gB (oU T) hr.lo T.gH .nil aG (aa (aM (aB (K:=K)) (pv 2) ax (λ_ _=>rfl)) (aa (aO (by rfl) T.Pw) (aa (pv 1) aj)))))) (ao (bU (aK (pv 0) T.au T.dJ (gh T) hr.lo T.dM .nil aG (aa (aT (aa (pv 1) aj)) (aa ib aj)))))))),?_⟩
  obtain ⟨da,g1⟩:=F.af
  refine ⟨_,rfl,L.ad .af,da,_,rfl,g1,rfl,_,rfl,bad,L,A,n,rfl,F,hm,λH1 c s1 hc h1=>?_⟩
  have F1:=F.same s1
  have g2:=s1 _ _ g1
  refine ⟨_,rfl,_,.inl ⟨_,bf.of h1,rfl⟩,?_⟩
  unfold pj at k
  cases e:j1 A n with
  | nil =>
   rw [e] at k
   refine bu ⟨_,rfl,L.ad .af,da,_,rfl,g2,rfl,_,rfl,nz,λp hp=>⟨bad,L,A,p,[n],.dH,none,rfl,F1.same (az.laid hp),hx,ae,λ⟨r,hr,e⟩=>?_,rfl,by simp,λm hm=>?_,λo e=>(by cases e),λH3 L3 S3 F3=>?_⟩⟩
   ·obtain ⟨u,hu⟩:=F1.there hr
    rw [<- e,hp] at hu
    cases hu
   ·rw [UE.mp hm];exact ⟨hn,ho⟩
   ·exact k H3 L3 ((Step.same (s1.trans (az.laid hp))).trans S3) F3
  | cons j r =>
   rw [e] at k h1
   have hj:j∈j1 A n:=by rw [e];exact UZ ..
   obtain ⟨h2,h3⟩:=VM.mp hj
   have jl:=U8.mp h2
   rw [UN] at h3
   refine bc ⟨_,rfl,L.ad .af,da,_,rfl,g2,rfl,_,rfl,c,_,0,_,rfl,rfl,bf.of h1,at_of (j:=0) rfl rfl,_,rfl,bad,L,A,j,2,n,aN A j,.twice n,rfl,F1,hx,ba jl,rfl,?_,ho,λH3 L3 S3 F3=>?_⟩
   ·have h4:((aN A j).x == n || (aN A j).y == n)=true:=h3.2
    rw [Wc,beq_iff_eq,beq_iff_eq] at h4
    rcases h4 with h4 | h4
    ·exact .inl h4.symm
    ·exact .inr h4.symm
   ·exact k H3 L3 ((Step.same s1).trans S3) F3
def oz (A:Ux) (k n:Nat):Ux:=if k=0 then U6 (outs A [n] none) else
 U6 (outs { A with disputes:=A.disputes.set (k - 1) { aN A (k - 1) with verdict:=some (.silent n) } } [n] (some (if n=(aN A (k - 1)).x then (aN A (k - 1)).y else (aN A (k - 1)).x)))
def uu (K:Uy) (a:bI):Sp:=λvs H Q _=>∃ (bad:List Addr) (L:Lay) (A:Ux) (m n:Nat),vs=[.ref (L.ad .af),.int (m:Int),.int (n:Int)]/\aJ a bad H L A/\XY A/\m<=A.disputes.length/\n < A.hosts.length/\(Uz A n).out=false/\(m≠0->n=(aN A (m - 1)).x∨n=(aN A (m - 1)).y) /\
 ∀ (H':Hp) (L':Lay),Step H L A H' L' (oz A m n)->aJ a bad H' L' (oz A m n)->Q .dH H'
theorem uE (T:Txt K mg a):a8 P w K mg base eS 5 a.cJ a.cK ["self","dispute_number","number"] (uu K a):=by
 refine T.iA.ok vg ?_ ?_
 ·rintro _ _ _ _ ⟨_,_,_,_,_,rfl,_⟩
  rfl
 ·rintro cdv A outer s H _ Q E hr ⟨bad,L,A,m,n,rfl,F,hx,hm,hn,ho,hmn,k⟩
  refine ⟨_,(ao (bj (a9 uf (pv 1) ax (bo _)) (ao (bU (aK (pv 0) T.au T.dJ (gh T) hr.lo T.dM .nil aG (aa (aT (aa (pv 2) aj)) (aa ib aj))))) (ao (bU (aK (pv 0) T.au T.gB (oU T) hr.lo T.gH .nil aG (aa (aK (pv 0) T.au T.bG (bW T) hr.lo T.bF .nil aG (aa (pv 1) aj)) (aa (aO (by rfl) T.Oc) (aa (pv 2) aj)))))))),?_⟩
  obtain ⟨da,g1⟩:=F.af
  unfold oz at k
  refine ⟨_,rfl,rfl,_,rfl,?_⟩
  refine BW (λe=>?_) λe=>?_
  ·rw [if_pos (by omega)] at k
   refine ⟨_,rfl,L.ad .af,da,_,rfl,g1,rfl,_,rfl,nz,λp hp=>⟨bad,L,A,p,[n],.dH,none,rfl,F.same (az.laid hp),hx,ae,λ⟨r,hr,e⟩=>?_,rfl,by simp,λm hm=>?_,λo e=>(by cases e),λH3 L3 S3 F3=>?_⟩⟩
   ·obtain ⟨u,hu⟩:=F.there hr
    rw [<- e,hp] at hu
    cases hu
   ·rw [UE.mp hm];exact ⟨hn,ho⟩
   ·exact k H3 L3 ((Step.same (az.laid hp)).trans S3) F3
  ·rw [if_neg (by omega)] at k
   refine ⟨_,rfl,L.ad .af,da,_,rfl,g1,rfl,_,rfl,L.ad .af,da,_,rfl,g1,rfl,_,rfl,bad,L,A,m,rfl,F,hm,?_⟩
   rw [if_neg (by omega)]
   exact ⟨_,rfl,bad,L,A,m - 1,3,n,aN A (m - 1),.silent n,rfl,F,hx,ba (by omega),rfl,hmn (by omega),ho,λH3 L3 S3 F3=>k H3 L3 S3 F3⟩
end
def qW (A:Ux) (d:UC):UC:={ d with verdict:=some (.wrong (UD A d.x d.hi != some (VQ A.program d.agreed)) (UD A d.y d.hi != some (VQ A.program d.agreed))) }
def bD (A:Ux) (j:Nat) (d:UC):Ux:={ A with disputes:=A.disputes.set j d }
structure M5 (A:Ux) (d:UC) (r s:UB):Prop where
 xl:d.x < A.hosts.length
 yl:d.y < A.hosts.length
 xy:d.x≠d.y
 xo:(Uz A d.x).out=false
 yo:(Uz A d.y).out=false
 hx:UD A d.x d.hi=some r
 hy:UD A d.y d.hi=some s
 ne:r≠s
 lt:d.lo < d.hi
 le:d.hi<=2000
 mid:d.hi≠d.lo+1->d.asked=(d.lo+d.hi) / 2
structure Fi (A:Ux) (n:Nat):Prop where
 prog:xq A.program
 n6:n<=6
 vM:ik A.program n A.begin_
 once:Once A.heard
theorem LB (o:Option UB) (r t:UB) (h:o=some r):(o != some t)=!decide (r=t):=by
 subst h
 by_cases e:r=t
 ·subst e;simp
 ·simp [e]
section
variable {P:Program} {w:World} {K:Uy} {mg:Str->Option Value} {base:Heap} {a:bI}
def zV (K:Uy) (a:bI):Sp:=λvs H Q _=>∃ (bad:List Addr) (L:Lay) (A:Ux) (j n:Nat) (d:UC) (r s:UB),vs=[.ref (L.ad .af),.ref (L.ad (.aH j))]/\aJ a bad H L A/\XY A/\Fi A n/\A.disputes[j]?=some d/\M5 A d r s/\ik A.program n d.agreed /\
 ∀ (H':Hp) (L':Lay),Step H L A H' L' (Vr (bD A j (qW A d)) (qW A d))->aJ a bad H' L' (Vr (bD A j (qW A d)) (qW A d))->Q .dH H'
theorem zG (T:Txt K mg a):a8 P w K mg base eS 4 a.gC a.gL ["self","dispute"] (zV K a):=by
 refine T.nv.ok jo ?_ ?_
 ·rintro _ _ _ _ ⟨_,_,_,_,_,_,_,_,rfl,_⟩
  rfl
 ·rintro cdv A outer s H _ Q E hr ⟨bad,L,A,j,n,d,r,s0,rfl,F,hx,OB,hj,OD,OG,k⟩
  refine ⟨_,(ah (aP (i:=2) jo.nd rfl (Or.inr rfl) (aK (ai (K:=K) (pv 0) rfl) T.mW T.fG (lP T) hr.lo T.fH .nil aG (aa (ai (K:=K) (pv 1) rfl) aj)))
   (ah (A5 (i:=3) rfl jo.nd rfl rfl (DJ rfl rfl rfl (by decide +kernel)) (HM (K:=K) (ai (K:=K) (pv 1) rfl)) (fc (own:=[("number",4)]) (by show w8 ["self","dispute","truth","wrong","number"] (aq jZ) _ _=true;decide +kernel)) (λ_ _ _ _ _=>fq (i:=4) jo.nd rfl (Or.inl rfl)) (λ_ _ _ _ _=>(Bi (a9 (Lj (K:=K) hr.units) (aK (pv 0) T.au T.dU (fV T) hr.lo T.dR .nil aG (aa (pv 4) (aa (ai (K:=K) (pv 1) rfl) aj))) (pv 2) (bo _)))) (λ_ _ _ _ _=>(pv 4)))
   (ao (bj (a9 uf (aU (a7 (K:=K)) (by rfl) T.dO UU (aa (pv 3) aj)) ax (bo _)) (ah (aS (K:=K) (pv 1) (wk (aa (aO (by rfl) T.Ll) (aa ax aj))) rfl)
   (ao (bU (aK (pv 0) T.au T.dJ (gh T) hr.lo T.dM .nil aG (aa (pv 3) (aa ib aj)))))) (ah (aS (K:=K) (pv 1) (wk (aa (aO (by rfl) T.Ll) (aa (b8 zO (RD PySem.F.plainAttrs_tuple PySem.F.slot_tuple_index PySem.F.type_tuple_index (J0 (K:=K)) (ai (K:=K) (pv 1) rfl) (aa (aM (aB (K:=K)) (pv 3) ax (λ_ _=>rfl)) aj)) ax) aj))) rfl)
   (ao (bU (aK (pv 0) T.au T.dJ (gh T) hr.lo T.dM .nil aG (aa (pv 3) (aa (aK (pv 1) T.aA T.mC (vo T) hr.lo T.mB .nil aG (aa (aM (aB (K:=K)) (pv 3) ax (λ_ _=>rfl)) aj)) aj)))))))))),?_⟩
  have hz:=sizeLine_eq
  have jl:j < A.disputes.length:=(U5.mp hj).1
  obtain ⟨da,g1⟩:=F.af
  obtain ⟨dr,g2⟩:=F.run.run
  have D0:=F.aH j d hj
  obtain ⟨dd,g3⟩:=D0.ins
  refine ⟨_,rfl,L.ad .af,a.aw,da,_,_,rfl,g1,T.au,T.gM,rfl,L.r,dr,_,rfl,g2,rfl,_,rfl,L.ad (.aH j),a.ay,dd,_,_,rfl,g3,T.aA,T.lx,rfl,L.r,L.lo,L.ad .ls,L.da j,L.os,L.ts,A.program,A.begin_,d.agreed,n,rfl,F.run,OB.prog,OB.n6,OG,gc.of D0.FF,λH1 tt s1 htt h1=>?_⟩
  have F1:=F.same s1
  have D1:=F1.aH j d hj
  generalize hR:VQ A.program d.agreed=R at h1
  let Rz:Nat->UB:=λz=>if z=d.x then r else s0
  have hRz:∀ z,z=d.x∨z=d.y->UD A z d.hi=some (Rz z):=λz hz=>by
   rcases hz with e | e
   ·rw [e,OD.hx];simp [Rz]
   ·have:¬ z=d.x:=λq=>OD.xy (by rw [<- q,e])
    rw [e,OD.hy];simp [Rz];exact λq=>absurd q.symm OD.xy
  refine ⟨_,rfl,L.ad (.aH j),a.ay,dd,_,_,rfl,s1 _ _ g3,T.aA,T.aY,rfl,L.dt j,rfl,⟨_,D1.hosts.sq⟩,λD hD=>Ky (K:=K) (xs:=mf [d.x,d.y]) (λi H2=>H2 D=some (.lst (mf (([d.x,d.y].take i).filter λz=>!decide (Rz z=R))))/\az H1 H2) ⟨ae,az.laid hD⟩ (λi H2 _ q=>(D1.hosts.imp (q.2 _)).sq) ?_ ?_⟩
  ·rintro i x H2 hi ⟨q1,q2⟩
   obtain ⟨z,hz',rfl⟩:=sR hi
   have zz:z=d.x∨z=d.y:=by simpa using Vf hz'
   have zl:z < A.hosts.length:=by
    rcases zz with e | e
    ·rw [e];exact OD.xl
    ·rw [e];exact OD.yl
   refine ⟨rfl,_,rfl,L.ad .af,da,_,rfl,q2 _ _ (s1 _ _ g1),rfl,_,rfl,_,rfl,L.ad (.aH j),a.ay,dd,_,_,rfl,q2 _ _ (s1 _ _ g3),T.aA,T.dy,rfl,bad,L,A,z,d.hi,rfl,F1.same q2,zl,OB.once,λv hv=>?_⟩
   rw [hRz z zz] at hv
   obtain ⟨q,rfl,hq⟩:=hv
   refine ⟨_,rfl,jv (stI (Rz z)),jv (stI R),pI (gc.of (by rw [hq,fN])),pI (gc.of (by rw [q2 _ _ h1,fN])),shaped_ints _,shaped_ints _,_,rfl,?_⟩
   rw [sH,A4]
   cases c:decide (Rz z=R) with
   | true =>
    refine bu ⟨?_,q2⟩
    rw [take_snoc hz',VX,UW,c,if_neg (by decide),V4,Wa]
    exact q1
   | false =>
    refine bc ⟨_,rfl,_,q1,?_,?_,cS q2 hD⟩
    ·rw [iq]
     have:=VA (λz=>!decide (Rz z=R)) ([d.x,d.y].take i)
     have:([d.x,d.y].take i).length<=2:=by rw [Va];exact Nat.min_le_right _ _
     omega
    ·rw [ae,take_snoc hz',VX,UW,c,if_pos (by decide)]
     unfold mf
     rw [U1]
     rfl
  ·rintro H2 ⟨q1,q2⟩
   have q1:H2 D=some (.lst (mf ([d.x,d.y].filter λz=>!decide (Rz z=R)))):=q1
   have F2:=F1.same q2
   have eX:(UD A d.x d.hi != some R)=!decide (Rz d.x=R):=LB _ _ _ (hRz d.x (.inl rfl))
   have eY:(UD A d.y d.hi != some R)=!decide (Rz d.y=R):=LB _ _ _ (hRz d.y (.inr rfl))
   have eW:qW A d={ d with verdict:=some (.wrong (!decide (Rz d.x=R)) (!decide (Rz d.y=R))) }:=by
    unfold qW
    rw [hR,eX,eY]
   rw [eW] at k
   have g4:=q2 _ _ (s1 _ _ g3)
   have D2:=F2.aH j d hj
   obtain ⟨oh,hh1,hh2,hh3⟩:=D2.hosts
   cases cX:decide (Rz d.x=R) with
   | true =>
    cases cY:decide (Rz d.y=R) with
    | true =>
     have e1:=of_decide_eq_true cX
     have e2:=of_decide_eq_true cY
     have e3:Rz d.x=r:=by simp [Rz]
     have e4:Rz d.y=s0:=by simp [Rz];exact λq=>absurd q.symm OD.xy
     exact absurd (by rw [<- e3,<- e4,e1,e2]) OD.ne
    | false =>
     rw [cX,cY] at k
     rw [UW,cX,if_neg (by decide),UW,cY,if_pos (by decide),V4] at q1
     refine ⟨_,rfl,D,_,rfl,.inl (bf.of q1),rfl,_,rfl,?_⟩
     refine BW (λh=>absurd h (by show ¬ ((1:Int)=2);decide)) λ_=>?_
     refine ⟨_,rfl,L.ad (.aH j),a.ay,dd,_,_,rfl,g4,T.aA,T.aY,rfl,⟨L.dt j,oh,_,rfl,hh1,hh2,hh3⟩,_,rfl,D,_,0,_,rfl,rfl,bf.of q1,at_of (j:=0) rfl rfl,L.dt j,(d.x:Int),(d.y:Int),(d.y:Int),1,rfl,rfl,D2.hosts.sq,.inr ⟨rfl,λz=>OD.xy (by omega),rfl⟩,_,_,rfl,rfl,Ob,λen hen=>?_⟩
     have np:en≠L.ad (.aH j):=λz=>by rw [z,g4] at hen;cases hen
     refine ⟨_,rfl,L.ad (.aH j),a.ay,dd,_,rfl,by rw [ak np.symm];exact g4,T.aA,T.dC,by show 9 < 1000;decide,?_⟩
     rw [show ((λ(i j:Int)=>V.int (i+j)) ((1:Nat):Int) 1)=V.int 2 from rfl]
     obtain ⟨F3,S3⟩:=y4 (v:=some (.wrong false true)) (xs:=[.int 1,.int 2]) F2 hj hen g4 rfl
     have Dd:D≠L.ad (.aH j):=aV q1 g4 (by intro z;cases z)
     have q3:upd (upd H2 en (.tup [.int 1,.int 2])) (L.ad (.aH j)) (.ins a.ay dd (a6 (Str.ofString "ended") (.ref en) (vA (L.dt j) d.lo (L.da j) d.hi d.asked (L.ad (.bM j)) d.questions d.lost (L.de j)))) D=some (.lst (mf [d.y])):=by
      rw [ak Dd,ak (aF q1 hen)];exact q1
     generalize hH3:upd (upd H2 en (.tup [.int 1,.int 2])) (L.ad (.aH j)) (.ins a.ay dd (a6 (Str.ofString "ended") (.ref en) (vA (L.dt j) d.lo (L.da j) d.hi d.asked (L.ad (.bM j)) d.questions d.lost (L.de j))))=H3 at F3 S3 q3 ⊢
     generalize hL3:L.rm j (L.ad (.bM j)) (L.dt j) (L.da j) en=L3 at F3 S3
     have hx3:XY { A with disputes:=A.disputes.set j { d with verdict:=some (.wrong false true) } }:=hx.set hj rfl rfl
     have hj3:(A.disputes.set j { d with verdict:=some (.wrong false true) })[j]?=some { d with verdict:=some (.wrong false true) }:=VN jl
     obtain ⟨da3,g5⟩:=F3.af
     rw [S3.af] at g5
     have nl:¬ ∃ r,Lv { A with disputes:=A.disputes.set j { d with verdict:=some (.wrong false true) } } r/\D=L3.ad r:=λ⟨r,hr,e⟩=>by
      rcases S3.old r hr with ⟨r0,h0,e0⟩ | h0
      ·obtain ⟨u,hu⟩:=F1.there h0
       rw [<- e0,<- e,hD] at hu
       cases hu
      ·rw [<- e,q1] at h0
       cases h0
     have D3:=F3.aH j _ hj3
     rw [S3.aH j jl] at D3
     obtain ⟨dd3,g6⟩:=D3.ins
     refine ⟨_,rfl,L.ad .af,da3,_,rfl,g5,rfl,_,rfl,_,rfl,L.ad (.aH j),dd3,_,rfl,g6,rfl,_,rfl,D,_,0,_,rfl,rfl,bf.of q3,at_of (j:=0) rfl rfl,L.ad (.aH j),_,_,_,_,_,d.y,rfl,D3,?_⟩
     refine ⟨bad,L3,_,D,[d.y],_,some (if d.y=d.x then d.y else d.x),by rw [S3.af];rfl,F3,hx3,q3,nl,rfl,by simp,λm hm=>?_,λo e=>?_,λH4 L4 S4 F4=>k H4 L4 ((Step.same (s1.trans q2)).trans (S3.trans S4)) F4⟩
     ·rw [UE.mp hm];exact ⟨OD.yl,OD.yo⟩
     ·injection e with e
      subst e
      refine ⟨?_,λm hm=>?_⟩
      ·show (if d.y=d.x then d.y else d.x) < A.hosts.length
       split
       ·exact OD.yl
       ·exact OD.xl
      ·rw [UE.mp hm]
       rw [if_neg (λz=>OD.xy z.symm)];exact OD.xy
   | false =>
    cases cY:decide (Rz d.y=R) with
    | true =>
     rw [cX,cY] at k
     rw [UW,cX,if_pos (by decide),UW,cY,if_neg (by decide),V4] at q1
     refine ⟨_,rfl,D,_,rfl,.inl (bf.of q1),rfl,_,rfl,?_⟩
     refine BW (λh=>absurd h (by show ¬ ((1:Int)=2);decide)) λ_=>?_
     refine ⟨_,rfl,L.ad (.aH j),a.ay,dd,_,_,rfl,g4,T.aA,T.aY,rfl,⟨L.dt j,oh,_,rfl,hh1,hh2,hh3⟩,_,rfl,D,_,0,_,rfl,rfl,bf.of q1,at_of (j:=0) rfl rfl,L.dt j,(d.x:Int),(d.y:Int),(d.x:Int),0,rfl,rfl,D2.hosts.sq,.inl ⟨rfl,rfl⟩,_,_,rfl,rfl,Ob,λen hen=>?_⟩
     have np:en≠L.ad (.aH j):=λz=>by rw [z,g4] at hen;cases hen
     refine ⟨_,rfl,L.ad (.aH j),a.ay,dd,_,rfl,by rw [ak np.symm];exact g4,T.aA,T.dC,by show 9 < 1000;decide,?_⟩
     rw [show ((λ(i j:Int)=>V.int (i+j)) ((0:Nat):Int) 1)=V.int 1 from rfl]
     obtain ⟨F3,S3⟩:=y4 (v:=some (.wrong true false)) (xs:=[.int 1,.int 1]) F2 hj hen g4 rfl
     have Dd:D≠L.ad (.aH j):=aV q1 g4 (by intro z;cases z)
     have q3:upd (upd H2 en (.tup [.int 1,.int 1])) (L.ad (.aH j)) (.ins a.ay dd (a6 (Str.ofString "ended") (.ref en) (vA (L.dt j) d.lo (L.da j) d.hi d.asked (L.ad (.bM j)) d.questions d.lost (L.de j)))) D=some (.lst (mf [d.x])):=by
      rw [ak Dd,ak (aF q1 hen)];exact q1
     generalize hH3:upd (upd H2 en (.tup [.int 1,.int 1])) (L.ad (.aH j)) (.ins a.ay dd (a6 (Str.ofString "ended") (.ref en) (vA (L.dt j) d.lo (L.da j) d.hi d.asked (L.ad (.bM j)) d.questions d.lost (L.de j))))=H3 at F3 S3 q3 ⊢
     generalize hL3:L.rm j (L.ad (.bM j)) (L.dt j) (L.da j) en=L3 at F3 S3
     have hx3:XY { A with disputes:=A.disputes.set j { d with verdict:=some (.wrong true false) } }:=hx.set hj rfl rfl
     have hj3:(A.disputes.set j { d with verdict:=some (.wrong true false) })[j]?=some { d with verdict:=some (.wrong true false) }:=VN jl
     obtain ⟨da3,g5⟩:=F3.af
     rw [S3.af] at g5
     have nl:¬ ∃ r,Lv { A with disputes:=A.disputes.set j { d with verdict:=some (.wrong true false) } } r/\D=L3.ad r:=λ⟨r,hr,e⟩=>by
      rcases S3.old r hr with ⟨r0,h0,e0⟩ | h0
      ·obtain ⟨u,hu⟩:=F1.there h0
       rw [<- e0,<- e,hD] at hu
       cases hu
      ·rw [<- e,q1] at h0
       cases h0
     have D3:=F3.aH j _ hj3
     rw [S3.aH j jl] at D3
     obtain ⟨dd3,g6⟩:=D3.ins
     refine ⟨_,rfl,L.ad .af,da3,_,rfl,g5,rfl,_,rfl,_,rfl,L.ad (.aH j),dd3,_,rfl,g6,rfl,_,rfl,D,_,0,_,rfl,rfl,bf.of q3,at_of (j:=0) rfl rfl,L.ad (.aH j),_,_,_,_,_,d.x,rfl,D3,?_⟩
     refine ⟨bad,L3,_,D,[d.x],_,some (if d.x=d.x then d.y else d.x),by rw [S3.af];rfl,F3,hx3,q3,nl,rfl,by simp,λm hm=>?_,λo e=>?_,λH4 L4 S4 F4=>k H4 L4 ((Step.same (s1.trans q2)).trans (S3.trans S4)) F4⟩
     ·rw [UE.mp hm];exact ⟨OD.xl,OD.xo⟩
     ·injection e with e
      subst e
      refine ⟨?_,λm hm=>?_⟩
      ·show (if d.x=d.x then d.y else d.x) < A.hosts.length
       split
       ·exact OD.yl
       ·exact OD.xl
      ·rw [UE.mp hm]
       rw [if_pos rfl];exact λz=>OD.xy z.symm
    | false =>
     rw [cX,cY] at k
     rw [UW,cX,if_pos (by decide),UW,cY,if_pos (by decide),V4] at q1
     refine ⟨_,rfl,D,_,rfl,.inl (bf.of q1),rfl,_,rfl,?_⟩
     refine BW (λ_=>?_) λh=>absurd (show ((2:Int)=2) from rfl) h
     refine ⟨Ob,λen hen=>?_⟩
     have np:en≠L.ad (.aH j):=λz=>by rw [z,g4] at hen;cases hen
     refine ⟨_,rfl,L.ad (.aH j),a.ay,dd,_,rfl,by rw [ak np.symm];exact g4,T.aA,T.dC,by show 9 < 1000;decide,?_⟩
     obtain ⟨F3,S3⟩:=y4 (v:=some (.wrong true true)) (xs:=[.int 1,.int 3]) F2 hj hen g4 rfl
     have Dd:D≠L.ad (.aH j):=aV q1 g4 (by intro z;cases z)
     have q3:upd (upd H2 en (.tup [.int 1,.int 3])) (L.ad (.aH j)) (.ins a.ay dd (a6 (Str.ofString "ended") (.ref en) (vA (L.dt j) d.lo (L.da j) d.hi d.asked (L.ad (.bM j)) d.questions d.lost (L.de j)))) D=some (.lst (mf [d.x,d.y])):=by
      rw [ak Dd,ak (aF q1 hen)];exact q1
     generalize hH3:upd (upd H2 en (.tup [.int 1,.int 3])) (L.ad (.aH j)) (.ins a.ay dd (a6 (Str.ofString "ended") (.ref en) (vA (L.dt j) d.lo (L.da j) d.hi d.asked (L.ad (.bM j)) d.questions d.lost (L.de j))))=H3 at F3 S3 q3 ⊢
     generalize hL3:L.rm j (L.ad (.bM j)) (L.dt j) (L.da j) en=L3 at F3 S3
     have hx3:XY { A with disputes:=A.disputes.set j { d with verdict:=some (.wrong true true) } }:=hx.set hj rfl rfl
     have hj3:(A.disputes.set j { d with verdict:=some (.wrong true true) })[j]?=some { d with verdict:=some (.wrong true true) }:=VN jl
     obtain ⟨da3,g5⟩:=F3.af
     rw [S3.af] at g5
     have nl:¬ ∃ r,Lv { A with disputes:=A.disputes.set j { d with verdict:=some (.wrong true true) } } r/\D=L3.ad r:=λ⟨r,hr,e⟩=>by
      rcases S3.old r hr with ⟨r0,h0,e0⟩ | h0
      ·obtain ⟨u,hu⟩:=F1.there h0
       rw [<- e0,<- e,hD] at hu
       cases hu
      ·rw [<- e,q1] at h0
       cases h0
     refine ⟨_,rfl,L.ad .af,da3,_,rfl,g5,rfl,_,rfl,bad,L3,_,D,[d.x,d.y],.dH,none,by rw [S3.af];rfl,F3,hx3,q3,nl,rfl,by simp [OD.xy],λm hm=>?_,λo e=>(by cases e),λH4 L4 S4 F4=>k H4 L4 ((Step.same (s1.trans q2)).trans (S3.trans S4)) F4⟩
     have hm:m=d.x∨m=d.y:=by simpa using hm
     rcases hm with rfl | rfl
     ·exact ⟨OD.xl,OD.xo⟩
     ·exact ⟨OD.yl,OD.yo⟩
end
def ff (A:Ux) (j:Nat):Ux:=if UJ (aN A j)=false then A else
 if UJ (UK A UQ (aN A j))=true then bD A j (UK A UQ (aN A j)) else Vr (bD A j (UK A UQ (aN A j))) (UK A UQ (aN A j))
theorem Gq (A:Ux) (j:Nat) (d e:UC):bD (bD A j d) j e=bD A j e:=by
 unfold bD
 simp
theorem OI {A:Ux} {j:Nat} {d:UC} (h:j < A.disputes.length):(bD A j d).disputes[j]?=some d:=VN h
theorem zZ {A:Ux} {j:Nat} {d:UC} (h:A.disputes[j]?=some d):bD A j d=A:=by
 unfold bD
 rw [Jc h]
theorem m5 {A:Ux} {f:Nat} {d:UC} (ho:UJ d=true) (h:d.hi=d.lo+1):UK A (f+1) d=qW A d:=by
 unfold UK
 rw [if_neg (by rw [ho];decide),if_pos (by omega)]
 rfl
theorem dS {A:Ux} {f:Nat} {d:UC} (ho:UJ d=true) (h:¬ d.hi<=d.lo+1) (hn:UD A d.x d.asked=none∨UD A d.y d.asked=none):UK A (f+1) d=d:=by
 unfold UK
 rw [if_neg (by rw [ho];decide),if_neg h]
 rcases hn with e | e
 ·rw [e]
 ·rw [e]
  cases UD A d.x d.asked<;>rfl
theorem rH {A:Ux} {f:Nat} {d:UC} {r s:UB} (ho:UJ d=true) (h:¬ d.hi<=d.lo+1) (hr:UD A d.x d.asked=some r) (hs:UD A d.y d.asked=some s) (hl:(cH d r s).lo < (cH d r s).hi) :
  UK A (f+1) d=UK A f (cT d r s):=by
 rw [UK]
 rw [if_neg (by rw [ho];decide),if_neg h,hr,hs]
 show UK A f (if (cH d r s).hi<=(cH d r s).lo+1 then cH d r s else asks (cH d r s))=_
 unfold cT
 by_cases c:(cH d r s).hi=(cH d r s).lo+1
 ·rw [if_pos c,if_pos (by omega)]
 ·rw [if_neg c,if_neg (by omega)]
theorem qt {A:Ux} {i t:Nat} {r:UB} (h:UD A i t=some r):∃ x∈A.heard,x.says=r:=by
 unfold UD at h
 cases e:A.heard.find? (λh=>h.host == i&&h.turn == t) with
 | none=>rw [e] at h;cases h
 | some x =>
  rw [e] at h
  exact ⟨x,WX e,Option.some.inj h⟩
theorem za {A:Ux} {d:UC} {r0 s0 r s:UB} {f:Nat} (O:M5 A d r0 s0) (ho:d.verdict=none) (h:¬ d.hi=d.lo+1) (hr:UD A d.x d.asked=some r) (hs:UD A d.y d.asked=some s) (hf:d.hi - d.lo<=2 ^ f) (f0:1<=f) :
  (cH d r s).lo < (cH d r s).hi/\(∃ r1 s1,M5 A (cT d r s) r1 s1)/\(cT d r s).verdict=none/\(cT d r s).hi - (cT d r s).lo<=2 ^ (f - 1)/\(cT d r s).hi - (cT d r s).lo < d.hi - d.lo/\((cT d r s).agreed=d.agreed∨(cT d r s).agreed=r)/\(cT d r s).x=d.x/\(cT d r s).y=d.y:=by
 have m:=O.mid h
 have lt:=O.lt
 have le:=O.le
 obtain ⟨g,rfl⟩:∃ g,f=g+1:=⟨f - 1,by omega⟩
 have p2:2 ^ (g+1)=2 * 2 ^ g:=by rw [Nat.pow_succ];omega
 have key:∀ e:UC,e=cH d r s->e.lo < e.hi->e.hi<=2000->(∃ r1 s1,UD A d.x e.hi=some r1/\UD A d.y e.hi=some s1/\r1≠s1)->e.x=d.x->e.y=d.y->e.verdict=none->e.hi - e.lo<=2 ^ g->e.hi - e.lo < d.hi - d.lo->(e.agreed=d.agreed∨e.agreed=r) ->
   (cH d r s).lo < (cH d r s).hi/\(∃ r1 s1,M5 A (cT d r s) r1 s1)/\(cT d r s).verdict=none/\(cT d r s).hi - (cT d r s).lo<=2 ^ g/\(cT d r s).hi - (cT d r s).lo < d.hi - d.lo/\((cT d r s).agreed=d.agreed∨(cT d r s).agreed=r)/\(cT d r s).x=d.x/\(cT d r s).y=d.y:=by
  intro e he e1 e2 ⟨r1,s1,h1,h2,h3⟩ e4 e5 e6 e7 e8 e9
  unfold cT
  rw [<- he]
  refine ⟨e1,?_⟩
  split
  ·rename_i c
   exact ⟨⟨r1,s1,by rw [e4];exact O.xl,by rw [e5];exact O.yl,by rw [e4,e5];exact O.xy,by rw [e4];exact O.xo,by rw [e5];exact O.yo,by rw [e4];exact h1,by rw [e5];exact h2,h3,e1,e2,λq=>absurd c q⟩,e6,e7,e8,e9,e4,e5⟩
  ·exact ⟨⟨r1,s1,(by show e.x < _;rw [e4];exact O.xl),(by show e.y < _;rw [e5];exact O.yl),(by show e.x≠e.y;rw [e4,e5];exact O.xy),(by show (Uz A e.x).out=false;rw [e4];exact O.xo),(by show (Uz A e.y).out=false;rw [e5];exact O.yo),(by show UD A e.x e.hi=_;rw [e4];exact h1),(by show UD A e.y e.hi=_;rw [e5];exact h2),h3,e1,e2,λ_=>rfl⟩,e6,e7,e8,e9,e4,e5⟩
 have hh:cH d r s=cH d r s:=rfl
 by_cases c:r=s
 ·have e:cH d r s={ d with lo:=d.asked,agreed:=r }:=by unfold cH;rw [if_pos c]
  refine key _ rfl ?_ ?_ ?_ ?_ ?_ ?_ ?_ ?_ ?_<;>rw [e]
  ·show d.asked < d.hi;omega
  ·exact le
  ·exact ⟨r0,s0,O.hx,O.hy,O.ne⟩
  ·exact ho
  ·show d.hi - d.asked<=2 ^ g;omega
  ·show d.hi - d.asked < d.hi - d.lo;omega
  ·exact .inr rfl
 ·have e:cH d r s={ d with hi:=d.asked }:=by unfold cH;rw [if_neg c]
  refine key _ rfl ?_ ?_ ?_ ?_ ?_ ?_ ?_ ?_ ?_<;>rw [e]
  ·show d.lo < d.asked;omega
  ·show d.asked<=2000;omega
  ·exact ⟨r,s,hr,hs,c⟩
  ·exact ho
  ·show d.asked - d.lo<=2 ^ g;omega
  ·show d.asked - d.lo < d.hi - d.lo;omega
  ·exact .inl rfl
section
variable {P:Program} {w:World} {K:Uy} {mg:Str->Option Value} {base:Heap} {a:bI}
def Cb (A:Ux) (n:Nat):Prop:=∀ x∈A.heard,ik A.program n x.says
def AM (K:Uy) (a:bI):Sp:=λvs H Q _=>∃ (bad:List Addr) (L:Lay) (A:Ux) (j n:Nat),vs=[.ref (L.ad .af),.ref (L.ad (.aH j))]/\aJ a bad H L A/\XY A/\Fi A n/\Cb A n/\j < A.disputes.length/\(UJ (aN A j)=true->(∃ r s,M5 A (aN A j) r s)/\ik A.program n (aN A j).agreed) /\
 ∀ (H':Hp) (L':Lay),Step H L A H' L' (ff A j)->aJ a bad H' L' (ff A j)->Q .dH H'
theorem uh (T:Txt K mg a):a8 P w K mg base eS 5 a.iF a.iQ ["self","dispute"] (AM K a):=by
 refine T.pL.ok oQ ?_ ?_
 ·rintro _ _ _ _ ⟨_,_,_,_,_,rfl,_⟩
  rfl
 ·rintro cdv A outer s H _ Q E hr ⟨bad,L,A,j,n,rfl,F,hx,OB,hS,jl,hO,k⟩
  refine ⟨_,(ao (EJ PassesOwn.never (bJ (b7 (pv 1) T.aA T.eI (i4 T) hr.lo T.eE .nil aG)) (ah (bj (bJ (b7 (pv 1) T.aA T.ck (iw T) hr.lo T.cg .nil aG)) (ah (bU (aK (pv 0) T.au T.oN (zG T) hr.lo T.nV .nil aG (aa (pv 1) aj)))
   (ao GQ)) aQ)
   (ah (aP (i:=2) oQ.nd rfl (Or.inl rfl) (aK (pv 0) T.au T.dU (fV T) hr.lo T.dR .nil aG (aa (aM (bR (K:=K)) (ai (K:=K) (pv 1) rfl) ax (λ_ _=>rfl)) (aa (ai (K:=K) (pv 1) rfl) aj))))
   (ah (aP (i:=3) oQ.nd rfl (Or.inl rfl) (aK (pv 0) T.au T.dU (fV T) hr.lo T.dR .nil aG (aa (aM (bR (K:=K)) (ai (K:=K) (pv 1) rfl) ax (λ_ _=>rfl)) (aa (ai (K:=K) (pv 1) rfl) aj))))
   (ah (bj (PW.pt (Gz (a9 uq (pv 2) ib (bo _)) (BM (a9 uq (pv 3) ib (bo _))))) (ao GQ) aQ)
   (ao (bU (aK (pv 1) T.aA T.qE (Cm T) hr.lo T.qy .nil aG (aa (pv 2) (aa (pv 3) aj))))))))))),?_⟩
  unfold ff at k
  cases ho:UJ (aN A j) with
  | false =>
   rw [if_pos ho] at k
   refine ⟨λ_ σ H'=>σ=[some (.ref (L.ad .af)),some (.ref (L.ad (.aH j))),none,none]/\az H H',⟨0,rfl,az.refl H⟩,?_⟩
   rintro m σ H1 ⟨rfl,s1⟩
   have D1:=(F.same s1).aH j _ (ba jl)
   obtain ⟨dd,g1⟩:=D1.ins
   refine ⟨_,rfl,L.ad (.aH j),dd,_,rfl,g1,rfl,L.ad (.aH j),_,_,_,_,aN A j,rfl,D1,λH2 s2=>⟨_,rfl,?_⟩⟩
   rw [ho]
   exact bu (k H2 L (Step.same (s1.trans s2)) (F.same (s1.trans s2)))
  | true =>
   rw [if_neg (by rw [ho];decide)] at k
   obtain ⟨⟨r0,s0,OD⟩,OG⟩:=hO ho
   have vn:(aN A j).verdict=none:=by
    have:(aN A j).verdict.isNone=true:=ho
    simpa using this
   generalize hW:UK A UQ (aN A j)=W at k
   refine ⟨λm σ H'=>∃ (x y:Option V) (L':Lay) (dc:UC) (f:Nat) (r s:UB),σ=[some (.ref (L.ad .af)),some (.ref (L.ad (.aH j))),x,y]/\Step H L A H' L' (bD A j dc)/\aJ a bad H' L' (bD A j dc)/\dc.verdict=none/\UK A (f+1) dc=W/\dc.hi - dc.lo<=2 ^ f/\M5 A dc r s/\ik A.program n dc.agreed/\m=dc.hi - dc.lo/\dc.x=(aN A j).x/\dc.y=(aN A j).y,⟨(aN A j).hi - (aN A j).lo,none,none,L,aN A j,29,r0,s0,rfl,?_,?_,vn,hW,?_,OD,OG,rfl,rfl,rfl⟩,?_⟩
   ·rw [zZ (ba jl)];exact Step.refl _ _ _
   ·rw [zZ (ba jl)];exact F
   ·have:=OD.le
    have e:(2:Nat) ^ 29=536870912:=by decide
    omega
   rintro m σ H1 ⟨x,y,L1,dc,f,r,s1,rfl,S1,F1,cv,cw,cf,OC,CG,rfl,cx,cy⟩
   have co:UJ dc=true:=by unfold UJ;rw [cv];rfl
   have jl1:j < (bD A j dc).disputes.length:=by show j < (A.disputes.set j dc).length;rw [Vb];exact jl
   have hj1:(bD A j dc).disputes[j]?=some dc:=OI jl
   have D1:=F1.aH j dc hj1
   rw [S1.aH j jl] at D1
   obtain ⟨dd,g1⟩:=D1.ins
   have hx1:XY (bD A j dc):=hx.set (ba jl) cx cy
   refine ⟨_,rfl,L.ad (.aH j),dd,_,rfl,g1,rfl,L.ad (.aH j),_,_,_,_,dc,rfl,D1,λH2 s2=>⟨_,rfl,?_⟩⟩
   rw [co]
   refine bc ⟨λσ' H'=>∃ m',m' < dc.hi - dc.lo/\∃ (x y:Option V) (L':Lay) (dc:UC) (f:Nat) (r s:UB),σ'=[some (.ref (L.ad .af)),some (.ref (L.ad (.aH j))),x,y]/\Step H L A H' L' (bD A j dc)/\aJ a bad H' L' (bD A j dc)/\dc.verdict=none/\UK A (f+1) dc=W/\dc.hi - dc.lo<=2 ^ f/\M5 A dc r s/\ik A.program n dc.agreed/\m'=dc.hi - dc.lo/\dc.x=(aN A j).x/\dc.y=(aN A j).y,λσ' H' h=>h,?_⟩
   have F2:=F1.same s2
   have S2:=S1.trans (Step.same s2)
   have g2:=s2 _ _ g1
   have D2:=F2.aH j dc hj1
   rw [S1.aH j jl] at D2
   obtain ⟨da,g3⟩:=F2.af
   rw [S1.af] at g3
   refine ⟨_,rfl,L.ad (.aH j),dd,_,rfl,g2,rfl,L.ad (.aH j),_,_,_,_,dc,rfl,D2,_,rfl,?_⟩
   by_cases c1:dc.hi=dc.lo+1
   ·rw [decide_eq_true c1]
    have eW:W=qW A dc:=by rw [<- cw,m5 co c1]
    have nW:¬ UJ W=true:=by rw [eW];exact λq=>U3 q
    rw [if_neg nW,eW] at k
    refine bc ⟨_,rfl,L.ad .af,da,_,rfl,g3,rfl,_,rfl,bad,L1,bD A j dc,j,n,dc,r,s1,by rw [S1.af,S1.aH j jl];rfl,F2,hx1,⟨OB.prog,OB.n6,OB.vM,OB.once⟩,hj1,⟨OC.xl,OC.yl,OC.xy,OC.xo,OC.yo,OC.hx,OC.hy,OC.ne,OC.lt,OC.le,OC.mid⟩,CG,λH3 L3 S3 F3=>?_⟩
    have e3:Vr (bD (bD A j dc) j (qW (bD A j dc) dc)) (qW (bD A j dc) dc)=Vr (bD A j (qW A dc)) (qW A dc):=by
     rw [Gq]
     rfl
    rw [e3] at S3 F3
    exact k H3 L3 (S2.trans S3) F3
   ·rw [decide_eq_false c1]
    refine bu ?_
    have c2:¬ dc.hi<=dc.lo+1:=by have:=OC.lt;omega
    refine ⟨_,rfl,L.ad .af,da,_,rfl,g3,rfl,_,rfl,L.ad (.aH j),a.ay,dd,_,_,rfl,g2,T.aA,T.aY,rfl,L1.dt j,_,0,_,rfl,rfl,D2.hosts.sq,at_of (j:=0) rfl rfl,_,rfl,L.ad (.aH j),a.ay,dd,_,_,rfl,g2,T.aA,T.bC,rfl,bad,L1,bD A j dc,dc.x,dc.asked,by rw [S1.af];rfl,F2,OC.xl,OB.once,λv1 hv1=>?_⟩
    refine ⟨_,rfl,L.ad .af,da,_,rfl,g3,rfl,_,rfl,L.ad (.aH j),a.ay,dd,_,_,rfl,g2,T.aA,T.aY,rfl,L1.dt j,_,1,_,rfl,rfl,D2.hosts.sq,at_of (j:=1) rfl rfl,_,rfl,L.ad (.aH j),a.ay,dd,_,_,rfl,g2,T.aA,T.bC,rfl,bad,L1,bD A j dc,dc.y,dc.asked,by rw [S1.af];rfl,F2,OC.yl,OB.once,λv2 hv2=>?_⟩
    have hv1:kX H2 v1 (UD A dc.x dc.asked):=hv1
    have hv2:kX H2 v2 (UD A dc.y dc.asked):=hv2
    have stop:(UD A dc.x dc.asked=none∨UD A dc.y dc.asked=none)->Q .dH H2:=λhn=>by
     have eW:W=dc:=by rw [<- cw,dS co c2 hn]
     rw [eW,if_pos co] at k
     exact k H2 L1 S2 F2
    refine ⟨_,rfl,rfl,_,rfl,?_⟩
    cases e1:UD A dc.x dc.asked with
    | none =>
     rw [e1] at hv1
     have hv1:v1=.dH:=hv1
     subst hv1
     exact bc (bc (stop (.inl e1)))
    | some r' =>
     rw [e1] at hv1
     obtain ⟨q1,rfl,hq1⟩:=hv1
     refine bu ⟨_,rfl,rfl,_,rfl,?_⟩
     cases e2:UD A dc.y dc.asked with
     | none =>
      rw [e2] at hv2
      have hv2:v2=.dH:=hv2
      subst hv2
      exact bc (stop (.inr e2))
     | some s' =>
      rw [e2] at hv2
      obtain ⟨q2,rfl,hq2⟩:=hv2
      refine bu ?_
      refine ⟨_,rfl,L.ad (.aH j),dd,_,rfl,g2,rfl,_,rfl,_,rfl,L.ad (.aH j),L1.ad (.bM j),L1.dt j,L1.da j,L1.de j,q1,q2,dc,r',s',rfl,D2,OC.xy,hq1,hq2,λH3 ask' ag' k3 ha D3=>?_⟩
      obtain ⟨g,rfl⟩:∃ g,f=g+1:=by
       cases f with
       | zero =>
        have:(2:Nat) ^ 0=1:=by decide
        omega
       | succ g=>exact ⟨g,rfl⟩
      obtain ⟨hlt,⟨r1,t1,OK⟩,hv,hf,hm,hag,hxx,hyy⟩:=za OC cv c1 e1 e2 cf (by omega)
      rw [<- S1.aH j jl] at D3 k3
      have k4:Keeps [L1.ad (.aH j),L1.ad (.bM j)] H2 H3:=k3.wide λx hx=>by rw [UE.mp hx];exact UZ ..
      have F3:=F2.rm hj1 k4 ha D3
      have S3:=S2.trans (Step.rm (dt:=L1.dt j) (da:=ag') (de:=L1.de j) (d':=cT dc r' s') hj1 k4 ha)
      have e3:({ bD A j dc with disputes:=(bD A j dc).disputes.set j (cT dc r' s') }:Ux)=bD A j (cT dc r' s'):=Gq A j dc _
      rw [e3] at F3 S3
      refine ⟨_,hm,_,_,_,cT dc r' s',g,r1,t1,rfl,S3,F3,hv,?_,hf,OK,?_,rfl,by rw [hxx];exact cx,by rw [hyy];exact cy⟩
      ·rw [<- cw,rH co c2 e1 e2 hlt]
      ·rcases hag with q | q
       ·rw [q];exact CG
       ·rw [q]
        obtain ⟨z,hz,ez⟩:=qt e1
        rw [<- ez]
        exact hS z hz
end
def cE (A:Ux) (i t:Nat) (s:UB):Ux:={ A with heard:={ host:=i,turn:=t,says:=s }::A.heard }
def aW (A:Ux) (k:Nat):Ux:=(List.range k).foldl ff A
def vS (A:Ux) (i t:Nat) (s:UB):Ux:=if (Uz A i).out=true∨A.found.isSome=true then A else match UD A i t with
 | some r=>if r=s then A else pj A i
 | none=>aW (cE A i t s) A.disputes.length
theorem eQ (A:Ux) (k:Nat):aW A (k+1)=ff (aW A k) k:=by
 unfold aW
 rw [WK,List.foldl_append]
 rfl
structure Good (A:Ux) (n:Nat):Prop where
 xy:XY A
 base:Fi A n
 cA:Cb A n
 Ik:∀ j,j < A.disputes.length->UJ (aN A j)=true->(∃ r s,M5 A (aN A j) r s)/\ik A.program n (aN A j).agreed
theorem E2 (A:Ux):(U6 A).disputes.length=A.disputes.length/\(U6 A).hosts.length=A.hosts.length:=by
 rw [kr]
 exact ⟨UA ..,rfl⟩
theorem IB (A:Ux) (d:UC):∃ B:Ux,Vr A d=U6 B/\B.disputes=A.disputes/\B.hosts.length=A.hosts.length:=by
 refine ⟨_,rfl,?_,?_⟩
 ·generalize We d=l
  generalize hL:l.length=k
  clear hL
  induction l generalizing A with
  | nil=>rfl
  | cons x r ih=>rw [List.foldl_cons,ih,kC]
 ·generalize We d=l
  generalize hL:l.length=k
  clear hL
  induction l generalizing A with
  | nil=>rfl
  | cons x r ih=>rw [List.foldl_cons,ih,sE]
theorem BB (A:Ux) (j:Nat):(ff A j).disputes.length=A.disputes.length:=by
 unfold ff
 split
 ·rfl
 ·split
  ·exact Vb ..
  ·obtain ⟨B,e1,e2,_⟩:=IB (bD A j (UK A UQ (aN A j))) (UK A UQ (aN A j))
   rw [e1,(E2 B).1,e2]
   exact Vb ..
theorem iM (A:Ux):∀ k,(aW A k).disputes.length=A.disputes.length
 | 0=>rfl
 | k+1=>by rw [eQ,BB,iM A k]
theorem ID (A:Ux) (i t:Nat) (s:UB):lV (cE A i t s) i=lV A i++[(t,s)]:=by
 unfold lV cE
 simp
theorem Ih (A:Ux) {i k:Nat} (t:Nat) (s:UB) (h:k≠i):lV (cE A i t s) k=lV A k:=by
 unfold lV cE
 have:(i == k)=false:=beq_eq_false_iff_ne.mpr λz=>h z.symm
 simp [this]
theorem Mm {β:Type} {g:List (Nat × β)} {t:Nat} {b:β} (h:yL g t=none):CO g t b=g++[(t,b)]:=by
 unfold CO
 rw [if_neg]
 intro q
 obtain ⟨p,hp,e⟩:=Ws.mp q
 unfold yL at h
 rw [Option.map_eq_none_iff,Wx] at h
 exact h p hp e
theorem Kd (A:Ux) (i:Nat):(lV A i).length<=A.heard.length:=by
 unfold lV
 rw [UA,List.length_reverse]
 exact VA ..
section
variable {P:Program} {w:World} {K:Uy} {mg:Str->Option Value} {base:Heap} {a:bI}
theorem aJ.Km {bad:List Addr} {H H':Hp} {L:Lay} {A:Ux} {i t:Nat} {s:UB} (F:aJ a bad H L A) (hi:i < A.hosts.length) (k:Keeps [L.ad (.pS i)] H H') (h:Hb H' (L.ad (.pS i)) (lV (cE A i t s) i)):aJ a bad H' L (cE A i t s):=by
 have hrs:∀ x∈[Role.pS i],Lv A x:=λx hx=>by rw [UE.mp hx];exact hi
 have k':Keeps ([Role.pS i].map L.ad) H H':=k
 refine ⟨F.inj,F.Rv hrs k' (by simp),F.runK hrs k' (by simp),F.M6,F.P4 hrs k',λi hi=>F.DZ hrs k' hi (by simp),λi hi=>⟨F.Cw hrs k' hi (by simp),(F.tell i hi).2⟩,λj hj=>?_,F.Q4 hrs k' (by simp) (by simp),F.QN hrs k' (by simp),
  λj d hj=>F.CP hrs k' hj (by simp) (by simp),F.OR,F.N7,F.FL⟩
 by_cases e:j=i
 ·rw [e];exact h
 ·rw [Ih A t s e]
  exact F.IC hrs k' hj (by simp [e])
theorem Step.Km {H H':Hp} {L:Lay} {A:Ux} {i t:Nat} {s:UB} (hi:i < A.hosts.length) (k:Keeps [L.ad (.pS i)] H H'):Step H L A H' L (cE A i t s) :=
 { Step.refl H L A with keep:=λb o e n=>k b o e λm=>n (.pS i) hi (UE.mp m) }
def DO (K:Uy) (a:bI):Sp:=λvs H Q _=>∃ (bad:List Addr) (L:Lay) (A:Ux) (i t n:Nat) (q:Addr) (s:UB),vs=[.ref (L.ad .af),.int (i:Int),.int (t:Int),.ref q]/\aJ a bad H L A/\XY A/\Once A.heard/\A.disputes.length<=1000/\A.heard.length<=1000/\i < A.hosts.length/\H q=some (.tup (Fq s)) /\
 ((Uz A i).out=false->A.found=none->UD A i t=none->∀ k,k<=A.disputes.length->Good (aW (cE A i t s) k) n) /\
 ∀ (H':Hp) (L':Lay),Step H L A H' L' (vS A i t s)->aJ a bad H' L' (vS A i t s)->Q .dH H'
theorem DX (T:Txt K mg a):a8 P w K mg base eS 6 a.me a.mm ["self","number","turn","state"] (DO K a):=by
 refine T.vb.ok nT ?_ ?_
 ·rintro _ _ _ _ ⟨_,_,_,_,_,_,_,_,rfl,_⟩
  rfl
 ·rintro cdv A outer s H _ Q E hr ⟨bad,L,A,i,t,n,q,s0,rfl,F,hx,ho,hm,hh,hi,hq,hG,k⟩
  refine ⟨_,(ah (aP (i:=4) nT.nd rfl (Or.inl rfl) (aM (aB (K:=K)) (ai (K:=K) (pv 0) rfl) (pv 1) (λ_ _=>rfl)))
   (ah (bj (PW.pt (Gz (bJ (ai (K:=K) (pv 4) rfl)) (BM (bJ (ai (K:=K) (pv 0) rfl))))) (ao GQ) aQ)
   (ah (aP (i:=5) nT.nd rfl (Or.inl rfl) (E8 (md hr) (ai (K:=K) (pv 4) rfl) (pv 2) ⟨rfl,rfl,rfl,rfl⟩))
   (ao (bj (a9 uq (pv 5) ib (bo _)) (ah (G8 (md hr) (ai (K:=K) (pv 4) rfl) (pv 2) (pv 3) rfl)
   (ao (JU PassesOwn.never rfl (kU (K:=K) (ai (K:=K) (pv 0) rfl)) (fq (i:=6) nT.nd rfl (Or.inl rfl)) (ao (bU (aK (pv 0) T.au T.lL (uh T) hr.lo T.lF .nil aG (aa (pv 6) aj))))))) (ao (bj (a9 (Lj (K:=K) hr.units) (pv 5) (pv 3) (bo _)) (ao (bU (aK (pv 0) T.au T.i6 (vw T) hr.lo T.i9 .nil aG (aa (pv 1) aj)))) aQ))))))),?_⟩
  have hz:=sizeLine_eq
  obtain ⟨da,g1⟩:=F.af
  obtain ⟨dh,g2⟩:=F.host i hi
  obtain ⟨kvs,g3,hD⟩:=F.pS i hi
  unfold vS at k
  refine ⟨_,rfl,L.ad .af,a.aw,da,_,_,rfl,g1,T.au,T.bw,rfl,_,rfl,L.hl,_,_,_,rfl,rfl,bf.of F.hl,at_of (j:=i) rfl (kP hi),?_⟩
  refine ⟨_,rfl,L.ad (.host i),a.bB,dh,_,_,rfl,g2,T.bP,T.mH,rfl,_,rfl,?_⟩
  cases c1:(Uz A i).out with
  | true =>
   rw [if_pos (.inl c1)] at k
   exact bc (bc (k H L (Step.refl _ _ _) F))
  | false =>
   refine bu ⟨_,rfl,L.ad .af,a.aw,da,_,_,rfl,g1,T.au,T.cF,rfl,_,rfl,?_⟩
   cases c2:A.found.isSome with
   | true =>
    rw [if_pos (.inr c2)] at k
    exact bc (k H L (Step.refl _ _ _) F)
   | false =>
    rw [if_neg (by rw [c1,c2];decide)] at k
    have fn:A.found=none:=by simpa using c2
    refine bu ?_
    refine ⟨_,rfl,L.ad (.host i),a.bB,dh,_,_,rfl,g2,T.bP,T.lK,rfl,L.ad (.pS i),rfl,.inl ⟨_,.inl g3⟩,_,rfl,_,mw.k (k:=Sum.inl (t:Int)) g3,?_⟩
    rcases hD.get t with ⟨w1,w2⟩ | ⟨r,v,w1,w2,p,rfl,w3⟩
    ·have c3:UD A i t=none:=by rw [<- y8 A i t ho];exact w1
     rw [c3] at k
     rw [w2]
     refine ⟨_,rfl,rfl,_,rfl,bc ?_⟩
     have k:∀ (H':Hp) (L':Lay),Step H L A H' L' (aW (cE A i t s0) A.disputes.length)->aJ a bad H' L' (aW (cE A i t s0) A.disputes.length)->Q V.dH H':=k
     have hG:=hG c1 fn c3
     refine ⟨_,rfl,_,rfl,L.ad (.host i),a.bB,dh,_,_,rfl,g2,T.bP,T.lK,rfl,_,rfl,L.ad (.pS i),_,rfl,Hz.k (k:=Sum.inl (t:Int)) g3 (by rw [hD.len];have:=Kd A i;omega),?_⟩
     have k1:Keeps [L.ad (.pS i)] H (upd H (L.ad (.pS i)) (.dK (putK kvs (Sum.inl (t:Int)) (.ref q)))):=Keeps.upd (UE.mpr rfl)
     generalize hH1:upd H (L.ad (.pS i)) (.dK (putK kvs (Sum.inl (t:Int)) (.ref q)))=H1 at k1 ⊢
     have tk:∀ b xs,H b=some (.tup xs)->H1 b=some (.tup xs):=λb xs e=>by rw [<- hH1,ak (aV e g3 (by intro z;cases z))];exact e
     have S0:Step H L A H1 L (cE A i t s0):=Step.Km hi k1
     have F0:aJ a bad H1 L (cE A i t s0):=by
      refine F.Km hi k1 ⟨_,by rw [<- hH1,ae],?_⟩
      have:=DR.put (t:=t) (DR.imp (λv r ⟨p,e,hp⟩=>(⟨p,e,tk _ _ hp⟩:T4 H1 v r)) hD) (show T4 H1 (.ref q) s0 from ⟨q,rfl,tk _ _ hq⟩)
      rw [Mm w1,<- ID A i t s0] at this
      exact this
     obtain ⟨d0,g4⟩:=F0.af
     refine ⟨_,rfl,L.ad .af,a.aw,d0,_,_,rfl,g4,T.au,T.bS,rfl,L.ad .dl,rfl,⟨_,bf.of F0.dl⟩,Ea (K:=K) (xs:=(List.range A.disputes.length).map λj=>V.ref (L.ad (.aH j))) (λm σ H'=>∃ (x:Option V) (L':Lay),σ=[some (.ref (L.ad .af)),some (.int (i:Int)),some (.int (t:Int)),some (.ref q),some (.ref (L.ad (.host i))),some .dH,x]/\Step H L A H' L' (aW (cE A i t s0) m)/\aJ a bad H' L' (aW (cE A i t s0) m)) ⟨none,L,rfl,S0,F0⟩ ?_ ?_ ?_⟩
     ·rintro m σ H2 _ ⟨x,L2,rfl,S,F2⟩
      have e:=F2.dl
      have e2:(aW (cE A i t s0) m).disputes.length=A.disputes.length:=iM _ m
      rw [S.dl,e2,VR (λj hj=>by rw [S.aH j (U8.mp hj)])] at e
      exact bf.of e
     ·rintro m x σ H2 hx2 ⟨x0,L2,rfl,S,F2⟩
      obtain ⟨ml,rfl⟩:=nS hx2
      obtain ⟨d2,g5⟩:=F2.af
      rw [S.af] at g5
      have G:=hG m (by omega)
      have e2:(aW (cE A i t s0) m).disputes.length=A.disputes.length:=iM _ m
      refine ⟨_,rfl,L.ad .af,d2,_,rfl,g5,rfl,_,rfl,bad,L2,aW (cE A i t s0) m,m,n,by rw [S.af,S.aH m ml];rfl,F2,G.xy,G.base,G.cA,by rw [e2];exact ml,G.Ik m (by rw [e2];exact ml),λH3 L3 S3 F3=>?_⟩
      rw [<- eQ] at S3 F3
      exact ⟨_,L3,rfl,S.trans S3,F3⟩
     ·rintro σ H2 ⟨x,L2,rfl,S,F2⟩
      rw [UA,Vi] at S F2
      exact k H2 L2 S F2
    ·have c3:UD A i t=some r:=by rw [<- y8 A i t ho];exact w1
     rw [c3] at k
     rw [w2]
     refine ⟨_,rfl,rfl,_,rfl,bu ?_⟩
     refine ⟨_,rfl,_,rfl,jv (stI r),jv (stI s0),pI (gc.of (by rw [w3,fN])),pI (gc.of (by rw [hq,fN])),shaped_ints _,shaped_ints _,_,rfl,?_⟩
     rw [sH,A4]
     have k:∀ (H':Hp) (L':Lay),Step H L A H' L' (if r=s0 then A else pj A i)->aJ a bad H' L' (if r=s0 then A else pj A i)->Q V.dH H':=k
     by_cases c4:r=s0
     ·rw [if_pos c4] at k
      rw [decide_eq_true c4]
      exact bu (k H L (Step.refl _ _ _) F)
     ·rw [if_neg c4] at k
      rw [decide_eq_false c4]
      exact bc ⟨_,rfl,L.ad .af,da,_,rfl,g1,rfl,_,rfl,bad,L,A,i,rfl,F,hx,hm,hi,c1,k⟩
end
section
variable {P:Program} {w:World} {K:Uy} {mg:Str->Option Value} {base:Heap} {a:bI}
theorem aJ.v5 {bad:List Addr} {H H':Hp} {L:Lay} {A:Ux} {ts:List Addr} (F:aJ a bad H L A) (k:RP (L.ad .ls) H H') (R:rX a H' L.r L.lo (L.ad .ls) L.os ts A.program A.begin_) (hl:ts.length<=2001) :
  aJ a bad H' { L with ts:=ts } A:=by
 have hrs:∀ x∈[Role.ls],Lv A x:=λx hx=>by rw [UE.mp hx];trivial
 have k':Keeps ([Role.ls].map L.ad) H H':=λb o e n=>k b o e λz=>n (by rw [z];exact UE.mpr rfl)
 exact ⟨F.inj,F.Rv hrs k' (by simp),R,hl,F.P4 hrs k',λi hi=>F.DZ hrs k' hi (by simp),λi hi=>⟨F.Cw hrs k' hi (by simp),(F.tell i hi).2⟩,λj hj=>F.IC hrs k' hj (by simp),F.Q4 hrs k' (by simp) (by simp),F.QN hrs k' (by simp),
  λj d hj=>F.CP hrs k' hj (by simp) (by simp),F.OR,F.N7,F.FL⟩
theorem Step.v5 {H H':Hp} {L:Lay} {A:Ux} {ts:List Addr} (k:RP (L.ad .ls) H H'):Step H L A H' { L with ts:=ts } A :=
 ⟨λb o e n=>k b o e (n .ls trivial),λr hr=>.inl ⟨r,hr,rfl⟩,rfl,rfl,UI _,λ_ _=>rfl,λ_=>rfl,rfl,rfl,rfl,rfl⟩
def Lay.Fu (L:Lay) (m:Nat) (p ask dt da de:Addr):Lay:={ L with ad:=λr=>if r=.aH m then p else if r=.bM m then ask else L.ad r,dt:=λi=>if i=m then dt else L.dt i,da:=λi=>if i=m then da else L.da i,de:=λi=>if i=m then de else L.de i }
theorem aJ.Fu {bad:List Addr} {H H':Hp} {L:Lay} {A:Ux} {p ask dt da de:Addr} {d:UC} (F:aJ a bad H L A) (k:Keeps [L.ad .dl] H H') (hp:H p=none) (ha:H ask=none) (pa:p≠ask)
  (hdl:H' (L.ad .dl)=some (.lst (((List.range A.disputes.length).map λj=>V.ref (L.ad (.aH j)))++[.ref p]))) (D:fZ a H' p ask dt da de d) :
  aJ a bad H' (L.Fu A.disputes.length p ask dt da de) { A with disputes:=A.disputes++[d] }/\Step H L A H' (L.Fu A.disputes.length p ask dt da de) { A with disputes:=A.disputes++[d] }:=by
 have hrs:∀ x∈[Role.dl],Lv A x:=λx hx=>by rw [UE.mp hx];trivial
 have k':Keeps ([Role.dl].map L.ad) H H':=k
 have ll:(A.disputes++[d]).length=A.disputes.length+1:=by simp
 have ad:∀ r,Lv A r->(L.Fu A.disputes.length p ask dt da de).ad r=L.ad r:=λr hr=>by
  show (if r=.aH A.disputes.length then p else if r=.bM A.disputes.length then ask else L.ad r)=L.ad r
  rw [if_neg (λe=>by rw [e] at hr;exact absurd (show A.disputes.length < A.disputes.length from hr) (Vz _)),if_neg (λe=>by rw [e] at hr;exact absurd (show A.disputes.length < A.disputes.length from hr) (Vz _))]
 have adp:(L.Fu A.disputes.length p ask dt da de).ad (.aH A.disputes.length)=p:=if_pos rfl
 have ada:(L.Fu A.disputes.length p ask dt da de).ad (.bM A.disputes.length)=ask:=by
  show (if Role.bM A.disputes.length=.aH A.disputes.length then p else if Role.bM A.disputes.length=.bM A.disputes.length then ask else _)=ask
  rw [if_neg (by intro z;cases z),if_pos rfl]
 have cs:∀ r,FD A.hosts.length (A.disputes++[d]).length r->r=.aH A.disputes.length∨r=.bM A.disputes.length∨Lv A r:=λr hr=>by
  rw [ll] at hr
  cases r with
  | aH j =>
   have hr:j < A.disputes.length+1:=hr
   by_cases e:j=A.disputes.length
   ·rw [e];exact .inl rfl
   ·exact .inr (.inr (show j < A.disputes.length by omega))
  | bM j =>
   have hr:j < A.disputes.length+1:=hr
   by_cases e:j=A.disputes.length
   ·rw [e];exact .inr (.inl rfl)
   ·exact .inr (.inr (show j < A.disputes.length by omega))
  | af=>exact .inr (.inr trivial)
  | ls=>exact .inr (.inr trivial)
  | op=>exact .inr (.inr trivial)
  | oa=>exact .inr (.inr trivial)
  | dl=>exact .inr (.inr trivial)
  | host i=>exact .inr (.inr hr)
  | tell i=>exact .inr (.inr hr)
  | pS i=>exact .inr (.inr hr)
 have nf:∀ r,Lv A r->L.ad r≠p/\L.ad r≠ask:=λr hr=>by
  obtain ⟨o,ho⟩:=F.there hr
  exact ⟨λe=>(by rw [e,hp] at ho;cases ho),λe=>(by rw [e,ha] at ho;cases ho)⟩
 refine ⟨⟨λr r' hr hr' e=>?_,?_,?_,F.M6,?_,λi hi=>?_,λi hi=>?_,λi hi=>?_,?_,?_,λi e he=>?_,?_,?_,F.FL⟩,⟨λb o e n=>k b o e λm=>n .dl trivial (UE.mp m),λr hr=>?_,ad .af trivial,rfl,by show A.disputes.length<=(A.disputes++[d]).length;omega,λj hj=>ad (.aH j) hj,λj=>?_,ad .dl trivial,ad .ls trivial,ad .op trivial,rfl⟩⟩
 ·rcases cs r hr with rfl | rfl | hr
  ·rcases cs r' hr' with rfl | rfl | hr'
   ·rfl
   ·rw [adp,ada] at e;exact absurd e pa
   ·rw [adp,ad _ hr'] at e;exact absurd e.symm (nf _ hr').1
  ·rcases cs r' hr' with rfl | rfl | hr'
   ·rw [adp,ada] at e;exact absurd e.symm pa
   ·rfl
   ·rw [ada,ad _ hr'] at e;exact absurd e.symm (nf _ hr').2
  ·rcases cs r' hr' with rfl | rfl | hr'
   ·rw [adp,ad _ hr] at e;exact absurd e (nf _ hr).1
   ·rw [ada,ad _ hr] at e;exact absurd e (nf _ hr).2
   ·rw [ad _ hr,ad _ hr'] at e;exact F.inj _ _ hr hr' e
 ·rw [ad .af trivial];exact F.Rv hrs k' (by simp)
 ·rw [ad .ls trivial];exact F.runK hrs k' (by simp)
 ·have:=F.P4 hrs k'
  rw [VR (λi hi=>by rw [<- ad (.host i) (U8.mp hi)])] at this
  exact this
 ·have hi:i < A.hosts.length:=hi
  rw [ad (.host i) hi,ad (.tell i) hi,ad (.pS i) hi]
  exact F.DZ hrs k' hi (by simp)
 ·have hi:i < A.hosts.length:=hi
  rw [ad (.tell i) hi,ad .ls trivial,ad .dl trivial]
  exact ⟨F.Cw hrs k' hi (by simp),(F.tell i hi).2⟩
 ·have hi:i < A.hosts.length:=hi
  rw [ad (.pS i) hi]
  exact F.IC hrs k' hi (by simp)
 ·rw [ad .op trivial,ad .oa trivial]
  exact F.Q4 hrs k' (by simp) (by simp)
 ·rw [ad .dl trivial,hdl]
  show _=some (HO.lst ((List.range (A.disputes++[d]).length).map _))
  rw [ll,WK,U1,VR (λj hj=>by rw [<- ad (.aH j) (U8.mp hj)])]
  show _=some (HO.lst (_++[V.ref ((L.Fu A.disputes.length p ask dt da de).ad (.aH A.disputes.length))]))
  rw [adp]
 ·have he:(A.disputes++[d])[i]?=some e:=he
  by_cases c:i < A.disputes.length
  ·rw [WB c] at he
   rw [ad (.aH i) c,ad (.bM i) c]
   show fZ a H' _ _ (if i=A.disputes.length then dt else L.dt i) (if i=A.disputes.length then da else L.da i) (if i=A.disputes.length then de else L.de i) e
   rw [if_neg (by omega),if_neg (by omega),if_neg (by omega)]
   exact F.CP hrs k' he (by simp) (by simp)
  ·have ci:i=A.disputes.length:=by
    have:=(U5.mp he).1
    rw [ll] at this
    omega
   subst ci
   rw [Wm (UI _),Wv] at he
   cases he
   rw [adp,ada]
   show fZ a H' _ _ (if A.disputes.length=A.disputes.length then dt else _) (if A.disputes.length=A.disputes.length then da else _) (if A.disputes.length=A.disputes.length then de else _) _
   rw [if_pos rfl,if_pos rfl,if_pos rfl]
   exact D
 ·rw [ad .ls trivial,ad .dl trivial];exact F.OR
 ·rw [ad .ls trivial,ad .dl trivial];exact F.N7
 ·rcases cs r hr with rfl | rfl | hr
  ·rw [adp];exact .inr hp
  ·rw [ada];exact .inr ha
  ·exact .inl ⟨r,hr,ad r hr⟩
 ·show (if Role.host j=.aH A.disputes.length then p else if Role.host j=.bM A.disputes.length then ask else L.ad (.host j))=L.ad (.host j)
  rw [if_neg (by intro z;cases z),if_neg (by intro z;cases z)]
theorem fZ.imp {H H':Hp} {p ask ht ag en:Addr} {d:UC} (D:fZ a H p ask ht ag en d) (f:∀ b o,H b=some o->(∀ xs,o≠.lst xs)->H' b=some o):fZ a H' p ask ht ag en d:=by
 obtain ⟨⟨dx,h1⟩,⟨ob,h2,h2'⟩,h3,h4,h5⟩:=D
 exact ⟨⟨dx,f _ _ h1 (by intro xs z;cases z)⟩,⟨ob,f _ _ h2 (by intro xs z;cases z),h2'⟩,f _ _ h3 (by intro xs z;cases z),f _ _ h4 (by intro xs z;cases z),f _ _ h5 (by intro xs z;cases z)⟩
def ig (A:Ux) (x y:Nat):Ux:={ A with disputes:=A.disputes++[newD (A.disputes.length+1) x y A.turns A.begin_] }
def vI (K:Uy) (a:bI):Sp:=λvs H Q _=>∃ (bad:List Addr) (L:Lay) (A:Ux) (x y n:Nat),vs=[.ref (L.ad .af),.int (x:Int),.int (y:Int)]/\aJ a bad H L A/\Fi A n/\x≠y/\1<=A.turns/\A.disputes.length<=1000/\Good (ig A x y) n /\
 ∀ (H':Hp) (L':Lay),Step H L A H' L' (ff (ig A x y) A.disputes.length)->aJ a bad H' L' (ff (ig A x y) A.disputes.length)->Q (.int ((A.disputes.length+1:Nat):Int)) H'
theorem vD (T:Txt K mg a):a8 P w K mg base eS 6 a.di a.cV ["self","first","second"] (vI K a):=by
 refine T.jd.ok mY ?_ ?_
 ·rintro _ _ _ _ ⟨_,_,_,_,_,_,rfl,_⟩
  rfl
 ·rintro cdv A outer s H _ Q E hr ⟨bad,L,A,x,y,n,rfl,F,OB,hxy,hT,hm,hG,k⟩
  refine ⟨_,(ah (aP (i:=3) mY.nd rfl (Or.inl rfl) (rl T.Cg (Dh T) hr.lo rfl T.cn T.sN .nil aG (aa (pv 1) (aa (pv 2) (aa (aK (ai (K:=K) (pv 0) rfl) T.mW T.ki (qH T) hr.lo T.kE .nil aG (aa ax aj)) (aa (ai (K:=K) (pv 0) rfl) aj))))))
   (ah (bU (Ae (K:=K) Wu PySem.F.slot_list_append PySem.F.type_list_append BO (ai (K:=K) (pv 0) rfl) (aa (pv 3) aj)))
   (ah (bU (aK (pv 0) T.au T.lL (uh T) hr.lo T.lF .nil aG (aa (pv 3) aj)))
   (ao (aE (aU (a7 (K:=K)) (by rfl) T.dO UU (aa (ai (K:=K) (pv 0) rfl) aj))))))),?_⟩
  have hz:=sizeLine_eq
  obtain ⟨da,g1⟩:=F.af
  obtain ⟨dr,g2⟩:=F.run.run
  refine ⟨_,rfl,_,rfl,_,rfl,L.ad .af,a.aw,da,_,_,rfl,g1,T.au,T.gM,rfl,L.r,dr,_,rfl,g2,rfl,L.r,L.lo,L.ad .ls,L.os,L.ts,A.program,A.begin_,n,0,rfl,F.run,OB.prog,OB.n6,OB.vM,by decide,F.M6,λH1 t1 ts1 b1 R1 l1 h1=>?_⟩
  have F1:=F.v5 b1 R1 l1
  have S1:Step H L A H1 { L with ts:=ts1 } A:=Step.v5 b1
  generalize hL1:({ L with ts:=ts1 }:Lay)=L1 at F1 S1
  obtain ⟨da1,g3⟩:=F1.af
  rw [S1.af] at g3
  refine ⟨_,rfl,L.ad .af,a.aw,da1,_,_,rfl,g3,T.au,T.fW,rfl,λp dp hp hdp npd=>?_⟩
  have tp:t1≠p:=aF h1 hp
  have tdp:t1≠dp:=aF h1 hdp
  refine ⟨p,dp,t1,x,y,A.turns,A.begin_,rfl,ae,by rw [ak tp,ak tdp];exact h1,hxy,hT,λH2 ask ht en k2 ha D=>⟨rfl,?_⟩⟩
  have s2:az H1 H2:=λb o e=>k2 b o (by rw [ak (aF e hp),ak (aF e hdp)];exact e) λm=>aF e hp (UE.mp m)
  have ap:ask≠p:=λz=>by rw [z,ae] at ha;cases ha
  have adp:ask≠dp:=λz=>by rw [z,ak npd,ae] at ha;cases ha
  have ha1:H1 ask=none:=by rw [ak ap,ak adp] at ha;exact ha
  have F2:=F1.same s2
  have g4:=s2 _ _ g3
  have edl:=F2.dl
  have e1:L1.ad .dl=L.ad .dl:=S1.dl
  rw [e1] at edl
  refine ⟨_,rfl,L.ad .af,a.aw,da1,_,_,rfl,g4,T.au,T.bS,rfl,.inl ⟨rfl,_,bf.of F2.dl⟩,_,rfl,L1.ad .dl,_,_,rfl,rfl,F2.dl,by rw [UA,Vi];omega,?_⟩
  have K3:Keeps [L1.ad .dl] H1 (upd H2 (L1.ad .dl) (.lst (((List.range A.disputes.length).map λj=>V.ref (L1.ad (.aH j)))++[.ref p]))):=λb o e nb=>by
   rw [ak (λz=>nb (by rw [z];exact UE.mpr rfl))]
   exact s2 _ _ e
  have D3:fZ a (upd H2 (L1.ad .dl) (.lst (((List.range A.disputes.length).map λj=>V.ref (L1.ad (.aH j)))++[.ref p]))) p ask ht t1 en (newD (A.disputes.length+1) x y A.turns A.begin_):=(D (A.disputes.length+1)).imp λb o e nl=>by
   rw [ak (λz=>by rw [z,F2.dl] at e;exact nl _ (Option.some.inj e).symm)]
   exact e
  obtain ⟨F3,S3⟩:=F1.Fu K3 hp ha1 (λz=>ap z.symm) ae D3
  generalize hH3:upd H2 (L1.ad .dl) (.lst (((List.range A.disputes.length).map λj=>V.ref (L1.ad (.aH j)))++[.ref p]))=H3 at F3 S3 ⊢
  have pd:(L1.Fu A.disputes.length p ask ht t1 en).ad (.aH A.disputes.length)=p:=if_pos rfl
  generalize hL3:L1.Fu A.disputes.length p ask ht t1 en=L3 at F3 S3 pd
  have F3:aJ a bad H3 L3 (ig A x y):=F3
  have S3:Step H1 L1 A H3 L3 (ig A x y):=S3
  have pl:(ig A x y).disputes.length=A.disputes.length+1:=by
   show (A.disputes++[_]).length=_
   rw [Vk]
   rfl
  obtain ⟨da3,g5⟩:=F3.af
  rw [S3.af,S1.af] at g5
  refine ⟨_,rfl,L.ad .af,da3,_,rfl,g5,rfl,_,rfl,bad,L3,ig A x y,A.disputes.length,n,by rw [S3.af,S1.af,pd];rfl,F3,hG.xy,hG.base,hG.cA,by rw [pl];omega,hG.Ik _ (by rw [pl];omega),λH4 L4 S4 F4=>?_⟩
  obtain ⟨da4,g6⟩:=F4.af
  rw [S4.af,S3.af,S1.af] at g6
  refine ⟨_,rfl,L.ad .af,a.aw,da4,_,_,rfl,g6,T.au,T.bS,rfl,L4.ad .dl,_,rfl,.inl (bf.of F4.dl),?_⟩
  rw [UA,Vi,BB,pl]
  exact k H4 L4 ((S1.trans S3).trans S4) F4
end
theorem pU (A:Ux):∀ (f:Nat) (d:UC),(UK A f d).no=d.no/\(UK A f d).x=d.x/\(UK A f d).y=d.y
 | 0,d=>⟨rfl,rfl,rfl⟩
 | f+1,d=>by
  rw [UK]
  split
  ·exact ⟨rfl,rfl,rfl⟩
  ·split
   ·exact ⟨rfl,rfl,rfl⟩
   ·split
    ·rename_i r s hr hs
     obtain ⟨h1,h2,h3⟩:=pU A f (if (if r=s then { d with lo:=d.asked,agreed:=r } else { d with hi:=d.asked }:UC).hi<=(if r=s then { d with lo:=d.asked,agreed:=r } else { d with hi:=d.asked }:UC).lo+1 then (if r=s then { d with lo:=d.asked,agreed:=r } else { d with hi:=d.asked }:UC) else asks (if r=s then { d with lo:=d.asked,agreed:=r } else { d with hi:=d.asked }:UC))
     have e:∀ (c:Prop) [Decidable c] (e:UC),(if c then e else asks e).no=e.no/\(if c then e else asks e).x=e.x/\(if c then e else asks e).y=e.y:=λc _ e=>by split<;>exact ⟨rfl,rfl,rfl⟩
     have e2:(if r=s then { d with lo:=d.asked,agreed:=r } else { d with hi:=d.asked }:UC).no=d.no/\(if r=s then { d with lo:=d.asked,agreed:=r } else { d with hi:=d.asked }:UC).x=d.x/\(if r=s then { d with lo:=d.asked,agreed:=r } else { d with hi:=d.asked }:UC).y=d.y:=by split<;>exact ⟨rfl,rfl,rfl⟩
     have e3:=e ((if r=s then { d with lo:=d.asked,agreed:=r } else { d with hi:=d.asked }:UC).hi<=(if r=s then { d with lo:=d.asked,agreed:=r } else { d with hi:=d.asked }:UC).lo+1) (if r=s then { d with lo:=d.asked,agreed:=r } else { d with hi:=d.asked }:UC)
     exact ⟨h1.trans (e3.1.trans e2.1),h2.trans (e3.2.1.trans e2.2.1),h3.trans (e3.2.2.trans e2.2.2)⟩
    ·exact ⟨rfl,rfl,rfl⟩
theorem Cf {d:UC} (h:UJ d=true):d.verdict=none:=by
 have:d.verdict.isNone=true:=h
 simpa using this
theorem D8 {A:Ux} {n:Nat} (hS:Cb A n):∀ (f:Nat) (d:UC) (r s:UB),M5 A d r s->d.verdict=none->ik A.program n d.agreed->UJ (UK A f d)=true ->
  (∃ r1 s1,M5 A (UK A f d) r1 s1)/\ik A.program n (UK A f d).agreed
 | 0,d,r,s,O,hv,hg,_=>⟨⟨r,s,O⟩,hg⟩
 | f+1,d,r,s,O,hv,hg,ho=>by
  have co:UJ d=true:=by unfold UJ;rw [hv];rfl
  by_cases c1:d.hi=d.lo+1
  ·rw [m5 co c1] at ho
   exact absurd ho (λq=>U3 q)
  ·have c2:¬ d.hi<=d.lo+1:=by have:=O.lt;omega
   cases e1:UD A d.x d.asked with
   | none=>rw [dS co c2 (.inl e1)];exact ⟨⟨r,s,O⟩,hg⟩
   | some r' =>
    cases e2:UD A d.y d.asked with
    | none=>rw [dS co c2 (.inr e2)];exact ⟨⟨r,s,O⟩,hg⟩
    | some s' =>
     have le:=O.le
     have p11:(2:Nat) ^ 11=2048:=by decide
     obtain ⟨hlt,⟨r1,t1,OK⟩,hv',hf,hm,hag,hxx,hyy⟩:=za (f:=11) O hv c1 e1 e2 (by omega) (by decide)
     rw [rH co c2 e1 e2 hlt] at ho ⊢
     refine D8 hS f _ r1 t1 OK hv' ?_ ho
     rcases hag with q | q
     ·rw [q];exact hg
     ·rw [q]
      obtain ⟨z,hz,ez⟩:=qt e1
      rw [<- ez]
      exact hS z hz
structure Uo (A:Ux) (d:UC) (r s:UB):Prop where
 hx:UD A d.x d.hi=some r
 hy:UD A d.y d.hi=some s
 ne:r≠s
 lt:d.lo < d.hi
 le:d.hi<=2000
 mid:d.hi≠d.lo+1->d.asked=(d.lo+d.hi) / 2
structure Pre (A:Ux) (n:Nat):Prop where
 xy:XY A
 base:Fi A n
 cA:Cb A n
 Ik:∀ j,j < A.disputes.length->UJ (aN A j)=true->(∃ r s,Uo A (aN A j) r s)/\ik A.program n (aN A j).agreed
theorem Good.pre {A:Ux} {n:Nat} (g:Good A n):Pre A n:=⟨g.xy,g.base,g.cA,λj hj ho=>by
 obtain ⟨⟨r,s,O⟩,h⟩:=g.Ik j hj ho
 exact ⟨⟨r,s,O.hx,O.hy,O.ne,O.lt,O.le,O.mid⟩,h⟩⟩
theorem v9 {A:Ux} {j i:Nat} {d:UC} (hj:j < A.disputes.length):aN (bD A j d) i=if i=j then d else aN A i:=by
 unfold aN bD
 rw [VE,VE]
 by_cases e:i=j
 ·subst e
  rw [if_pos rfl,VN hj]
  rfl
 ·rw [if_neg e,Wk (λz=>e z.symm)]
theorem Pre.closed {A:Ux} {n j:Nat} {e:UC} (p:Pre A n) (hj:j < A.disputes.length) (hc:UJ e=false) (ex:e.x=(aN A j).x) (ey:e.y=(aN A j).y):Pre (bD A j e) n:=by
 refine ⟨p.xy.set (ba hj) ex ey,⟨p.base.prog,p.base.n6,p.base.vM,p.base.once⟩,p.cA,λi hi ho=>?_⟩
 rw [v9 hj] at ho ⊢
 by_cases c:i=j
 ·rw [if_pos c,hc] at ho;cases ho
 ·rw [if_neg c] at ho ⊢
  have hi:i < A.disputes.length:=by
   have hi:i < (A.disputes.set j e).length:=hi
   rw [Vb] at hi
   exact hi
  obtain ⟨⟨r,s,O⟩,h⟩:=p.Ik i hi ho
  exact ⟨⟨r,s,O.hx,O.hy,O.ne,O.lt,O.le,O.mid⟩,h⟩
structure oq (A B:Ux):Prop where
 prog:B.program=A.program
 vM:B.begin_=A.begin_
 turns:B.turns=A.turns
 heard:B.heard=A.heard
 hosts:B.hosts.length=A.hosts.length
 aH:B.disputes=A.disputes
theorem oq.refl (A:Ux):oq A A:=⟨rfl,rfl,rfl,rfl,rfl,rfl⟩
theorem oq.out {A B:Ux} (h:oq A B) (i:Nat) (to:Option Nat):oq A (Vc B i to):=by
 have l:=sE B i to
 have f:=kC B i to
 refine ⟨?_,?_,?_,?_,l.trans h.hosts,?_⟩
 ·rw [f];exact h.prog
 ·rw [f];exact h.vM
 ·rw [f];exact h.turns
 ·rw [f];exact h.heard
 ·rw [f];exact h.aH
theorem oq.fold {A:Ux} {g:Nat->Option Nat}:∀ (l:List Nat) {B:Ux},oq A B->oq A (l.foldl (λa h=>Vc a h (g h)) B)
 | [],_,h=>h
 | x::r,_,h=>oq.fold r (h.out x (g x))
theorem CU (B:Ux) (d:UC):(cU B d).no=d.no/\(cU B d).x=d.x/\(cU B d).y=d.y:=by
 unfold cU
 split
 ·split
  ·exact ⟨rfl,rfl,rfl⟩
  ·split<;>exact ⟨rfl,rfl,rfl⟩
 ·exact ⟨rfl,rfl,rfl⟩
theorem Aw {B:Ux} {d:UC} (h:UJ (cU B d)=true):cU B d=d/\UJ d=true/\(Uz B d.x).out=false/\(Uz B d.y).out=false:=by
 unfold cU at h ⊢
 split at h
 ·rename_i o
  rw [if_pos o]
  split at h
  ·exact absurd h (λq=>U3 q)
  ·rename_i x
   rw [if_neg x]
   split at h
   ·exact absurd h (λq=>U3 q)
   ·rename_i y
    rw [if_neg y]
    exact ⟨rfl,o,by simpa using x,by simpa using y⟩
 ·rename_i o
  exact absurd h o
theorem gP {A B:Ux} (h:B.heard=A.heard) (i t:Nat):UD B i t=UD A i t:=by
 unfold UD
 rw [h]
theorem BI {A B:Ux} {n:Nat} (p:Pre A n) (l:oq A B):Good (U6 B) n:=by
 rw [kr]
 refine ⟨λd hd=>?_,⟨by show xq B.program;rw [l.prog];exact p.base.prog,p.base.n6,by show ik B.program n B.begin_;rw [l.prog,l.vM];exact p.base.vM,by show Once B.heard;rw [l.heard];exact p.base.once⟩,λx hx=>?_,λj hj ho=>?_⟩
 ·obtain ⟨e,he,rfl⟩:=UR.mp hd
  rw [l.aH] at he
  obtain ⟨h1,h2,h3⟩:=p.xy e he
  obtain ⟨_,k1,k2⟩:=CU B e
  show (cU B e).x < B.hosts.length/\(cU B e).y < B.hosts.length/\_
  rw [k1,k2,l.hosts]
  exact ⟨h1,h2,h3⟩
 ·have hx:x∈B.heard:=hx
  rw [l.heard] at hx
  show ik B.program n x.says
  rw [l.prog]
  exact p.cA x hx
 ·have hj:j < B.disputes.length:=by
   have hj:j < (B.disputes.map (cU B)).length:=hj
   rw [UA] at hj
   exact hj
  have e1:aN { B with disputes:=B.disputes.map (cU B) } j=cU B (aN A j):=by
   refine yO (A:={ B with disputes:=B.disputes.map (cU B) }) ?_
   show (B.disputes.map (cU B))[j]?=_
   have hj2:j < A.disputes.length:=by rw [<- l.aH];exact hj
   rw [Ve,l.aH,ba hj2]
   rfl
  rw [e1] at ho ⊢
  obtain ⟨e2,o,xo,yo⟩:=Aw ho
  rw [e2]
  have hj2:j < A.disputes.length:=by rw [<- l.aH];exact hj
  obtain ⟨⟨r,s,O⟩,hg⟩:=p.Ik j hj2 o
  obtain ⟨h1,h2,h3⟩:=p.xy _ (Vf (ba hj2))
  refine ⟨⟨r,s,?_,?_,h3,xo,yo,?_,?_,O.ne,O.lt,O.le,O.mid⟩,?_⟩
  ·show (aN A j).x < B.hosts.length;rw [l.hosts];exact h1
  ·show (aN A j).y < B.hosts.length;rw [l.hosts];exact h2
  ·exact (gP l.heard _ _).trans O.hx
  ·exact (gP l.heard _ _).trans O.hy
  ·show ik B.program n _;rw [l.prog];exact hg
theorem ME {A:Ux} {n j:Nat} (g:Good A n) (hj:j < A.disputes.length):Good (ff A j) n:=by
 unfold ff
 split
 ·exact g
 ·rename_i ho
  have ho:UJ (aN A j)=true:=by simpa using ho
  obtain ⟨⟨r,s,O⟩,hg⟩:=g.Ik j hj ho
  obtain ⟨k0,k1,k2⟩:=pU A UQ (aN A j)
  split
  ·rename_i hw
   have dz:=D8 g.cA UQ (aN A j) r s O (Cf ho) hg hw
   refine ⟨g.xy.set (ba hj) k1 k2,⟨g.base.prog,g.base.n6,g.base.vM,g.base.once⟩,g.cA,λi hi hi2=>?_⟩
   rw [v9 hj] at hi2 ⊢
   by_cases c:i=j
   ·rw [if_pos c]
    obtain ⟨⟨r1,s1,O1⟩,h1⟩:=dz
    exact ⟨⟨r1,s1,O1.xl,O1.yl,O1.xy,O1.xo,O1.yo,O1.hx,O1.hy,O1.ne,O1.lt,O1.le,O1.mid⟩,h1⟩
   ·rw [if_neg c] at hi2 ⊢
    have hi:i < A.disputes.length:=by
     have hi:i < (A.disputes.set j _).length:=hi
     rw [Vb] at hi
     exact hi
    obtain ⟨⟨r1,s1,O1⟩,h1⟩:=g.Ik i hi hi2
    exact ⟨⟨r1,s1,O1.xl,O1.yl,O1.xy,O1.xo,O1.yo,O1.hx,O1.hy,O1.ne,O1.lt,O1.le,O1.mid⟩,h1⟩
  ·rename_i hw
   have hw:UJ (UK A UQ (aN A j))=false:=by simpa using hw
   exact BI (g.pre.closed hj hw k1 k2) (oq.fold _ (oq.refl _))
theorem mL {A:Ux} {n:Nat} (g:Good A n):∀ k,k<=A.disputes.length->Good (aW A k) n
 | 0,_=>g
 | k+1,h=>by
  rw [eQ]
  exact ME (mL g k (by omega)) (by rw [iM];omega)
def Num (A:Ux):Prop:=∀ (j:Nat) (d:UC),A.disputes[j]?=some d->d.no=j+1
theorem Num.at {A:Ux} (h:Num A) {j:Nat} (hj:j < A.disputes.length):(aN A j).no=j+1:=h j _ (ba hj)
theorem Lm:∀ (l:List UC) (k j:Nat),(∀ (i:Nat) (d:UC),l[i]?=some d->d.no=i+k)->l.find? (λd=>d.no == j+k)=l[j]?
 | [],k,j,_=>by simp
 | d::r,k,j,h=>by
  have h0:d.no=0+k:=h 0 d rfl
  rw [Vg]
  cases j with
  | zero =>
   have:(d.no == 0+k)=true:=beq_iff_eq.mpr h0
   rw [this]
   rfl
  | succ j =>
   have:(d.no == j+1+k)=false:=beq_eq_false_iff_ne.mpr (by omega)
   rw [this]
   have ih:=Lm r (k+1) j (λi e he=>by have:=h (i+1) e (by simpa using he);omega)
   show r.find? (λd=>d.no == j+1+k)=_
   rw [show j+1+k=j+(k+1) by omega,ih]
   rfl
theorem lD {A:Ux} (h:Num A) (j:Nat):VY A (j+1)=A.disputes[j]?:=Lm A.disputes 1 j h
theorem NR:∀ (l:List UC) (k j:Nat) (e:UC),(∀ (i:Nat) (d:UC),l[i]?=some d->d.no=i+k)->e.no=j+k->l.map (λd=>if d.no=e.no then e else d)=l.set j e
 | [],k,j,e,_,_=>by simp
 | d::r,k,j,e,h,he=>by
  have h0:d.no=0+k:=h 0 d rfl
  have hr:∀ (i:Nat) (d':UC),r[i]?=some d'->d'.no=i+(k+1):=λi d' hd=>by have:=h (i+1) d' (by simpa using hd);omega
  rw [UT]
  cases j with
  | zero =>
   rw [if_pos (by omega),List.set_cons_zero]
   congr 1
   have:r.map (λd=>if d.no=e.no then e else d)=r.map id:=VR λd' hd=>by
    obtain ⟨i,hi⟩:=List.mem_iff_getElem?.mp hd
    have:=hr i d' hi
    rw [if_neg (by omega)]
    rfl
   rw [this,List.map_id]
  | succ j =>
   rw [if_neg (by omega),List.set_cons_succ,NR r (k+1) j e hr (by omega)]
theorem fw {A:Ux} (h:Num A) {j:Nat} {e:UC} (he:e.no=j+1):Vw A e=bD A j e:=by
 unfold Vw bD
 rw [NR A.disputes 1 j e h he]
theorem Num.set {A:Ux} (h:Num A) {j:Nat} {e:UC} (he:e.no=j+1):Num (bD A j e):=λi d hd=>by
 have hd:(A.disputes.set j e)[i]?=some d:=hd
 by_cases c:i=j
 ·subst c
  have hl:i < A.disputes.length:=by
   have:=(U5.mp hd).1
   rw [Vb] at this
   exact this
  rw [VN hl] at hd
  cases hd
  exact he
 ·rw [Wk (λz=>c z.symm)] at hd
  exact h i d hd
theorem Num.left {A B:Ux} (h:Num A) (l:oq A B):Num (U6 B):=λi d hd=>by
 rw [kr] at hd
 have hd:(B.disputes.map (cU B))[i]?=some d:=hd
 rw [Ve,l.aH] at hd
 cases q:A.disputes[i]? with
 | none=>rw [q] at hd;cases hd
 | some e =>
  rw [q] at hd
  have hd:=Option.some.inj hd
  rw [<- hd,(CU B e).1]
  exact h i e q
theorem Num.look {A:Ux} (h:Num A) {j:Nat} (hj:j < A.disputes.length):Num (ff A j):=by
 unfold ff
 have e:=(pU A UQ (aN A j)).1.trans (h.at hj)
 split
 ·exact h
 ·split
  ·exact h.set e
  ·exact (h.set e).left (oq.fold _ (oq.refl _))
theorem Num.aW {A:Ux} (h:Num A):∀ k,k<=A.disputes.length->Num (aW A k)
 | 0,_=>h
 | k+1,hk=>by
  rw [eQ]
  exact (Num.aW h k (by omega)).look (by rw [iM];omega)
theorem Qw {A:Ux} (h:Num A):(A.disputes.map λd=>d.no)=(List.range A.disputes.length).map (·+1):=by
 refine List.ext_getElem? λi=>?_
 rw [Ve,Ve]
 by_cases hi:i < A.disputes.length
 ·rw [Wt hi,ba hi]
  show some (aN A i).no=some (i+1)
  rw [h.at hi]
 ·rw [VT (by omega),VT (by rw [Vi];omega)]
  rfl
theorem uX {A:Ux} (h:Num A):Vbapaj.allWeighed A=aW A A.disputes.length:=by
 unfold Vbapaj.allWeighed
 rw [Qw h,List.foldl_map]
 have key:∀ k,k<=A.disputes.length->(List.range k).foldl (λ(a:Ux) (n:Nat)=>match VY a (n+1) with
   | none=>a
   | some d=>if UJ d=false then a else
    let e:=UK a UQ d
    let b:=Vw a e
    if UJ e=true then b else Vr b e) A=aW A k:=by
  intro k
  induction k with
  | zero=>intro _;rfl
  | succ k ih =>
   intro hk
   rw [WK,List.foldl_append,ih (by omega),eQ]
   have hn:=h.aW k (by omega)
   have hl:k < (aW A k).disputes.length:=by rw [iM];omega
   show (match VY (aW A k) (k+1) with
    | none=>aW A k
    | some d=>if UJ d=false then aW A k else
     if UJ (UK (aW A k) UQ d)=true then Vw (aW A k) (UK (aW A k) UQ d) else Vr (Vw (aW A k) (UK (aW A k) UQ d)) (UK (aW A k) UQ d))=ff (aW A k) k
   rw [lD hn,ba hl]
   unfold ff
   have e:=(pU (aW A k) UQ (aN (aW A k) k)).1.trans (hn.at hl)
   show (if UJ (aN (aW A k) k)=false then aW A k else if UJ (UK (aW A k) UQ (aN (aW A k) k))=true then Vw (aW A k) (UK (aW A k) UQ (aN (aW A k) k)) else Vr (Vw (aW A k) (UK (aW A k) UQ (aN (aW A k) k))) (UK (aW A k) UQ (aN (aW A k) k)))=_
   rw [fw hn e]
 exact key _ (UI _)
def Quiet (A:Ux) (k:Nat):Prop:=∀ j,j < k->UJ (aN A j)=true->UK A UQ (aN A j)=aN A j
theorem FG {A:Ux}:∀ (f:Nat) (d:UC) (r s:UB),M5 A d r s->d.verdict=none->d.hi - d.lo<=2 ^ f->UJ (UK A (f+1) d)=true ->
  ∀ g,UK A (g+1) (UK A (f+1) d)=UK A (f+1) d:=by
 intro f
 induction f with
 | zero =>
  intro d r s O hv hf ho g
  have co:UJ d=true:=by unfold UJ;rw [hv];rfl
  have lt:=O.lt
  have:(2:Nat) ^ 0=1:=by decide
  rw [m5 co (by omega)] at ho
  exact absurd ho (λq=>U3 q)
 | succ f ih =>
  intro d r s O hv hf ho g
  have co:UJ d=true:=by unfold UJ;rw [hv];rfl
  have lt:=O.lt
  by_cases c1:d.hi=d.lo+1
  ·rw [m5 co c1] at ho
   exact absurd ho (λq=>U3 q)
  ·have c2:¬ d.hi<=d.lo+1:=by omega
   cases e1:UD A d.x d.asked with
   | none =>
    rw [dS co c2 (.inl e1),dS co c2 (.inl e1)]
   | some r' =>
    cases e2:UD A d.y d.asked with
    | none =>
     rw [dS co c2 (.inr e2),dS co c2 (.inr e2)]
    | some s' =>
     obtain ⟨hlt,⟨r1,t1,OK⟩,hv',hf',hm,hag,hxx,hyy⟩:=za (f:=f+1) O hv c1 e1 e2 hf (by omega)
     rw [rH co c2 e1 e2 hlt] at ho ⊢
     exact ih _ r1 t1 OK hv' hf' ho g
theorem v8 {A B:Ux} (h1:B.heard=A.heard) (h2:B.program=A.program):∀ (f:Nat) (d:UC),UK B f d=UK A f d
 | 0,_=>rfl
 | f+1,d=>by
  rw [UK,UK,h2,gP h1,gP h1,gP h1,gP h1]
  split
  ·rfl
  ·split
   ·rfl
   ·split
    ·exact v8 h1 h2 f _
    ·rfl
theorem wC (A:Ux) (j:Nat):(ff A j).heard=A.heard/\(ff A j).program=A.program:=by
 unfold ff
 split
 ·exact ⟨rfl,rfl⟩
 ·split
  ·exact ⟨rfl,rfl⟩
  ·have l:=oq.fold (A:=bD A j (UK A UQ (aN A j))) (g:=λh=>if (We (UK A UQ (aN A j))).length=1 then some (if h=(UK A UQ (aN A j)).x then (UK A UQ (aN A j)).y else (UK A UQ (aN A j)).x) else none) (We (UK A UQ (aN A j))) (oq.refl _)
   exact ⟨l.heard,l.prog⟩
theorem IZ {A:Ux} {j i:Nat} (hj:j < A.disputes.length) (hi:i < A.disputes.length) (ho:UJ (aN (ff A j) i)=true):aN (ff A j) i=if i=j then UK A UQ (aN A j) else aN A i:=by
 unfold ff at ho ⊢
 split
 ·rename_i c
  rw [if_pos c] at ho
  by_cases e:i=j
  ·rw [e,c] at ho;cases ho
  ·rw [if_neg e]
 ·rename_i c
  rw [if_neg c] at ho
  split
  ·rw [v9 hj]
  ·rename_i c2
   rw [if_neg c2] at ho
   have l:=oq.fold (A:=bD A j (UK A UQ (aN A j))) (g:=λh=>if (We (UK A UQ (aN A j))).length=1 then some (if h=(UK A UQ (aN A j)).x then (UK A UQ (aN A j)).y else (UK A UQ (aN A j)).x) else none) (We (UK A UQ (aN A j))) (oq.refl _)
   generalize hB:(We (UK A UQ (aN A j))).foldl _ (bD A j (UK A UQ (aN A j)))=B at l
   have eJ:Vr (bD A j (UK A UQ (aN A j))) (UK A UQ (aN A j))=U6 B:=by rw [<- hB];rfl
   rw [eJ,kr] at ho ⊢
   have e1:aN { B with disputes:=B.disputes.map (cU B) } i=cU B (aN (bD A j (UK A UQ (aN A j))) i):=by
    refine yO (A:={ B with disputes:=B.disputes.map (cU B) }) ?_
    show (B.disputes.map (cU B))[i]?=_
    rw [Ve,l.aH,ba (by show i < (A.disputes.set j _).length;rw [Vb];exact hi)]
    rfl
   rw [e1] at ho ⊢
   rw [(Aw ho).1,v9 hj]
theorem Ir {A:Ux} {n:Nat} (g:Good A n):∀ k,k<=A.disputes.length->Quiet (aW A k) k
 | 0,_=>λj hj=>absurd hj (Vt j)
 | k+1,hk=>by
  have ih:=Ir g k (by omega)
  have G:=mL g k (by omega)
  have hl:k < (aW A k).disputes.length:=by rw [iM];omega
  rw [eQ]
  obtain ⟨h1,h2⟩:=wC (aW A k) k
  intro j hj ho
  have hj2:j < (aW A k).disputes.length:=by omega
  have e:=IZ hl hj2 ho
  rw [v8 h1 h2,e]
  by_cases c:j=k
  ·rw [if_pos c]
   rw [if_pos c] at e
   have hopen:UJ (aN (aW A k) k)=true:=by
    cases q:UJ (aN (aW A k) k) with
    | true=>rfl
    | false =>
     exfalso
     have:ff (aW A k) k=aW A k:=by unfold ff;rw [if_pos q]
     rw [this,c,q] at ho
     cases ho
   rw [e] at ho
   obtain ⟨⟨r,s,O⟩,_⟩:=G.Ik k hl hopen
   refine FG 29 _ r s O (Cf hopen) ?_ ho 29
   have:=O.le
   have e29:(2:Nat) ^ 29=536870912:=by decide
   omega
  ·rw [if_neg c] at e ⊢
   rw [e] at ho
   exact ih j (by omega) ho
theorem Ko {A:Ux} {j:Nat} (hj:j < A.disputes.length) (h:UJ (aN A j)=true->UK A UQ (aN A j)=aN A j):ff A j=A:=by
 unfold ff
 split
 ·rfl
 ·rename_i c
  have c:UJ (aN A j)=true:=by simpa using c
  rw [h c,if_pos c,zZ (ba hj)]
def F8 (A:Ux) (d:UC):Prop:=¬ d.hi<=d.lo+1/\(UD A d.x d.asked=none∨UD A d.y d.asked=none)
def wc (A:Ux) (k:Nat):Prop:=∀ j,j < k->UJ (aN A j)=true->F8 A (aN A j)
theorem wc.quiet {A:Ux} {k:Nat} (q:wc A k):Quiet A k:=λj hj ho=>by
 obtain ⟨h1,h2⟩:=q j hj ho
 exact dS ho h1 h2
theorem Fn {A:Ux}:∀ (f:Nat) (d:UC) (r s:UB),M5 A d r s->d.verdict=none->d.hi - d.lo<=2 ^ f->UJ (UK A (f+1) d)=true->F8 A (UK A (f+1) d):=by
 intro f
 induction f with
 | zero =>
  intro d r s O hv hf ho
  have co:UJ d=true:=by unfold UJ;rw [hv];rfl
  have lt:=O.lt
  have:(2:Nat) ^ 0=1:=by decide
  rw [m5 co (by omega)] at ho
  exact absurd ho (λq=>U3 q)
 | succ f ih =>
  intro d r s O hv hf ho
  have co:UJ d=true:=by unfold UJ;rw [hv];rfl
  have lt:=O.lt
  by_cases c1:d.hi=d.lo+1
  ·rw [m5 co c1] at ho
   exact absurd ho (λq=>U3 q)
  ·have c2:¬ d.hi<=d.lo+1:=by omega
   cases e1:UD A d.x d.asked with
   | none=>rw [dS co c2 (.inl e1)];exact ⟨c2,.inl e1⟩
   | some r' =>
    cases e2:UD A d.y d.asked with
    | none=>rw [dS co c2 (.inr e2)];exact ⟨c2,.inr e2⟩
    | some s' =>
     obtain ⟨hlt,⟨r1,t1,OK⟩,hv',hf',hm,hag,hxx,hyy⟩:=za (f:=f+1) O hv c1 e1 e2 hf (by omega)
     rw [rH co c2 e1 e2 hlt] at ho ⊢
     exact ih _ r1 t1 OK hv' hf' ho
theorem z5 {A B:Ux} {d:UC} (h:B.heard=A.heard) (s:F8 A d):F8 B d:=by
 unfold F8
 rw [gP h,gP h]
 exact s
theorem wB {A:Ux} {n:Nat} (g:Good A n):∀ k,k<=A.disputes.length->wc (aW A k) k
 | 0,_=>λj hj=>absurd hj (Vt j)
 | k+1,hk=>by
  have ih:=wB g k (by omega)
  have G:=mL g k (by omega)
  have hl:k < (aW A k).disputes.length:=by rw [iM];omega
  rw [eQ]
  obtain ⟨h1,h2⟩:=wC (aW A k) k
  intro j hj ho
  have hj2:j < (aW A k).disputes.length:=by omega
  have e:=IZ hl hj2 ho
  refine z5 h1 ?_
  rw [e] at ho ⊢
  by_cases c:j=k
  ·rw [if_pos c] at ho ⊢
   have hopen:UJ (aN (aW A k) k)=true:=by
    cases q:UJ (aN (aW A k) k) with
    | true=>rfl
    | false =>
     exfalso
     have h30:UK (aW A k) UQ (aN (aW A k) k)=aN (aW A k) k:=by
      show UK (aW A k) (29+1) _=_
      rw [UK,if_pos q]
     rw [h30,q] at ho
     cases ho
   obtain ⟨⟨r,s,O⟩,_⟩:=G.Ik k hl hopen
   refine Fn 29 _ r s O (Cf hopen) ?_ ho
   have:=O.le
   have e29:(2:Nat) ^ 29=536870912:=by decide
   omega
  ·rw [if_neg c] at ho ⊢
   exact ih j (by omega) ho
theorem Mb {A:Ux} (n:Nat):A.disputes.find? (λd=>UJ d&&Vd d n)=(j1 A n).head?.map (aN A):=by
 unfold j1
 rw [List.head?_filter]
 have e:A.disputes=(List.range A.disputes.length).map (aN A):=by
  refine List.ext_getElem? λi=>?_
  rw [Ve]
  by_cases hi:i < A.disputes.length
  ·rw [Wt hi,ba hi];rfl
  ·rw [VT (by omega),VT (by rw [Vi];omega)];rfl
 conv=>lhs;rw [e]
 rw [List.find?_map]
 rfl
theorem Eg {A:Ux} {d:UC} {n:Nat} (h:We d=[n]):Vr A d=U6 (outs A [n] (some (if n=d.x then d.y else d.x))):=by
 unfold Vr
 rw [h]
 rfl
theorem JM {A:Ux} {n j:Nat} (h:j∈j1 A n):j < A.disputes.length/\UJ (aN A j)=true/\Vd (aN A j) n=true:=by
 obtain ⟨h1,h2⟩:=VM.mp h
 rw [UN] at h2
 exact ⟨U8.mp h1,h2.1,h2.2⟩
theorem JD {A:Ux} (h:Num A) (i t:Nat) (s:UB):Vbapaj.hears A i t s=vS A i t s:=by
 unfold Vbapaj.hears vS
 split
 ·rfl
 ·cases e:UD A i t with
  | none=>exact uX (A:=cE A i t s) h
  | some r =>
   show (if r=s then A else _)=if r=s then A else pj A i
   split
   ·rfl
   ·rw [Mb]
    unfold pj
    cases q:j1 A i with
    | nil=>rfl
    | cons j l =>
     have hj:=(JM (A:=A) (n:=i) (j:=j) (by rw [q];exact UZ ..)).1
     show Vr (Vw A { aN A j with verdict:=some (.twice i) }) { aN A j with verdict:=some (.twice i) }=_
     rw [fw h (show ({ aN A j with verdict:=some (.twice i) }:UC).no=j+1 from h.at hj),Eg rfl]
     rfl
theorem GB {A:Ux} (h:Num A) {m n:Nat} (hm:m < A.disputes.length):Vr (Vw A { aN A m with verdict:=some (.silent n) }) { aN A m with verdict:=some (.silent n) }=oz A (m+1) n:=by
 rw [fw h (show ({ aN A m with verdict:=some (.silent n) }:UC).no=m+1 from h.at hm),Eg rfl]
 unfold oz
 rw [if_neg (show ¬ m+1=0 by omega),Nat.add_sub_cancel]
 rfl
theorem Jg {A:Ux} {x y j:Nat} (hj:j < A.disputes.length):aN (ig A x y) j=aN A j:=by
 refine yO (A:=ig A x y) ?_
 show (A.disputes++[_])[j]?=_
 rw [WB hj,ba hj]
theorem vK (A:Ux) (x y:Nat):(ig A x y).disputes.length=A.disputes.length+1:=by
 show (A.disputes++[_]).length=_
 rw [Vk]
 rfl
theorem Num.pair {A:Ux} (h:Num A) (x y:Nat):Num (ig A x y):=λi d hd=>by
 have hd:(A.disputes++[newD (A.disputes.length+1) x y A.turns A.begin_])[i]?=some d:=hd
 by_cases c:i < A.disputes.length
 ·rw [WB c] at hd
  exact h i d hd
 ·have ci:i=A.disputes.length:=by
   have:=(U5.mp hd).1
   rw [Vk] at this
   have:i < A.disputes.length+1:=this
   omega
  subst ci
  rw [Wm (UI _),Wv] at hd
  cases hd
  rfl
theorem GY {A:Ux} (h:Num A) (hq:Quiet A A.disputes.length) (x y:Nat):Vbapaj.allWeighed (ig A x y)=ff (ig A x y) A.disputes.length:=by
 rw [uX (h.pair x y),vK,eQ]
 congr 1
 have key:∀ k,k<=A.disputes.length->aW (ig A x y) k=ig A x y:=by
  intro k
  induction k with
  | zero=>intro _;rfl
  | succ k ih =>
   intro hk
   rw [eQ,ih (by omega)]
   refine Ko (by rw [vK];omega) λho=>?_
   rw [Jg (by omega)] at ho ⊢
   rw [v8 (A:=A) (B:=ig A x y) rfl rfl]
   exact hq k (by omega) ho
 exact key _ (UI _)
theorem Good.pair {A:Ux} {n x y:Nat} {r s:UB} (g:Good A n) (hx:x < A.hosts.length) (hy:y < A.hosts.length) (xy:x≠y) (xo:(Uz A x).out=false) (yo:(Uz A y).out=false) (hr:UD A x A.turns=some r) (hs:UD A y A.turns=some s) (ne:r≠s) (t1:1<=A.turns) (t2:A.turns<=2000) :
  Good (ig A x y) n:=by
 refine ⟨λd hd=>?_,⟨g.base.prog,g.base.n6,g.base.vM,g.base.once⟩,g.cA,λj hj ho=>?_⟩
 ·have hd:d∈A.disputes++[newD (A.disputes.length+1) x y A.turns A.begin_]:=hd
  rcases VW.mp hd with q | q
  ·exact g.xy d q
  ·rw [UE.mp q]
   exact ⟨hx,hy,xy⟩
 ·rw [vK] at hj
  by_cases c:j < A.disputes.length
  ·rw [Jg c] at ho ⊢
   obtain ⟨⟨r1,s1,O1⟩,h1⟩:=g.Ik j c ho
   exact ⟨⟨r1,s1,O1.xl,O1.yl,O1.xy,O1.xo,O1.yo,O1.hx,O1.hy,O1.ne,O1.lt,O1.le,O1.mid⟩,h1⟩
  ·have cj:j=A.disputes.length:=by omega
   have e:aN (ig A x y) j=newD (A.disputes.length+1) x y A.turns A.begin_:=by
    refine yO (A:=ig A x y) ?_
    show (A.disputes++[_])[j]?=_
    rw [cj,Wm (UI _),Wv]
    rfl
   rw [e]
   refine ⟨⟨r,s,hx,hy,xy,xo,yo,hr,hs,ne,t1,t2,λ_=>?_⟩,g.base.vM⟩
   show A.turns / 2=(0+A.turns) / 2
   rw [Wr]
theorem Jp (A:Ux) (x y:Nat):((j1 A x).any λj=>Vd (aN A j) y)=Wf A x y:=by
 unfold Wf j1
 rw [List.any_filter]
 have e:A.disputes=(List.range A.disputes.length).map (aN A):=by
  refine List.ext_getElem? λi=>?_
  rw [Ve]
  by_cases hi:i < A.disputes.length
  ·rw [Wt hi,ba hi];rfl
  ·rw [VT (by omega),VT (by rw [Vi];omega)];rfl
 conv=>rhs;rw [e]
 rw [V1]
 congr 1
 funext j
 simp only [Function.comp,Bool.and_assoc]
section
variable {P:Program} {w:World} {K:Uy} {mg:Str->Option Value} {base:Heap} {a:bI}
def Ax (prog:List UP) (b:UB) (T k n st:Nat):Ux:={ program:=prog,begin_:=b,turns:=T,mayLose:=k,hosts:=Wl n { bent:=[],stake:=st,out:=false },heard:=[],saidTo:=Wl n 0,lost:=0,disputes:=[],purse:=0,found:=none }
theorem BU {prog:List UP} {b:UB} {T k n st i:Nat} (hi:i < n):Uz (Ax prog b T k n st) i={ bent:=[],stake:=st,out:=false }:=by
 unfold Uz Ax
 rw [VE,List.getElem?_replicate,if_pos hi]
 rfl
structure Nf (a:bI) (H H':Hp) (f:Nat->Addr × Addr × Addr) (n st:Nat):Prop where
 is:∀ i,i < n->rM a H' (f i).1 (f i).2.1 (f i).2.2 st false/\H' (f i).2.1=some (.dK [])/\H' (f i).2.2=some (.dK [])
 free:∀ i,i < n->H (f i).1=none/\H (f i).2.1=none/\H (f i).2.2=none
 SY:∀ i j,i < n->j < n->(f i).1=(f j).1->i=j
 SE:∀ i j,i < n->j < n->(f i).2.1=(f j).2.1->i=j
 Sq:∀ i j,i < n->j < n->(f i).2.2=(f j).2.2->i=j
 Qs:∀ i j,i < n->j < n->(f i).2.1≠(f j).2.2
def TY:HO->Nat
 | .ins _ _ ((f,_)::_)=>if f="run" then 0 else if f="hosts" then 1 else if f="stake" then 2 else 9
 | .lst _=>3
 | .dK _=>4
 | _=>9
def EN:Role->Nat
 | .af=>0
 | .op=>1
 | .host _=>2
 | .ls=>3
 | .dl=>3
 | .aH _=>8
 | .bM _=>8
 | _=>4
def E6 (K:Uy) (a:bI):Sp:=λvs H Q _=>∃ (af dx r lo ls:Addr) (os ts:List Addr) (T k n st:Nat) (prog:List UP) (b:UB) (bad:List Addr),vs=[.ref af,.ref r,.int (T:Int),.int (k:Int),.int (n:Int),.int (st:Int)]/\H af=some (.ins a.aw dx [])/\rX a H r lo ls os ts prog b/\ts.length<=2001/\n<=1000/\¬ lo∈bad/\(∀ x∈bad,H x≠none) /\
 ∀ (H':Hp) (L:Lay),Keeps [af] H H'->L.ad .af=af->L.ad .ls=ls->(∀ r,Lv (Ax prog b T k n st) r->r=.af∨r=.ls∨H (L.ad r)=none)->L.r=r->aJ a bad H' L (Ax prog b T k n st)->Q .dH H'
theorem DQ (T:Txt K mg a):a8 P w K mg base eS 4 a.l7 a.l5 ["self","run","turns","k","n","stake"] (E6 K a):=by
 refine T.vm.ok sM ?_ ?_
 ·rintro _ _ _ _ ⟨_,_,_,_,_,_,_,_,_,_,_,_,_,_,rfl,_⟩
  rfl
 ·rintro cdv A outer s H _ Q E hr ⟨af,dx,r,lo,ls,os,ts,T0,k0,n,st,prog,b,bad,rfl,hp,R,htl,hn,hlo,hbad,k⟩
  refine ⟨_,(ah (aS (K:=K) (pv 0) (pv 1) rfl)
   (ah (aS (K:=K) (pv 0) (pv 2) rfl)
   (ah (aS (K:=K) (pv 0) (pv 3) rfl)
   (ah (aS (K:=K) (pv 0) (wX rfl sM.nd (FV rfl T.DL (aa (pv 4) aj)) (fc (own:=[("number",6)]) (by show w8 ["self","run","turns","k","n","stake","number"] (aq pW) _ _=true;decide +kernel)) (λ_ _ _ _ _=>fq (i:=6) sM.nd rfl (Or.inl rfl)) (λ_ _ _ _ _=>oy) (λ_ _ _ _ _=>(rl T.J4 (He T) hr.lo rfl T.qA T.xD .nil aG (aa (pv 5) aj)))) rfl)
   (ah (aS (K:=K) (pv 0) (rl T.BC (Dj T) hr.lo rfl T.ly T.sD .nil aG (aa (pv 2) (aa (pv 4) aj))) rfl)
   (ah (aS (K:=K) (pv 0) (aT aj) rfl)
   (ah (aS (K:=K) (pv 0) ax rfl)
   (ao (aS (K:=K) (pv 0) Fo rfl))))))))),?_⟩
  have hz:=sizeLine_eq
  refine ⟨_,rfl,_,rfl,af,a.aw,dx,_,rfl,hp,T.au,T.gM,by show 0 < 1000;decide,?_⟩
  refine ⟨_,rfl,_,rfl,af,a.aw,dx,_,rfl,ae,T.au,T.fW,by show 1 < 1000;decide,?_⟩
  refine ⟨_,rfl,_,rfl,af,a.aw,dx,_,rfl,ae,T.au,T.eK,by show 2 < 1000;decide,?_⟩
  rw [b9,b9]
  have K1:Keeps [af] H (upd H af (.ins a.aw dx (a6 (Str.ofString "losses_allowed") (.int (k0:Int)) (a6 (Str.ofString "turns") (.int (T0:Int)) (a6 (Str.ofString "run") (.ref r) []))))):=Keeps.upd (UE.mpr rfl)
  have a1:upd H af (.ins a.aw dx (a6 (Str.ofString "losses_allowed") (.int (k0:Int)) (a6 (Str.ofString "turns") (.int (T0:Int)) (a6 (Str.ofString "run") (.ref r) [])))) af=some (.ins a.aw dx (a6 (Str.ofString "losses_allowed") (.int (k0:Int)) (a6 (Str.ofString "turns") (.int (T0:Int)) (a6 (Str.ofString "run") (.ref r) [])))):=ae
  generalize hH1:upd H af (.ins a.aw dx (a6 (Str.ofString "losses_allowed") (.int (k0:Int)) (a6 (Str.ofString "turns") (.int (T0:Int)) (a6 (Str.ofString "run") (.ref r) []))))=H1 at K1 a1 ⊢
  refine ⟨_,rfl,(n:Int),rfl,by omega,by omega,λD hD=>Je (lo:=0) (n:=n) (λi H2=>∃ f,H2 D=some (.lst ((List.range i).map λj=>V.ref (f j).1))/\Nf a H1 H2 f i st/\az H1 H2) ⟨λ_=>(0,0,0),ae,⟨λi hi=>absurd hi (Vt _),λi hi=>absurd hi (Vt _),λi j hi=>absurd hi (Vt _),λi j hi=>absurd hi (Vt _),λi j hi=>absurd hi (Vt _),λi j hi=>absurd hi (Vt _)⟩,az.laid hD⟩ ?_ ?_⟩
  ·rintro i H3 hi ⟨f,q1,N,s3⟩
   refine ⟨rfl,DT ⟨_,rfl,λp dp hp3 hdp npd=>⟨p,dp,st,rfl,ae,λH4 t h k4 ht hh nth his e1 e2=>⟨rfl,(List.range i).map λj=>V.ref (f j).1,?_,?_,λj=>if j=i then (p,t,h) else f j,?_,?_,?_⟩⟩⟩⟩
   all_goals
    have s4:az H3 H4:=λb o e=>k4 b o (by rw [ak (aF e hp3),ak (aF e hdp)];exact e) λm=>aF e hp3 (UE.mp m)
   ·exact s4 _ _ q1
   ·rw [UA,Vi];omega
   ·have e5:(List.range i).map (λj=>V.ref (if j=i then (p,t,h) else f j).1)=(List.range i).map λj=>V.ref (f j).1:=VR λj hj=>by rw [if_neg (U7 (U8.mp hj))]
    rw [ae,WK,U1]
    show some (HO.lst (_++[V.ref p]))=some (HO.lst ((List.range i).map (λj=>V.ref (if j=i then (p,t,h) else f j).1)++[V.ref (if i=i then (p,t,h) else f i).1]))
    rw [e5,if_pos rfl]
   ·have tp:t≠p:=λz=>by rw [z,ae] at ht;cases ht
    have td:t≠dp:=λz=>by rw [z,ak npd,ae] at ht;cases ht
    have hp':h≠p:=λz=>by rw [z,ae] at hh;cases hh
    have hd':h≠dp:=λz=>by rw [z,ak npd,ae] at hh;cases hh
    have t3:H3 t=none:=by rw [ak tp,ak td] at ht;exact ht
    have h3:H3 h=none:=by rw [ak hp',ak hd'] at hh;exact hh
    have kD:∀ (o:HO) (b:Addr) (u:HO),H4 b=some u->(∀ xs,u≠.lst xs)->upd H4 D o b=some u:=λo b u e nl=>by
     rw [ak (λz=>by rw [z,s4 _ _ q1] at e;exact nl _ (Option.some.inj e).symm)]
     exact e
    have sm:∀ j,j < i->(∃ o,H3 (f j).1=some o)/\(∃ o,H3 (f j).2.1=some o)/\∃ o,H3 (f j).2.2=some o:=λj hj=>by
     obtain ⟨⟨d,w1⟩,w2,w3⟩:=N.is j hj
     exact ⟨⟨_,w1⟩,⟨_,w2⟩,⟨_,w3⟩⟩
    have ne1:∀ {j x},j < i->H3 x=none->(f j).1≠x:=λhj hx z=>by obtain ⟨⟨o,w⟩,_⟩:=sm _ hj;rw [z,hx] at w;cases w
    have ne2:∀ {j x},j < i->H3 x=none->(f j).2.1≠x:=λhj hx z=>by obtain ⟨_,⟨o,w⟩,_⟩:=sm _ hj;rw [z,hx] at w;cases w
    have ne3:∀ {j x},j < i->H3 x=none->(f j).2.2≠x:=λhj hx z=>by obtain ⟨_,_,⟨o,w⟩⟩:=sm _ hj;rw [z,hx] at w;cases w
    have f0:(if i=i then (p,t,h) else f i)=(p,t,h):=if_pos rfl
    have fj:∀ {j},j < i->(if j=i then (p,t,h) else f j)=f j:=λhj=>if_neg (U7 hj)
    have cs:∀ {j},j < i+1->j < i∨j=i:=λhj=>by omega
    refine ⟨λj hj=>?_,λj hj=>?_,λj l hj hl e=>?_,λj l hj hl e=>?_,λj l hj hl e=>?_,λj l hj hl e=>?_⟩
    ·rcases cs hj with hj | rfl
     ·simp only [fj hj]
      obtain ⟨⟨d,w1⟩,w2,w3⟩:=N.is j hj
      exact ⟨⟨d,kD _ _ _ (s4 _ _ w1) (by intro xs z;cases z)⟩,kD _ _ _ (s4 _ _ w2) (by intro xs z;cases z),kD _ _ _ (s4 _ _ w3) (by intro xs z;cases z)⟩
     ·simp only [f0]
      obtain ⟨d,w1⟩:=his
      exact ⟨⟨d,kD _ _ _ w1 (by intro xs z;cases z)⟩,kD _ _ _ e1 (by intro xs z;cases z),kD _ _ _ e2 (by intro xs z;cases z)⟩
    ·rcases cs hj with hj | rfl
     ·simp only [fj hj];exact N.free j hj
     ·simp only [f0];exact ⟨s3.free hp3,s3.free t3,s3.free h3⟩
    ·rcases cs hj with hj | rfl<;>rcases cs hl with hl | rfl
     ·simp only [fj hj,fj hl] at e;exact N.SY j l hj hl e
     ·simp only [fj hj,f0] at e;exact absurd e (ne1 hj hp3)
     ·simp only [fj hl,f0] at e;exact absurd e.symm (ne1 hl hp3)
     ·rfl
    ·rcases cs hj with hj | rfl<;>rcases cs hl with hl | rfl
     ·simp only [fj hj,fj hl] at e;exact N.SE j l hj hl e
     ·simp only [fj hj,f0] at e;exact absurd e (ne2 hj t3)
     ·simp only [fj hl,f0] at e;exact absurd e.symm (ne2 hl t3)
     ·rfl
    ·rcases cs hj with hj | rfl<;>rcases cs hl with hl | rfl
     ·simp only [fj hj,fj hl] at e;exact N.Sq j l hj hl e
     ·simp only [fj hj,f0] at e;exact absurd e (ne3 hj h3)
     ·simp only [fj hl,f0] at e;exact absurd e.symm (ne3 hl h3)
     ·rfl
    ·rcases cs hj with hj | rfl<;>rcases cs hl with hl | rfl
     ·simp only [fj hj,fj hl] at e;exact N.Qs j l hj hl e
     ·simp only [fj hj,f0] at e;exact absurd e (ne2 hj h3)
     ·simp only [fj hl,f0] at e;exact absurd e.symm (ne3 hl t3)
     ·simp only [f0] at e;exact nth e
   ·exact cS (s3.trans s4) hD
  ·rintro H2 ⟨f,q1,N,s2⟩
   have a2:=s2 _ _ a1
   have aD:af≠D:=aV a2 q1 (by intro z;cases z)
   refine ⟨_,rfl,af,a.aw,dx,_,rfl,a2,T.au,T.bw,by show 3 < 1000;decide,?_⟩
   have K3:∀ o,Keeps [af] H2 (upd H2 af o):=λo=>Keeps.upd (UE.mpr rfl)
   have a3:∀ o,upd H2 af o af=some o:=λo=>ae
   generalize hH3:upd H2 af _=H3
   have K3:Keeps [af] H2 H3:=by rw [<- hH3];exact K3 _
   have a3:=a3 (.ins a.aw dx (a6 (Str.ofString "hosts") (.ref D) (a6 (Str.ofString "losses_allowed") (.int (k0:Int)) (a6 (Str.ofString "turns") (.int (T0:Int)) (a6 (Str.ofString "run") (.ref r) [])))))
   rw [hH3] at a3
   refine ⟨_,rfl,_,rfl,λop dop hop hdop nop=>⟨op,dop,T0,n,rfl,ae,hn,λH4 oa ot k4 ha O=>⟨rfl,?_⟩⟩⟩
   have s4:az H3 H4:=λb o e=>k4 b o (by rw [ak (aF e hop),ak (aF e hdop)];exact e) λm=>aF e hop (UE.mp m)
   have a4:=s4 _ _ a3
   have oaop:oa≠op:=λz=>by rw [z,ae] at ha;cases ha
   have oadp:oa≠dop:=λz=>by rw [z,ak nop,ae] at ha;cases ha
   have ha3:H3 oa=none:=by rw [ak oaop,ak oadp] at ha;exact ha
   refine ⟨_,rfl,af,a.aw,dx,_,rfl,a4,T.au,T.lq,by show 4 < 1000;decide,?_⟩
   refine ⟨U9 _,λdl hdl=>?_⟩
   have dla:dl≠af:=λz=>by rw [z,ae] at hdl;cases hdl
   have hdl4:H4 dl=none:=by rw [ak dla] at hdl;exact hdl
   refine ⟨_,rfl,af,a.aw,dx,_,rfl,by rw [ak dla.symm];exact ae,T.au,T.bS,by show 5 < 1000;decide,?_⟩
   refine ⟨_,rfl,af,a.aw,dx,_,rfl,ae,T.au,T.oR,by show 6 < 1000;decide,?_⟩
   refine ⟨_,rfl,af,a.aw,dx,_,rfl,ae,T.au,T.cF,by show 7 < 1000;decide,?_⟩
   rw [b9,b9]
   have F5:∀ (o1 o2 o3:HO) (b:Addr) (o:HO),H4 b=some o->b≠af->upd (upd (upd H4 af o1) dl o2) af o3 b=some o:=λo1 o2 o3 b o e nb=>by
    rw [ak nb,ak (aF e hdl4),ak nb];exact e
   have fin:∀ (b:Addr) (o:HO),H2 b=some o->b≠af->H4 b=some o:=λb o e nb=>s4 _ _ (K3 _ _ e λm=>nb (UE.mp m))
   have fin0:∀ (b:Addr) (o:HO),H b=some o->b≠af->H2 b=some o:=λb o e nb=>s2 _ _ (K1 _ _ e λm=>nb (UE.mp m))
   have G9:∀ (b:Addr) (o:HO),H4 b=some o->b≠af->upd (upd (upd H4 af (.ins a.aw dx (a6 (Str.ofString "opening") (V.ref op) (a6 (Str.ofString "hosts") (V.ref D) (a6 (Str.ofString "losses_allowed") (V.int (k0:Int)) (a6 (Str.ofString "turns") (V.int (T0:Int)) (a6 (Str.ofString "run") (V.ref r) []))))))) dl (.lst [])) af (.ins a.aw dx (a6 (Str.ofString "end_found") (V.bl false) (a6 (Str.ofString "purse") (V.int 0) (a6 (Str.ofString "disputes") (V.ref dl) (a6 (Str.ofString "opening") (V.ref op) (a6 (Str.ofString "hosts") (V.ref D) (a6 (Str.ofString "losses_allowed") (V.int (k0:Int)) (a6 (Str.ofString "turns") (V.int (T0:Int)) (a6 (Str.ofString "run") (V.ref r) []))))))))) b=some o:=F5 _ _ _
   have c_af:upd (upd (upd H4 af (.ins a.aw dx (a6 (Str.ofString "opening") (V.ref op) (a6 (Str.ofString "hosts") (V.ref D) (a6 (Str.ofString "losses_allowed") (V.int (k0:Int)) (a6 (Str.ofString "turns") (V.int (T0:Int)) (a6 (Str.ofString "run") (V.ref r) []))))))) dl (.lst [])) af (.ins a.aw dx (a6 (Str.ofString "end_found") (V.bl false) (a6 (Str.ofString "purse") (V.int 0) (a6 (Str.ofString "disputes") (V.ref dl) (a6 (Str.ofString "opening") (V.ref op) (a6 (Str.ofString "hosts") (V.ref D) (a6 (Str.ofString "losses_allowed") (V.int (k0:Int)) (a6 (Str.ofString "turns") (V.int (T0:Int)) (a6 (Str.ofString "run") (V.ref r) []))))))))) af=some (.ins a.aw dx [("run",.ref r),("turns",.int (T0:Int)),("losses_allowed",.int (k0:Int)),("hosts",.ref D),("opening",.ref op),("disputes",.ref dl),("purse",.int 0),("end_found",.bl false)]):=ae
   have c_dl:upd (upd (upd H4 af (.ins a.aw dx (a6 (Str.ofString "opening") (V.ref op) (a6 (Str.ofString "hosts") (V.ref D) (a6 (Str.ofString "losses_allowed") (V.int (k0:Int)) (a6 (Str.ofString "turns") (V.int (T0:Int)) (a6 (Str.ofString "run") (V.ref r) []))))))) dl (.lst [])) af (.ins a.aw dx (a6 (Str.ofString "end_found") (V.bl false) (a6 (Str.ofString "purse") (V.int 0) (a6 (Str.ofString "disputes") (V.ref dl) (a6 (Str.ofString "opening") (V.ref op) (a6 (Str.ofString "hosts") (V.ref D) (a6 (Str.ofString "losses_allowed") (V.int (k0:Int)) (a6 (Str.ofString "turns") (V.int (T0:Int)) (a6 (Str.ofString "run") (V.ref r) []))))))))) dl=some (.lst []):=by rw [ak dla,ae]
   show Q V.dH _
   generalize hH9:upd (upd (upd H4 af (.ins a.aw dx (a6 (Str.ofString "opening") (V.ref op) (a6 (Str.ofString "hosts") (V.ref D) (a6 (Str.ofString "losses_allowed") (V.int (k0:Int)) (a6 (Str.ofString "turns") (V.int (T0:Int)) (a6 (Str.ofString "run") (V.ref r) []))))))) dl (.lst [])) af (.ins a.aw dx (a6 (Str.ofString "end_found") (V.bl false) (a6 (Str.ofString "purse") (V.int 0) (a6 (Str.ofString "disputes") (V.ref dl) (a6 (Str.ofString "opening") (V.ref op) (a6 (Str.ofString "hosts") (V.ref D) (a6 (Str.ofString "losses_allowed") (V.int (k0:Int)) (a6 (Str.ofString "turns") (V.int (T0:Int)) (a6 (Str.ofString "run") (V.ref r) [])))))))))=H9 at G9 c_af c_dl ⊢
   have G0:∀ (b:Addr) (o:HO),H b=some o->b≠af->H9 b=some o:=λb o e nb=>G9 _ _ (fin _ _ (fin0 _ _ e nb) nb) nb
   have fr3:∀ x,H3 x=none->H x=none:=λx hx=>by
    cases q:H x with
    | none=>rfl
    | some o =>
     have nx:x≠af:=λz=>by rw [z,a3] at hx;cases hx
     rw [K3 _ _ (fin0 _ _ q nx) λm=>nx (UE.mp m)] at hx
     cases hx
   have fr1:∀ x,H1 x=none->H x=none:=λx hx=>by
    cases q:H x with
    | none=>rfl
    | some o =>
     have nx:x≠af:=λz=>by rw [z,a1] at hx;cases hx
     rw [K1 _ _ q λm=>nx (UE.mp m)] at hx
     cases hx
   have nl:∀ {b:Addr} {xs:List V},H b=some (.lst xs)->b≠af:=λe=>aV e hp (by intro z;cases z)
   have nt:∀ {b:Addr} {xs:List V},H b=some (.tup xs)->b≠af:=λe=>aV e hp (by intro z;cases z)
   have nh:∀ i,i < n->(f i).1≠af/\(f i).2.1≠af/\(f i).2.2≠af:=λi hi=>by
    obtain ⟨⟨d,w1⟩,w2,w3⟩:=N.is i hi
    exact ⟨kL w1 a2 (by decide),aV w2 a2 (by intro z;cases z),aV w3 a2 (by intro z;cases z)⟩
   obtain ⟨dopn,o1⟩:=O.ins
   obtain ⟨okvs,o3,o4⟩:=O.ask
   have opa:op≠af:=kL o1 a4 (by decide)
   have ota:ot≠af:=aV O.hosts a4 (by intro z;cases z)
   have oaa:oa≠af:=aV o3 a4 (by intro z;cases z)
   have Da:D≠af:=aD.symm
   have c_hl:=G9 _ _ (fin _ _ q1 Da) Da
   have c_ls:=G0 _ _ R.EY (nl R.EY)
   have c_op:=G9 _ _ o1 opa
   have c_oa:=G9 _ _ o3 oaa
   have c_h:∀ i,i < n->rM a H9 (f i).1 (f i).2.1 (f i).2.2 st false/\H9 (f i).2.1=some (.dK [])/\H9 (f i).2.2=some (.dK []):=λi hi=>by
    obtain ⟨⟨d,w1⟩,w2,w3⟩:=N.is i hi
    obtain ⟨m1,m2,m3⟩:=nh i hi
    exact ⟨⟨d,G9 _ _ (fin _ _ w1 m1) m1⟩,G9 _ _ (fin _ _ w2 m2) m2,G9 _ _ (fin _ _ w3 m3) m3⟩
   have ot1:∀ i,i < n->(f i).2.1≠oa/\(f i).2.2≠oa:=λi hi=>by
    obtain ⟨_,w2,w3⟩:=N.is i hi
    obtain ⟨_,m2,m3⟩:=nh i hi
    exact ⟨λz=>(by rw [<- z,K3 _ _ w2 λm=>m2 (UE.mp m)] at ha3;cases ha3),λz=>(by rw [<- z,K3 _ _ w3 λm=>m3 (UE.mp m)] at ha3;cases ha3)⟩
   have lsdl:ls≠dl:=λz=>by rw [<- z,fin _ _ (fin0 _ _ R.EY (nl R.EY)) (nl R.EY)] at hdl4;cases hdl4
   have lodl:lo≠dl:=λz=>by rw [<- z,fin _ _ (fin0 _ _ R.BX (nl R.BX)) (nl R.BX)] at hdl4;cases hdl4
   have Dls:D≠ls:=λz=>by rw [z,K1 _ _ R.EY λm=>nl R.EY (UE.mp m)] at hD;cases hD
   have Ddl:D≠dl:=λz=>by rw [<- z,fin _ _ q1 Da] at hdl4;cases hdl4
   have Db:¬ D∈bad:=λm=>hbad D m (fr1 D hD)
   have hln:(Ax prog b T0 k0 n st).hosts.length=n:=Wn ..
   let L:Lay:={ ad:=λx=>match x with | .af=>af | .ls=>ls | .op=>op | .oa=>oa | .dl=>dl | .host i=>(f i).1 | .tell i=>(f i).2.1 | .pS i=>(f i).2.2 | .aH _=>af | .bM _=>af,r:=r,lo:=lo,hl:=D,ot:=ot,os:=os,ts:=ts,dt:=λ_=>af,da:=λ_=>af,de:=λ_=>af,tl:=λ_=>[] }
   refine k H9 L (λb o e m=>G0 _ _ e λz=>m (by rw [z];exact UE.mpr rfl)) rfl rfl (λx hx=>?_) rfl ⟨λx y hx hy e=>?_,⟨dx,c_af⟩,?_,htl,?_,λi hi=>?_,λi hi=>?_,λi hi=>?_,?_,c_dl,λj d hj=>?_,?_,?_,?_⟩
   ·cases x with
    | af=>exact .inl rfl
    | ls=>exact .inr (.inl rfl)
    | op=>exact .inr (.inr (fr3 _ hop))
    | oa=>exact .inr (.inr (fr3 _ ha3))
    | dl=>exact .inr (.inr (fr3 _ (s4.free hdl4)))
    | host i=>exact .inr (.inr (fr1 _ (N.free i (by rw [<- hln];exact hx)).1))
    | tell i=>exact .inr (.inr (fr1 _ (N.free i (by rw [<- hln];exact hx)).2.1))
    | pS i=>exact .inr (.inr (fr1 _ (N.free i (by rw [<- hln];exact hx)).2.2))
    | aH j=>exact absurd (show j < 0 from hx) (Vt _)
    | bM j=>exact absurd (show j < 0 from hx) (Vt _)
   ·have tg:∀ x,Lv (Ax prog b T0 k0 n st) x->∃ o,H9 (L.ad x)=some o/\TY o=EN x:=λx hx=>by
     cases x with
     | af=>exact ⟨_,c_af,rfl⟩
     | ls=>exact ⟨_,c_ls,rfl⟩
     | op=>exact ⟨_,c_op,rfl⟩
     | oa=>exact ⟨_,c_oa,rfl⟩
     | dl=>exact ⟨_,c_dl,rfl⟩
     | host i=>obtain ⟨⟨d,w1⟩,_,_⟩:=c_h i (by rw [<- hln];exact hx);exact ⟨_,w1,rfl⟩
     | tell i=>exact ⟨_,(c_h i (by rw [<- hln];exact hx)).2.1,rfl⟩
     | pS i=>exact ⟨_,(c_h i (by rw [<- hln];exact hx)).2.2,rfl⟩
     | aH j=>exact absurd (show j < 0 from hx) (Vt _)
     | bM j=>exact absurd (show j < 0 from hx) (Vt _)
    obtain ⟨u1,w1,t1⟩:=tg x hx
    obtain ⟨u2,w2,t2⟩:=tg y hy
    have ht:EN x=EN y:=by
     rw [e,w2] at w1
     cases w1
     exact t1.symm.trans t2
    have lv:∀ {i:Nat},i < (Ax prog b T0 k0 n st).hosts.length->i < n:=λh=>by rw [<- hln];exact h
    cases x with
    | af=>cases y<;>first | rfl | (simp [EN] at ht;done)
    | op=>cases y<;>first | rfl | (simp [EN] at ht;done)
    | aH j=>exact absurd (show j < 0 from hx) (Vt _)
    | bM j=>exact absurd (show j < 0 from hx) (Vt _)
    | ls =>
     cases y with
     | ls=>rfl
     | dl=>exact absurd e lsdl
     | _=>simp [EN] at ht
    | dl =>
     cases y with
     | ls=>exact absurd e.symm lsdl
     | dl=>rfl
     | _=>simp [EN] at ht
    | host i =>
     cases y with
     | host j=>exact congrArg Role.host (N.SY i j (lv hx) (lv hy) e)
     | _=>simp [EN] at ht
    | oa =>
     cases y with
     | oa=>rfl
     | tell j=>exact absurd e.symm (ot1 j (lv hy)).1
     | pS j=>exact absurd e.symm (ot1 j (lv hy)).2
     | _=>simp [EN] at ht
    | tell i =>
     cases y with
     | oa=>exact absurd e (ot1 i (lv hx)).1
     | tell j=>exact congrArg Role.tell (N.SE i j (lv hx) (lv hy) e)
     | pS j=>exact absurd e (N.Qs i j (lv hx) (lv hy))
     | _=>simp [EN] at ht
    | pS i =>
     cases y with
     | oa=>exact absurd e (ot1 i (lv hx)).2
     | tell j=>exact absurd e.symm (N.Qs j i (lv hy) (lv hx))
     | pS j=>exact congrArg Role.pS (N.Sq i j (lv hx) (lv hy) e)
     | _=>simp [EN] at ht
   ·obtain ⟨⟨d,r1⟩,r2,r3,r4,r5,r6,r7,r8⟩:=R
    have ra:r≠af:=aV r1 hp (by intro z;injection z with _ _ z;cases z)
    exact ⟨⟨d,G0 _ _ r1 ra⟩,G0 _ _ r2 (nl r2),r3,λi q o hq ho=>G0 _ _ (r4 i q o hq ho) (nt (r4 i q o hq ho)),G0 _ _ r5 (nl r5),r6,r7,λi t ht=>G0 _ _ (r8 i t ht) (nt (r8 i t ht))⟩
   ·rw [hln];exact c_hl
   ·rw [hln] at hi
    rw [BU hi]
    exact (c_h i hi).1
   ·rw [hln] at hi
    rw [BU hi]
    exact ⟨⟨[],(c_h i hi).2.1,.nil⟩,TB.nil⟩
   ·rw [hln] at hi
    exact ⟨[],(c_h i hi).2.2,.nil⟩
   ·exact ⟨⟨dopn,c_op⟩,G9 _ _ O.hosts ota,okvs,c_oa,o4⟩
   ·have hj:([]:List UC)[j]?=some d:=hj
    simp at hj
   ·intro m
    rcases UL.mp m with e | m
    ·exact R.ne e
    ·rcases UL.mp m with e | m
     ·exact lodl e
     ·exact hlo m
   ·intro m
    rcases UL.mp m with e | m
    ·exact Dls e
    ·rcases UL.mp m with e | m
     ·exact Ddl e
     ·exact Db m
   ·rw [hln]
    exact Wn ..
end
section
variable {P:Program} {w:World} {K:Uy} {mg:Str->Option Value} {base:Heap} {a:bI}
def b0 (A:Ux) (z:Int):Bool:=decide (0<=z)&&decide (z < (A.hosts.length:Int))
def lW (A:Ux) (z:Int):Bool:=decide (0<=z)&&decide (z<=(A.turns:Int))
def lN (A:Ux) (z:Int):Bool:=decide (0<=z)&&decide (z<=(A.disputes.length:Int))
def rA (K:Uy) (a:bI):Sp:=λvs H Q _=>∃ (bad:List Addr) (L:Lay) (A:Ux) (i t:Int),vs=[.ref (L.ad .af),.int i,.int t]/\aJ a bad H L A/\Q (.bl (b0 A i&&lW A t)) H
theorem bT (T:Txt K mg a):a8 P w K mg base eS 2 a.bY a.bV ["self","number","turn"] (rA K a):=by
 refine T.fM.ok rn ?_ ?_
 ·rintro _ _ _ _ ⟨_,_,_,_,_,rfl,_⟩
  rfl
 ·rintro cdv A outer s H _ Q E hr ⟨bad,L,A,i,t,rfl,F,k⟩
  refine ⟨_,(ao (aE (BV (aK (pv 0) T.au T.dv (fO T) hr.lo T.cW .nil aG (aa (pv 1) aj)) (BK (aK (pv 0) T.au T.jY (rY T) hr.lo T.jU .nil aG (aa (pv 2) aj)))))),?_⟩
  obtain ⟨da,g1⟩:=F.af
  refine ⟨_,rfl,L.ad .af,da,_,rfl,g1,rfl,_,rfl,bad,L,A,i,rfl,F,_,rfl,?_⟩
  show if b0 A i=true then _ else _
  cases e:b0 A i with
  | false=>rw [e] at k;exact bu k
  | true =>
   rw [e,VU] at k
   exact bc ⟨_,rfl,L.ad .af,da,_,rfl,g1,rfl,_,rfl,bad,L,A,t,rfl,F,k⟩
def Af (K:Uy) (a:bI):Sp:=λvs H Q _=>∃ (bad:List Addr) (L:Lay) (A:Ux) (z:Int),vs=[.ref (L.ad .af),.int z]/\aJ a bad H L A/\Q (.bl (!decide (z=0)&&lN A z)) H
theorem sT (T:Txt K mg a):a8 P w K mg base eS 2 a.gN a.gJ ["self","number"] (Af K a):=by
 refine T.om.ok zW ?_ ?_
 ·rintro _ _ _ _ ⟨_,_,_,_,rfl,_⟩
  rfl
 ·rintro cdv A outer s H _ Q E hr ⟨bad,L,A,z,rfl,F,k⟩
  refine ⟨_,(ao (aE (BV (nU D6 (pv 1) ax (bo _)) (BK (aK (pv 0) T.au T.gw (oW T) hr.lo T.gQ .nil aG (aa (pv 1) aj)))))),?_⟩
  obtain ⟨da,g1⟩:=F.af
  refine ⟨_,rfl,rfl,_,rfl,?_⟩
  refine Fc (λe=>?_) λe=>?_
  ·rw [decide_eq_false e] at k
   exact ⟨_,rfl,L.ad .af,da,_,rfl,g1,rfl,_,rfl,bad,L,A,z,rfl,F,k⟩
  ·rw [decide_eq_true e] at k
   exact k
def B8 (A:Ux) (n:Nat):List Int:=(List.range n).map λi=>((lV A i).length:Int)
def uZ (K:Uy) (a:bI):Sp:=λvs H Q _=>∃ (bad:List Addr) (L:Lay) (A:Ux),vs=[.ref (L.ad .af)]/\aJ a bad H L A/\A.hosts.length<=1000 /\
 ∀ (H':Hp),az H H'->Q (.int (B8 A A.hosts.length).sum) H'
theorem uz (T:Txt K mg a):a8 P w K mg base eS 1 a.cM a.cO ["self"] (uZ K a):=by
 refine T.iC.ok hU ?_ ?_
 ·rintro _ _ _ _ ⟨_,_,_,rfl,_⟩
  rfl
 ·rintro cdv A outer s H _ Q E hr ⟨bad,L,A,rfl,F,hm,k⟩
  refine ⟨_,(ao (aE (aU (Lu (K:=K) rfl) (by rfl) T.Qh CM (aa (wX rfl hU.nd (kU (K:=K) (ai (K:=K) (pv 0) rfl)) (fc (own:=[("host",1)]) (by show w8 ["self","host"] (aq eM) _ _=true;decide +kernel)) (λ_ _ _ _ _=>fq (i:=1) hU.nd rfl (Or.inl rfl)) (λ_ _ _ _ _=>oy) (λ_ _ _ _ _=>(aU vC (by rfl) T.dO UU (aa (ai (K:=K) (pv 1) rfl) aj)))) aj)))),?_⟩
  have hz:=sizeLine_eq
  obtain ⟨da,g1⟩:=F.af
  refine ⟨_,rfl,L.ad .af,a.aw,da,_,_,rfl,g1,T.au,T.bw,rfl,L.hl,rfl,⟨_,bf.of F.hl⟩,λD hD=>tO (K:=K) (xs:=(List.range A.hosts.length).map λj=>V.ref (L.ad (.host j))) (λi H2=>H2 D=some (.lst (((List.range A.hosts.length).take i).map λi=>V.int ((lV A i).length:Int)))/\az H H2) ⟨ae,az.laid hD⟩ (λi H2 _ q=>bf.of (q.2 _ _ F.hl)) ?_ ?_⟩
  ·rintro i x H2 hx ⟨q1,q2⟩
   obtain ⟨hi,rfl⟩:=nS hx
   have F2:=F.same q2
   obtain ⟨dh,g2⟩:=F2.host i hi
   obtain ⟨kvs,g3,hD3⟩:=F2.pS i hi
   refine ⟨rfl,DT ⟨_,rfl,L.ad (.host i),a.bB,dh,_,_,rfl,g2,T.bP,T.lK,rfl,L.ad (.pS i),kvs,rfl,g3,_,q1,?_,?_,cS q2 hD⟩⟩
   ·rw [UA,Va,Vi];omega
   ·rw [ae,take_snoc (sW hi),U1,hD3.len]
    rfl
  ·rintro H2 ⟨q1,q2⟩
   rw [UA,VB] at q1
   refine ⟨D,B8 A A.hosts.length,rfl,bf.of (by rw [q1];unfold B8;rw [VG];rfl),?_⟩
   exact k H2 q2
end
theorem Md (A:Ux) (n:Nat) (h:∀ x∈A.heard,x.host < n):(B8 A n).sum=(A.heard.length:Int):=by
 unfold B8 lV
 have key:∀ l:List Vbapaj.Heard,(∀ x∈l,x.host < n)->((List.range n).map λi=>((((l.filter λh=>h.host == i).reverse).map λh=>(h.turn,h.says)).length:Int)).sum=(l.length:Int):=by
  intro l
  induction l with
  | nil =>
   intro _
   simp only [V4,List.reverse_nil,Wb,List.length_nil]
   have z:∀ m:Nat,((List.range m).map λ_=>((0:Nat):Int)).sum=0:=λm=>by
    induction m with
    | zero=>rfl
    | succ m ih=>rw [WK,U1,List.sum_append,ih];rfl
   exact z n
  | cons x r ih =>
   intro hl
   have ih:=ih λy hy=>hl y (U2 _ hy)
   have hx:=hl x (UZ ..)
   rw [U0]
   have st:∀ m:Nat,((List.range m).map λi=>(((((x::r).filter λh=>h.host == i).reverse).map λh=>(h.turn,h.says)).length:Int)).sum=((List.range m).map λi=>((((r.filter λh=>h.host == i).reverse).map λh=>(h.turn,h.says)).length:Int)).sum+(if x.host < m then 1 else 0):=λm=>by
    induction m with
    | zero=>rfl
    | succ m im =>
     rw [WK,U1,List.sum_append,im,U1,List.sum_append]
     by_cases e:x.host=m
     ·have e1:(x.host == m)=true:=beq_iff_eq.mpr e
      simp only [UT,Wb,V2,List.sum_nil,UW,e1,if_true,UA,List.length_reverse,U0]
      rw [if_neg (by omega),if_pos (by omega)]
      push_cast
      omega
     ·have e1:(x.host == m)=false:=beq_eq_false_iff_ne.mpr e
      simp only [UT,Wb,V2,List.sum_nil,UW,e1,Bool.false_eq_true,if_false,UA,List.length_reverse]
      by_cases c:x.host < m
      ·rw [if_pos c,if_pos (by omega)];omega
      ·rw [if_neg c,if_neg (by omega)];omega
   rw [st n,ih,if_pos hx]
   push_cast
   rfl
 exact key A.heard h
theorem Cv {A:Ux} {i t x h:Nat} {s:UB}:UD (cE A i t s) x h=if i=x/\t=h then some s else UD A x h:=by
 unfold UD cE
 rw [Vg]
 by_cases c:i=x/\t=h
 ·obtain ⟨rfl,rfl⟩:=c
  simp
 ·rw [if_neg c]
  have:(i == x&&t == h)=false:=by
   by_cases c1:i=x
   ·have c2:¬ t=h:=λq=>c ⟨c1,q⟩
    simp [c2]
   ·simp [c1]
  show Option.map _ (match (i == x&&t == h) with | true=>_ | false=>_)=_
  rw [this]
theorem OV {A:Ux} {i t:Nat} {s:UB} (ho:Once A.heard) (hn:UD A i t=none):Once (cE A i t s).heard:=by
 refine ⟨λk hk e=>?_,ho⟩
 unfold UD at hn
 rw [Option.map_eq_none_iff,Wx] at hn
 have:=hn k hk
 rw [show k.host=i from e.1,show k.turn=t from e.2] at this
 simp at this
theorem EG {A:Ux} {n i t:Nat} {s:UB} (g:Good A n) (hn:UD A i t=none) (hs:ik A.program n s):Good (cE A i t s) n:=by
 refine ⟨g.xy,⟨g.base.prog,g.base.n6,g.base.vM,OV g.base.once hn⟩,λx hx=>?_,λj hj ho=>?_⟩
 ·rcases UL.mp hx with rfl | hx
  ·exact hs
  ·exact g.cA x hx
 ·obtain ⟨⟨r,u,O⟩,h⟩:=g.Ik j hj ho
  have k1:UD (cE A i t s) (aN A j).x (aN A j).hi=some r:=by
   rw [Cv,if_neg,O.hx]
   rintro ⟨rfl,rfl⟩
   rw [O.hx] at hn
   cases hn
  have k2:UD (cE A i t s) (aN A j).y (aN A j).hi=some u:=by
   rw [Cv,if_neg,O.hy]
   rintro ⟨rfl,rfl⟩
   rw [O.hy] at hn
   cases hn
  exact ⟨⟨r,u,O.xl,O.yl,O.xy,O.xo,O.yo,k1,k2,O.ne,O.lt,O.le,O.mid⟩,h⟩
theorem M8 {B:Ux} {j:Nat} (hj:j < B.disputes.length):aN (U6 B) j=cU B (aN B j):=by
 rw [kr]
 refine yO (A:={ B with disputes:=B.disputes.map (cU B) }) ?_
 show (B.disputes.map (cU B))[j]?=_
 rw [Ve,ba hj]
 rfl
theorem E3 {A B:Ux} (q:wc A A.disputes.length) (l:oq A B):wc (U6 B) (U6 B).disputes.length:=λj hj ho=>by
 rw [(E2 B).1] at hj
 rw [M8 hj] at ho ⊢
 obtain ⟨e,o,_,_⟩:=Aw ho
 rw [e]
 have hj2:j < A.disputes.length:=by rw [<- l.aH];exact hj
 have eb:aN B j=aN A j:=by
  refine yO ?_
  rw [l.aH]
  exact ba hj2
 rw [eb] at o ⊢
 exact z5 (A:=A) (B:=U6 B) (by show B.heard=_;exact l.heard) (q j hj2 o)
theorem Mz {A:Ux} {j:Nat} {e:UC} (q:wc A A.disputes.length) (hj:j < A.disputes.length) (hc:UJ e=false):wc (bD A j e) (bD A j e).disputes.length:=λi hi ho=>by
 have hi:i < A.disputes.length:=by
  have hi:i < (A.disputes.set j e).length:=hi
  rw [Vb] at hi
  exact hi
 rw [v9 hj] at ho ⊢
 by_cases c:i=j
 ·rw [if_pos c,hc] at ho;cases ho
 ·rw [if_neg c] at ho ⊢
  exact z5 (A:=A) (B:=bD A j e) rfl (q i hi ho)
def lZ (A:Ux) (n:Nat):Prop:=∀ d∈A.disputes,ik A.program n d.agreed
theorem lZ.left {A:Ux} {n:Nat} (h:lZ A n):lZ (U6 A) n:=λd hd=>by
 rw [kr] at hd
 obtain ⟨e,he,rfl⟩:=UR.mp hd
 have:(cU A e).agreed=e.agreed:=by
  unfold cU
  split
  ·split
   ·rfl
   ·split<;>rfl
  ·rfl
 rw [this]
 exact h e he
theorem lZ.Rh {A B:Ux} {n:Nat} (h:lZ A n) (l:oq A B):lZ B n:=λd hd=>by
 rw [l.aH] at hd
 rw [l.prog]
 exact h d hd
theorem lZ.set {A:Ux} {n j:Nat} {e:UC} (h:lZ A n) (he:ik A.program n e.agreed):lZ (bD A j e) n:=λd hd=>by
 rcases List.mem_or_eq_of_mem_set hd with q | q
 ·exact h d q
 ·rw [q];exact he
theorem CY {A:Ux} {n:Nat} (hs:Cb A n):∀ (f:Nat) (d:UC),ik A.program n d.agreed->ik A.program n (UK A f d).agreed
 | 0,d,h=>h
 | f+1,d,h=>by
  unfold UK
  split
  ·exact h
  ·split
   ·exact h
   ·split
    ·rename_i r s hr _
     have key:∀ e:UC,ik A.program n e.agreed->ik A.program n (UK A f (if e.hi<=e.lo+1 then e else { e with asked:=(e.lo+e.hi) / 2,saidX:=0,saidY:=0,questions:=e.questions+1 })).agreed:=λe he=>by
      refine CY hs f _ ?_
      split
      ·exact he
      ·exact he
     refine key _ ?_
     split
     ·obtain ⟨x,hx,e⟩:=qt hr
      show ik A.program n r
      rw [<- e]
      exact hs x hx
     ·exact h
    ·exact h
theorem lZ.look {A:Ux} {n j:Nat} (h:lZ A n) (hs:Cb A n) (hj:j < A.disputes.length):lZ (ff A j) n:=by
 have hw:=CY hs UQ (aN A j) (h _ (Vf (ba hj)))
 have h1:lZ (bD A j (UK A UQ (aN A j))) n:=h.set hw
 unfold ff
 split
 ·exact h
 ·split
  ·exact h1
  ·unfold Vr
   exact (h1.Rh (oq.fold _ (oq.refl _))).left
theorem lZ.aW {A:Ux} {n:Nat} (h:lZ A n) (g:Good A n):∀ k,k<=A.disputes.length->lZ (aW A k) n
 | 0,_=>h
 | k+1,hk=>by
  rw [eQ]
  exact (lZ.aW h g k (by omega)).look (mL g k (by omega)).cA (by rw [iM];omega)
structure vT (A:Ux) (N:Nat):Prop where
 good:Good A A.begin_.nums.length
 num:Num A
 quiet:wc A A.disputes.length
 t1:1<=A.turns
 t2:A.turns<=2000
 h1:2<=A.hosts.length
 h2:A.hosts.length<=6
 FL:A.saidTo.length=A.hosts.length
 hb:∀ x∈A.heard,x.host < A.hosts.length
 bent:∀ i,i < A.hosts.length->(Uz A i).bent.length<=N/\∀ b∈(Uz A i).bent,∀ s,b.says=some s->ik A.program A.begin_.nums.length s
 hl:A.heard.length<=N
 dl:A.disputes.length<=N
 FF:lZ A A.begin_.nums.length
structure oX (A B:Ux):Prop where
 prog:B.program=A.program
 vM:B.begin_=A.begin_
 turns:B.turns=A.turns
 may:B.mayLose=A.mayLose
 hosts:B.hosts.length=A.hosts.length
 cA:B.saidTo=A.saidTo
 Jz:B.disputes.length=A.disputes.length
 bent:∀ i,i < A.hosts.length->(Uz B i).bent=(Uz A i).bent
theorem oX.refl (A:Ux):oX A A:=⟨rfl,rfl,rfl,rfl,rfl,rfl,rfl,λ_ _=>rfl⟩
theorem oX.trans {A B C:Ux} (k:oX A B) (l:oX B C):oX A C:=⟨l.prog.trans k.prog,l.vM.trans k.vM,l.turns.trans k.turns,l.may.trans k.may,l.hosts.trans k.hosts,l.cA.trans k.cA,l.Jz.trans k.Jz,λi hi=>(l.bent i (by rw [k.hosts];exact hi)).trans (k.bent i hi)⟩
theorem lb {A:Ux} {i j:Nat} {h:Vbapaj.Host} (hb:h.bent=(Uz A i).bent):(Uz (Vp A i h) j).bent=(Uz A j).bent:=by
 by_cases hi:i < A.hosts.length
 ·rw [j7 hi]
  split
  ·rename_i e;rw [e,hb]
  ·rfl
 ·have:Vp A i h=A:=by
   unfold Vp
   rw [List.set_eq_of_length_le (by omega)]
  rw [this]
theorem oX.out (A:Ux) (i:Nat) (to:Option Nat):oX A (Vc A i to):=by
 have f:=kC A i to
 refine ⟨by rw [f],by rw [f],by rw [f],by rw [f],sE A i to,by rw [f],by rw [f],λj _=>?_⟩
 unfold Vc
 simp only []
 split
 ·rfl
 ·cases to with
  | none =>
   show (Uz (Vp A i { Uz A i with out:=true,stake:=0 }) j).bent=_
   exact lb rfl
  | some o =>
   show (Uz (Vp (Vp A i { Uz A i with out:=true,stake:=0 }) o { Uz (Vp A i { Uz A i with out:=true,stake:=0 }) o with stake:=(Uz (Vp A i { Uz A i with out:=true,stake:=0 }) o).stake+(Uz A i).stake / 2 }) j).bent=_
   rw [lb (by rfl),lb (by rfl)]
theorem oX.fold {g:Nat->Option Nat}:∀ (l:List Nat) (A:Ux),oX A (l.foldl (λa h=>Vc a h (g h)) A)
 | [],A=>oX.refl A
 | x::r,A=>(oX.out A x (g x)).trans (oX.fold r _)
theorem oX.left (A:Ux):oX A (U6 A):=⟨rfl,rfl,rfl,rfl,rfl,rfl,(E2 A).1,λ_ _=>rfl⟩
theorem oX.set (A:Ux) (j:Nat) (e:UC):oX A (bD A j e):=⟨rfl,rfl,rfl,rfl,rfl,rfl,Vb ..,λ_ _=>rfl⟩
theorem oX.judged (A:Ux) (d:UC):oX A (Vr A d):=(oX.fold _ A).trans (oX.left _)
theorem oX.look (A:Ux) (j:Nat):oX A (ff A j):=by
 unfold ff
 split
 ·exact oX.refl A
 ·split
  ·exact oX.set ..
  ·exact (oX.set ..).trans (oX.judged ..)
theorem oX.aW (A:Ux):∀ k,oX A (aW A k)
 | 0=>oX.refl A
 | k+1=>by rw [eQ];exact (oX.aW A k).trans (oX.look _ k)
theorem vT.O4 {A B:Ux} {N:Nat} (o:vT A N) (k:oX A B) (g:Good B A.begin_.nums.length) (n:Num B) (q:wc B B.disputes.length) (h:B.heard=A.heard) (ag:lZ B A.begin_.nums.length):vT B N :=
 ⟨by rw [k.vM];exact g,n,q,by rw [k.turns];exact o.t1,by rw [k.turns];exact o.t2,by rw [k.hosts];exact o.h1,by rw [k.hosts];exact o.h2,by rw [k.cA,k.hosts];exact o.FL,λx hx=>by rw [h] at hx;rw [k.hosts];exact o.hb x hx,
  λi hi=>by rw [k.hosts] at hi;rw [k.bent i hi,k.prog,k.vM];exact o.bent i hi,by rw [h];exact o.hl,by rw [k.Jz];exact o.dl,by rw [k.vM];exact ag⟩
theorem vT.mono {A:Ux} {N M:Nat} (o:vT A N) (h:N<=M):vT A M :=
 ⟨o.good,o.num,o.quiet,o.t1,o.t2,o.h1,o.h2,o.FL,o.hb,λi hi=>⟨US (o.bent i hi).1 h,(o.bent i hi).2⟩,US o.hl h,US o.dl h,o.FF⟩
theorem Cz (A:Ux):∀ k,(aW A k).heard=A.heard
 | 0=>rfl
 | k+1=>by rw [eQ,(wC _ k).1,Cz A k]
theorem Gv {A:Ux} {N:Nat} (o:vT A N) (ns:List Nat) (to:Option Nat):vT (U6 (outs A ns to)) N:=by
 have l:oq A (outs A ns to):=oq.fold (g:=λ_=>to) ns (oq.refl A)
 exact o.O4 ((oX.fold (g:=λ_=>to) ns A).trans (oX.left _)) (BI o.good.pre l) (o.num.left l) (E3 o.quiet l) (by show (outs A ns to).heard=_;exact l.heard) (o.FF.Rh l).left
theorem zu {A:Ux} {N j:Nat} {e:UC} (o:vT A N) (hj:j < A.disputes.length) (hc:UJ e=false) (en:e.no=j+1) (ex:e.x=(aN A j).x) (ey:e.y=(aN A j).y) (ea:e.agreed=(aN A j).agreed) (ns:List Nat) (to:Option Nat):vT (U6 (outs (bD A j e) ns to)) N:=by
 have l:oq (bD A j e) (outs (bD A j e) ns to):=oq.fold (g:=λ_=>to) ns (oq.refl _)
 exact o.O4 (((oX.set A j e).trans (oX.fold (g:=λ_=>to) ns _)).trans (oX.left _)) (BI (o.good.pre.closed hj hc ex ey) l) ((o.num.set en).left l) (E3 (Mz o.quiet hj hc) l) (by show (outs (bD A j e) ns to).heard=_;exact l.heard) ((o.FF.set (by rw [ea];exact o.FF _ (Vf (ba hj)))).Rh l).left
theorem MQ {A:Ux} {N n:Nat} (o:vT A N):vT (pj A n) N:=by
 unfold pj
 cases e:j1 A n with
 | nil=>exact Gv o _ _
 | cons j r =>
  have hj:=(JM (A:=A) (n:=n) (j:=j) (by rw [e];exact UZ ..)).1
  exact zu (e:={ aN A j with verdict:=some (.twice n) }) o hj rfl (o.num.at hj) rfl rfl rfl _ _
theorem KC {A:Ux} {N m n:Nat} (o:vT A N) (hm:m<=A.disputes.length):vT (oz A m n) N:=by
 unfold oz
 split
 ·exact Gv o _ _
 ·have hj:m - 1 < A.disputes.length:=by omega
  exact zu (e:={ aN A (m - 1) with verdict:=some (.silent n) }) o hj rfl (o.num.at hj) rfl rfl rfl _ _
theorem Oz {A:Ux} {N i t:Nat} {s:UB} (o:vT A N) (hi:i < A.hosts.length) (hs:ik A.program A.begin_.nums.length s):vT (vS A i t s) (N+1):=by
 unfold vS
 split
 ·exact o.mono (by omega)
 ·cases e:UD A i t with
  | some r =>
   show vT (if r=s then A else pj A i) _
   split
   ·exact o.mono (by omega)
   ·exact (MQ o).mono (by omega)
  | none =>
   show vT (aW (cE A i t s) A.disputes.length) _
   have g:=EG o.good e hs
   have k:=oX.aW (cE A i t s) A.disputes.length
   have hh:(aW (cE A i t s) A.disputes.length).heard={ host:=i,turn:=t,says:=s }::A.heard:=Cz _ _
   have o0:=o
   refine ⟨?_,(show Num (cE A i t s) from o.num).aW _ (UI _),?_,?_,?_,?_,?_,?_,λx hx=>?_,λj hj=>?_,?_,?_,?_⟩
   ·rw [k.vM];exact mL g _ (UI _)
   ·rw [iM];exact wB g _ (UI _)
   ·rw [k.turns];exact o.t1
   ·rw [k.turns];exact o.t2
   ·rw [k.hosts];exact o.h1
   ·rw [k.hosts];exact o.h2
   ·rw [k.cA,k.hosts];exact o.FL
   ·rw [hh] at hx
    rw [k.hosts]
    rcases UL.mp hx with rfl | hx
    ·exact hi
    ·exact o.hb x hx
   ·rw [k.hosts] at hj
    rw [k.bent j hj,k.prog,k.vM]
    exact ⟨US (o.bent j hj).1 (by omega),(o.bent j hj).2⟩
   ·rw [hh]
    show A.heard.length+1<=N+1
    have:=o.hl
    omega
   ·rw [iM]
    show A.disputes.length<=N+1
    have:=o.dl
    omega
   ·rw [k.vM]
    exact (show lZ (cE A i t s) A.begin_.nums.length from o.FF).aW g _ (UI _)
theorem NV {A:Ux} {N x y:Nat} {r s:UB} (o:vT A N) (hx:x < A.hosts.length) (hy:y < A.hosts.length) (xy:x≠y) (xo:(Uz A x).out=false) (yo:(Uz A y).out=false) (hr:UD A x A.turns=some r) (hs:UD A y A.turns=some s) (ne:r≠s) :
  vT (ff (ig A x y) A.disputes.length) (N+1):=by
 have g:=o.good.pair hx hy xy xo yo hr hs ne o.t1 o.t2
 have e1:aW (ig A x y) (A.disputes.length+1)=ff (ig A x y) A.disputes.length:=by
  rw [<- GY o.num o.quiet.quiet x y,uX (o.num.pair x y),vK]
 have pl:=vK A x y
 have k:=oX.look (ig A x y) A.disputes.length
 have ll:=BB (ig A x y) A.disputes.length
 have hh:(ff (ig A x y) A.disputes.length).heard=A.heard:=(wC _ _).1
 refine ⟨?_,?_,?_,?_,?_,?_,?_,?_,λx hx=>?_,λj hj=>?_,?_,?_,?_⟩
 ·rw [k.vM,<- e1];exact mL g _ (by omega)
 ·rw [<- e1];exact (o.num.pair x y).aW _ (by omega)
 ·rw [ll,pl,<- e1];exact wB g _ (by omega)
 ·rw [k.turns];exact o.t1
 ·rw [k.turns];exact o.t2
 ·rw [k.hosts];exact o.h1
 ·rw [k.hosts];exact o.h2
 ·rw [k.cA,k.hosts];exact o.FL
 ·rw [hh] at hx;rw [k.hosts];exact o.hb x hx
 ·rw [k.hosts] at hj
  rw [k.bent j hj,k.prog,k.vM]
  exact ⟨US (o.bent j hj).1 (by omega),(o.bent j hj).2⟩
 ·rw [hh];have:=o.hl;omega
 ·rw [ll,pl];have:=o.dl;omega
 ·rw [k.vM]
  refine lZ.look (A:=ig A x y) (λd hd=>?_) g.cA (by omega)
  rcases VW.mp hd with q | q
  ·exact o.FF d q
  ·rw [UE.mp q];exact o.good.base.vM
theorem mQ (z:Int):Vj z 0 999=Il z:=by
 unfold Vj Il
 congr 1
 by_cases h:z < 1000
 ·rw [decide_eq_true h];exact decide_eq_true (show z<=((999:Nat):Int) by omega)
 ·rw [decide_eq_false h];exact decide_eq_false (show ¬ z<=((999:Nat):Int) by omega)
theorem By (l:List Int):Vbapaj.isNums l=l.all Il:=by
 unfold Vbapaj.isNums
 congr 1
 funext z
 exact mQ z
theorem pX {z:Int}:Il z=true ↔ 0<=z/\z < 1000:=by
 unfold Il
 rw [UN,decide_eq_true_eq,decide_eq_true_eq]
theorem Lf {z:Int}:Vj z 0 7=true ↔ 0<=z/\z<=7:=by
 unfold Vj
 rw [UN,decide_eq_true_eq,decide_eq_true_eq]
 exact Iff.rfl
theorem Ad (o:UP) (p:List UP):tR (o::p)=(o.op:Int)::(o.x:Int)::(o.y:Int)::(o.z:Int)::tR p:=rfl
theorem Ho:∀ (f:Nat) (ns:List Int) (p:List UP),Vx f ns=some p->ns=tR p/\(∀ o∈p,Bn o)/\p.length<=f
 | 0,ns,p,h=>by
  unfold Vx at h
  split at h
  ·rename_i e
   cases h
   exact ⟨List.isEmpty_iff.mp e,λo ho=>(by cases ho),UI _⟩
  ·cases h
 | f+1,[],p,h=>by
  unfold Vx at h
  cases h
  exact ⟨rfl,λo ho=>(by cases ho),U9 _⟩
 | f+1,[_],p,h=>by unfold Vx at h;cases h
 | f+1,[_,_],p,h=>by unfold Vx at h;cases h
 | f+1,[_,_,_],p,h=>by unfold Vx at h;cases h
 | f+1,o::x::y::z::r,p,h=>by
  unfold Vx at h
  simp only [] at h
  split at h
  ·rename_i c
   rw [UN,UN,UN,mQ,mQ,mQ,Lf,pX,pX,pX] at c
   cases q:Vx f r with
   | none=>rw [q] at h;cases h
   | some t =>
    rw [q] at h
    cases h
    obtain ⟨e1,e2,e3⟩:=Ho f r t q
    refine ⟨?_,λu hu=>?_,WL e3⟩
    ·rw [Ad,e1]
     show o::x::y::z::_=((o.toNat:Nat):Int)::((x.toNat:Nat):Int)::((y.toNat:Nat):Int)::((z.toNat:Nat):Int)::_
     rw [VZ c.1.1,VZ c.2.1.1,VZ c.2.2.1.1,VZ c.2.2.2.1]
    ·rcases UL.mp hu with rfl | hu
     ·exact ⟨by show o.toNat<=7;omega,by show x.toNat < 1000;omega,by show y.toNat < 1000;omega,by show z.toNat < 1000;omega⟩
     ·exact e2 u hu
  ·cases h
theorem K4:∀ (f:Nat) (p:List UP),(∀ o∈p,Bn o)->p.length<=f->Vx f (tR p)=some p
 | 0,[],_,_=>rfl
 | 0,_::_,_,h=>absurd h (Nat.not_succ_le_zero _)
 | f+1,[],_,_=>rfl
 | f+1,o::r,ho,h=>by
  obtain ⟨h1,h2,h3,h4⟩:=ho o (UZ ..)
  rw [Ad,Vx]
  rw [if_pos,K4 f r (λu hu=>ho u (U2 _ hu)) (by have:r.length+1<=f+1:=h;omega)]
  ·rfl
  ·rw [UN,UN,UN,mQ,mQ,mQ,Lf,pX,pX,pX]
   omega
theorem Nz:∀ (m:Nat) (ns:List Int),ns.length=4 * m->ns.all Il=true->(∀ k,k < m->∀ z,ns[4 * k]?=some z->z<=7)->∃ p,ns=tR p/\p.length=m/\∀ o∈p,Bn o
 | 0,ns,h,_,_=>⟨[],List.eq_nil_of_length_eq_zero (by omega),rfl,λo ho=>(by cases ho)⟩
 | m+1,[],h,_,_=>by simp at h
 | m+1,[_],h,_,_=>by simp at h;omega
 | m+1,[_,_],h,_,_=>by simp at h;omega
 | m+1,[_,_,_],h,_,_=>by simp at h;omega
 | m+1,o::x::y::z::r,h,ha,hk=>by
  simp only [WE,UN,pX] at ha
  obtain ⟨a1,a2,a3,a4,a5⟩:=ha
  obtain ⟨p,e1,e2,e3⟩:=Nz m r (by simp at h;omega) a5 (λk hk' w hw=>hk (k+1) (by omega) w (by rw [show 4 * (k+1)=4 * k+4 by omega];exact hw))
  have o7:=hk 0 (by omega) o rfl
  refine ⟨⟨o.toNat,x.toNat,y.toNat,z.toNat⟩::p,?_,by rw [U0,e2],λu hu=>?_⟩
  ·rw [Ad,e1]
   show o::x::y::z::_=((o.toNat:Nat):Int)::((x.toNat:Nat):Int)::((y.toNat:Nat):Int)::((z.toNat:Nat):Int)::_
   rw [VZ a1.1,VZ a2.1,VZ a3.1,VZ a4.1]
  ·rcases UL.mp hu with rfl | hu
   ·exact ⟨by show o.toNat<=7;omega,by show x.toNat < 1000;omega,by show y.toNat < 1000;omega,by show z.toNat < 1000;omega⟩
   ·exact e3 u hu
theorem Ro (m:Nat):sliceRange 0 ((4 * m:Nat):Int) 4=(List.range m).map λk=>4 * k:=by
 unfold sliceRange
 simp only [show ((4:Int) > 0)=True from eq_true (by decide),if_true]
 have e:(if (0:Int) < ((4 * m:Nat):Int) then (((4 * m:Nat):Int) - 0+4 - 1) / 4 else 0).toNat=m:=by
  split
  ·omega
  ·omega
 rw [e]
 refine VR λk _=>?_
 show (0+4 * (k:Int)).toNat=4 * k
 omega
theorem IW {ns:List Int} {m:Nat} (h:ns.length=4 * m):((stepI 4 ns).all λz=>decide (z<=7))=true ↔ ∀ k,k < m->∀ z,ns[4 * k]?=some z->z<=7:=by
 unfold stepI
 rw [h,Ro,WG]
 constructor
 ·intro f k hk z hz
  have:=f z (List.mem_filterMap.mpr ⟨4 * k,UR.mpr ⟨k,U8.mpr hk,rfl⟩,hz⟩)
  simpa using this
 ·intro f z hz
  obtain ⟨i,hi,e⟩:=List.mem_filterMap.mp hz
  obtain ⟨k,hk,rfl⟩:=UR.mp hi
  simpa using f k (U8.mp hk) z e
theorem CQ {ns:List Int} (h:nL ns=true):∃ p,Vx 20 ns=some p/\ns=tR p/\xq p:=by
 unfold nL at h
 simp only [UN,decide_eq_true_eq] at h
 obtain ⟨⟨h1,h2,h3⟩,h4,h5⟩:=h
 have hm:ns.length=4 * (ns.length / 4):=by omega
 obtain ⟨p,e1,e2,e3⟩:=Nz (ns.length / 4) ns hm h4 ((IW hm).mp (by simpa using h5))
 refine ⟨p,?_,e1,by omega,by omega,e3⟩
 rw [e1]
 exact K4 20 p e3 (by omega)
theorem Hg {ns:List Int} (h:nL ns=false):Vx 20 ns=none∨Vx 20 ns=some []:=by
 cases q:Vx 20 ns with
 | none=>exact .inl rfl
 | some p =>
  cases p with
  | nil=>exact .inr rfl
  | cons o r =>
   exfalso
   obtain ⟨e1,e2,e3⟩:=Ho 20 ns _ q
   have hl:ns.length=4 * (o::r).length:=by rw [e1,Bz]
   have hl2:(o::r).length=r.length+1:=rfl
   have ha:ns.all Il=true:=by
    rw [WG,e1]
    intro z hz
    obtain ⟨u,hu,hz⟩:=List.mem_flatMap.mp hz
    obtain ⟨u1,u2,u3,u4⟩:=e2 u hu
    have hz:z=(u.op:Int)∨z=(u.x:Int)∨z=(u.y:Int)∨z=(u.z:Int):=by simpa [vp] using hz
    rw [pX]
    omega
   have h7:((stepI 4 ns).all λz=>decide (z<=7))=true:=(IW hl).mpr λk hk z hz=>by
    obtain ⟨u,hu⟩:∃ u,(o::r)[k]?=some u:=⟨_,Vo hk⟩
    have:=E9 hu
    rw [<- e1] at this
    have e4:((ns.drop (4 * k)).take 4)[0]?=some z:=by rw [WR (by omega),List.getElem?_drop];exact hz
    rw [this] at e4
    have e4:(u.op:Int)=z:=Option.some.inj e4
    have:=(e2 u (Vf hu)).1
    omega
   unfold nL at h
   rw [ha,h7,decide_eq_true (show ns.length % 4=0 by omega),decide_eq_true (show 1<=ns.length / 4 by omega),decide_eq_true (show ns.length / 4<=20 by omega)] at h
   cases h
theorem Et {l:List Int} (h:l.all Il=true):(l.map V.int)=mf (l.map VI)/\∀ v∈l.map VI,v < 1000:=by
 rw [WG] at h
 refine ⟨?_,λv hv=>?_⟩
 ·unfold mf
  rw [VG]
  refine VR λz hz=>?_
  show V.int z=V.int ((z.toNat:Nat):Int)
  rw [VZ (pX.mp (h z hz)).1]
 ·obtain ⟨z,hz,rfl⟩:=UR.mp hv
  have:=pX.mp (h z hz)
  omega
theorem EZ {A:Ux} {ns:List Int} (hp:0 < A.program.length) (hn:0 < A.begin_.nums.length) :
  (Fz A.program.length A.begin_.nums.length ns=true->∃ s,Vbapaj.runOf A ns=some s/\ik A.program A.begin_.nums.length s/\ns.map V.int=Fq s)/\(Fz A.program.length A.begin_.nums.length ns=false->Vbapaj.runOf A ns=none):=by
 cases ns with
 | nil=>exact ⟨λh=>by simp [Fz] at h,λ_=>rfl⟩
 | cons p r =>
  unfold Fz Vbapaj.runOf
  simp only []
  rw [By]
  have ew:Vj p 0 (A.program.length - 1)=(decide (0<=p)&&decide (p < (A.program.length:Int))):=by
   unfold Vj
   congr 1
   by_cases c:p < (A.program.length:Int)
   ·rw [decide_eq_true c];exact decide_eq_true (show p<=((A.program.length - 1:Nat):Int) by omega)
   ·rw [decide_eq_false c];exact decide_eq_false (show ¬ p<=((A.program.length - 1:Nat):Int) by omega)
  have el:decide ((p::r).length=A.begin_.nums.length+1)=(r.length == A.begin_.nums.length):=by
   by_cases c:r.length=A.begin_.nums.length
   ·rw [c];simp [c]
   ·rw [beq_eq_false_iff_ne.mpr c];exact decide_eq_false (by rw [U0];omega)
  rw [ew,el]
  constructor
  ·intro h
   simp only [UN,decide_eq_true_eq,beq_iff_eq] at h
   obtain ⟨h1,⟨h2,h3⟩,h4⟩:=h
   rw [if_pos (by simp [h1,h2,h3,h4])]
   obtain ⟨n1,n2⟩:=Et h4
   refine ⟨_,rfl,⟨by show p.toNat < _;omega,by show (r.map VI).length=_;rw [UA];exact h1,hn,n2⟩,?_⟩
   show V.int p::r.map V.int=V.int ((p.toNat:Nat):Int)::mf (r.map VI)
   rw [n1,VZ h2]
  ·intro h
   rw [if_neg]
   intro q
   simp only [UN,decide_eq_true_eq,beq_iff_eq] at q
   obtain ⟨⟨h2,h3⟩,h1,h4⟩:=q
   rw [show (r.length == A.begin_.nums.length)=true from beq_iff_eq.mpr h1,decide_eq_true h2,decide_eq_true h3,h4] at h
   cases h
theorem NN {A:Ux} {N M i:Nat} {l:List Vm} (o:vT A N) (hNM:N<=M) (hi:i < A.hosts.length) (hl:l.length<=M) (hs:∀ b∈l,∀ s,b.says=some s->ik A.program A.begin_.nums.length s):vT (Vp A i { Uz A i with bent:=l }) M:=by
 have hln:(Vp A i { Uz A i with bent:=l }).hosts.length=A.hosts.length:=Vb ..
 have ho:∀ j,(Uz (Vp A i { Uz A i with bent:=l }) j).out=(Uz A j).out:=λj=>by
  rw [j7 hi]
  split
  ·rename_i e;rw [e]
  ·rfl
 refine ⟨⟨λd hd=>?_,⟨o.good.base.prog,o.good.base.n6,o.good.base.vM,o.good.base.once⟩,o.good.cA,λj hj hop=>?_⟩,o.num,o.quiet,o.t1,o.t2,by rw [hln];exact o.h1,by rw [hln];exact o.h2,by rw [hln];exact o.FL,λx hx=>by rw [hln];exact o.hb x hx,λj hj=>?_,US o.hl hNM,US o.dl hNM,o.FF⟩
 ·rw [hln];exact o.good.xy d hd
 ·obtain ⟨⟨r,s,O⟩,h⟩:=o.good.Ik j hj hop
  exact ⟨⟨r,s,by rw [hln];exact O.xl,by rw [hln];exact O.yl,O.xy,(ho _).trans O.xo,(ho _).trans O.yo,O.hx,O.hy,O.ne,O.lt,O.le,O.mid⟩,h⟩
 ·rw [hln] at hj
  rw [j7 hi]
  split
  ·exact ⟨hl,hs⟩
  ·exact ⟨US (o.bent j hj).1 hNM,(o.bent j hj).2⟩
theorem EH {A:Ux} {N j:Nat} {e:UC} (o:vT A N) (hj:j < A.disputes.length) (h:e.no=(aN A j).no/\e.x=(aN A j).x/\e.y=(aN A j).y/\e.lo=(aN A j).lo/\e.agreed=(aN A j).agreed/\e.hi=(aN A j).hi/\e.asked=(aN A j).asked/\e.verdict=(aN A j).verdict):vT (bD A j e) N:=by
 obtain ⟨e1,e2,e3,e4,e5,e6,e7,e8⟩:=h
 have eo:UJ e=UJ (aN A j):=by unfold UJ;rw [e8]
 refine o.O4 (oX.set A j e) ⟨o.good.xy.set (ba hj) e2 e3,⟨o.good.base.prog,o.good.base.n6,o.good.base.vM,o.good.base.once⟩,o.good.cA,λi hi ho=>?_⟩ (o.num.set (e1.trans (o.num.at hj))) (λi hi ho=>?_) rfl (o.FF.set (by rw [e5];exact o.FF _ (Vf (ba hj))))
 ·have hi:i < A.disputes.length:=by
   have hi:i < (A.disputes.set j e).length:=hi
   rw [Vb] at hi
   exact hi
  rw [v9 hj] at ho ⊢
  by_cases c:i=j
  ·rw [if_pos c] at ho ⊢
   rw [eo] at ho
   obtain ⟨⟨r,s,O⟩,h⟩:=o.good.Ik j hj ho
   refine ⟨⟨r,s,by rw [e2];exact O.xl,by rw [e3];exact O.yl,by rw [e2,e3];exact O.xy,by rw [e2];exact O.xo,by rw [e3];exact O.yo,by rw [e2,e6];exact O.hx,by rw [e3,e6];exact O.hy,O.ne,by rw [e4,e6];exact O.lt,by rw [e6];exact O.le,by rw [e4,e6,e7];exact O.mid⟩,?_⟩
   rw [e5];exact h
  ·rw [if_neg c] at ho ⊢
   obtain ⟨⟨r,s,O⟩,h⟩:=o.good.Ik i hi ho
   exact ⟨⟨r,s,O.xl,O.yl,O.xy,O.xo,O.yo,O.hx,O.hy,O.ne,O.lt,O.le,O.mid⟩,h⟩
 ·have hi:i < A.disputes.length:=by
   have hi:i < (A.disputes.set j e).length:=hi
   rw [Vb] at hi
   exact hi
  rw [v9 hj] at ho ⊢
  by_cases c:i=j
  ·rw [if_pos c] at ho ⊢
   rw [eo] at ho
   have:=o.quiet j hj ho
   unfold F8 at this ⊢
   rw [e2,e3,e4,e6,e7]
   exact this
  ·rw [if_neg c] at ho ⊢
   exact o.quiet i hi ho
theorem IL {A:Ux} {N:Nat} {l:List Nat} {k:Nat} (o:vT A N) (h:l.length=A.saidTo.length):vT { A with saidTo:=l,lost:=k } N :=
 ⟨⟨o.good.xy,⟨o.good.base.prog,o.good.base.n6,o.good.base.vM,o.good.base.once⟩,o.good.cA,λj hj ho=>by
  obtain ⟨⟨r,s,O⟩,h⟩:=o.good.Ik j hj ho
  exact ⟨⟨r,s,O.xl,O.yl,O.xy,O.xo,O.yo,O.hx,O.hy,O.ne,O.lt,O.le,O.mid⟩,h⟩⟩,o.num,o.quiet,o.t1,o.t2,o.h1,o.h2,h.trans o.FL,o.hb,o.bent,o.hl,o.dl,o.FF⟩
theorem MO {A:Ux} {N:Nat} {f:Option UB} (o:vT A N):vT { A with found:=f } N :=
 ⟨⟨o.good.xy,⟨o.good.base.prog,o.good.base.n6,o.good.base.vM,o.good.base.once⟩,o.good.cA,λj hj ho=>by
  obtain ⟨⟨r,s,O⟩,h⟩:=o.good.Ik j hj ho
  exact ⟨⟨r,s,O.xl,O.yl,O.xy,O.xo,O.yo,O.hx,O.hy,O.ne,O.lt,O.le,O.mid⟩,h⟩⟩,o.num,o.quiet,o.t1,o.t2,o.h1,o.h2,o.FL,o.hb,o.bent,o.hl,o.dl,o.FF⟩
theorem Pr {prog:List UP} {b:UB} {T k n st N m:Nat} (hp:xq prog) (hm:m<=6) (hb:ik prog m b) (t1:1<=T) (t2:T<=2000) (n1:2<=n) (n2:n<=6):vT (Ax prog b T k n st) N:=by
 have hl:(Ax prog b T k n st).hosts.length=n:=Wn ..
 have e:b.nums.length=m:=hb.len
 refine ⟨⟨λd hd=>(by cases hd),⟨hp,by show b.nums.length<=6;omega,by show ik prog b.nums.length b;rw [e];exact hb,trivial⟩,λx hx=>(by cases hx),λj hj=>absurd hj (Vt _)⟩,λj d hd=>?_,λj hj=>absurd hj (Vt _),t1,t2,by rw [hl];exact n1,by rw [hl];exact n2,?_,λx hx=>(by cases hx),λi hi=>?_,U9 _,U9 _,λd hd=>(by cases hd)⟩
 ·have hd:([]:List UC)[j]?=some d:=hd
  simp at hd
 ·rw [hl];exact Wn ..
 ·rw [hl] at hi
  rw [BU hi]
  exact ⟨U9 _,λb hb=>(by cases hb)⟩
structure oS (h:UG) (N:Nat):Prop where
 j5:∀ A,h.affair=some A->vT A N
 no:h.affair=none->h.line=[]
 ids:∀ x∈h.line,x.id < h.next
 nd:(h.line.map λx=>x.id).Nodup
 wd:∀ A,h.affair=some A->∀ x∈h.line,x.host < A.hosts.length/\x.turn<=2000/\x.dispute<=A.disputes.length/\∀ s,x.answer=some s->ik A.program A.begin_.nums.length s
 nx:h.next<=N
 ln:h.line.length<=N
theorem oS.empty:oS Vbapaj.empty 0:=⟨λA h=>(by cases h),λ_=>rfl,λx hx=>(by cases hx),List.nodup_nil,λA h=>(by cases h),UI _,UI _⟩
theorem oS.mono {h:UG} {N M:Nat} (o:oS h N) (hm:N<=M):oS h M:=⟨λA e=>(o.j5 A e).mono hm,o.no,o.ids,o.nd,o.wd,US o.nx hm,US o.ln hm⟩
theorem oS.yV {h:UG} {N M:Nat} {A B:Ux} (o:oS h N) (hA:h.affair=some A) (hNM:N<=M) (hB:vT B M) (p:B.program=A.program) (b:B.begin_=A.begin_) (n:B.hosts.length=A.hosts.length) (d:A.disputes.length<=B.disputes.length):oS { h with affair:=some B } M:=by
 refine ⟨λC e=>?_,λe=>(by cases e),o.ids,o.nd,λC e x hx=>?_,US o.nx hNM,US o.ln hNM⟩
 ·cases e;exact hB
 ·cases e
  obtain ⟨h1,h2,h3,h4⟩:=o.wd A hA x hx
  exact ⟨by rw [n];exact h1,h2,US h3 d,λs hs=>by rw [p,b];exact h4 s hs⟩
theorem oS.put {h:UG} {N:Nat} {A:Ux} {x:U4} (o:oS h N) (hA:h.affair=some A) (hid:x.id=h.next) (hx:x.host < A.hosts.length/\x.turn<=2000/\x.dispute<=A.disputes.length/\∀ s,x.answer=some s->ik A.program A.begin_.nums.length s) :
  oS { h with line:=h.line++[x],next:=h.next+1 } (N+1):=by
 refine ⟨λC e=>(o.j5 C e).mono (by omega),λe=>(by rw [show h.affair=none from e] at hA;cases hA),λy hy=>?_,?_,λC e y hy=>?_,WL o.nx,?_⟩
 ·rcases VW.mp hy with q | q
  ·exact Nat.lt_succ_of_lt (o.ids y q)
  ·rw [UE.mp q,hid];exact Nat.lt_succ_self _
 ·show ((h.line++[x]).map λx=>x.id).Nodup
  rw [U1]
  refine Ha o.nd λm=>?_
  obtain ⟨y,hy,e⟩:=UR.mp m
  have e:y.id=x.id:=e
  have:=o.ids y hy
  omega
 ·have e:C=A:=by
   have:h.affair=some C:=e
   rw [hA] at this
   exact (Option.some.inj this).symm
  subst e
  rcases VW.mp hy with q | q
  ·exact o.wd C hA y q
  ·rw [UE.mp q];exact hx
 ·show (h.line++[x]).length<=N+1
  rw [Vk]
  exact WL o.ln
theorem oS.take {h:UG} {N c g:Nat} {x:U4} (o:oS h N):oS { Vl h x with came:=c,gone:=g } N:=by
 refine ⟨o.j5,λe=>?_,λy hy=>o.ids y (VM.mp hy).1,?_,λC e y hy=>o.wd C e y (VM.mp hy).1,o.nx,US (VA _ _) o.ln⟩
 ·show h.line.filter _=[]
  rw [o.no e]
  rfl
 ·exact List.Nodup.sublist (List.Sublist.map _ List.filter_sublist) o.nd
theorem tY {h:UG} {M:Nat} {f:Ux->UG × Vn} (h0:oS h M) (hf:∀ A,h.affair=some A->oS (f A).1 M):oS (VV h f).1 M:=by
 unfold VV
 cases e:h.affair with
 | none=>exact h0
 | some A=>exact hf A e
theorem pJ {h:UG} {M:Nat} {i:Int} {f:Ux->Nat->UG × Vn} (h0:oS h M) (hf:∀ A,h.affair=some A->i.toNat < A.hosts.length->oS (f A i.toNat).1 M):oS (VJ h i f).1 M:=by
 unfold VJ
 refine tY h0 λA e=>?_
 split
 ·rename_i c
  rw [UN,decide_eq_true_eq,decide_eq_true_eq] at c
  exact hf A e c.2
 ·exact h0
theorem Hf {h:UG} {N i:Nat} {A:Ux} {l:List Vm} (o:oS h N) (e:h.affair=some A) (hi:i < A.hosts.length) (hl:l.length<=N+1) (hs:∀ b∈l,∀ s,b.says=some s->ik A.program A.begin_.nums.length s):oS (Vbapaj.bend h A i l).1 (N+1) :=
 o.yV e (by omega) (NN (o.j5 A e) (by omega) hi hl hs) rfl rfl (Vb ..) (UI _)
theorem zT {h:UG} {z:Int} {x:U4} (e:Wg h z=some x):x∈h.line:=by
 unfold Wg at e
 split at e
 ·cases e
 ·exact WX e
theorem GF {A:Ux} {N i t:Nat} {s:UB} (o:vT A N) (hi:i < A.hosts.length) (h:VL A i t=some s):ik A.program A.begin_.nums.length s:=by
 unfold VL at h
 split at h
 ·rename_i b hb
  exact (o.bent i hi).2 b (WX hb) s h
 ·cases h
  exact AA o.good.base.vM o.good.base.prog.BX t
theorem JS (A:Ux) (i t:Nat) (s:UB):(vS A i t s).program=A.program/\(vS A i t s).begin_=A.begin_/\(vS A i t s).hosts.length=A.hosts.length/\(vS A i t s).disputes.length=A.disputes.length:=by
 have tw:oX A (pj A i):=by
  unfold pj
  split
  ·exact (oX.fold (g:=λ_=>none) [i] A).trans (oX.left _)
  ·rename_i j _ _
   exact ((oX.set A j { aN A j with verdict:=some (.twice i) }).trans (oX.fold (g:=λ_=>some (if i=(aN A j).x then (aN A j).y else (aN A j).x)) [i] _)).trans (oX.left _)
 unfold vS
 split
 ·exact ⟨rfl,rfl,rfl,rfl⟩
 ·split
  ·split
   ·exact ⟨rfl,rfl,rfl,rfl⟩
   ·exact ⟨tw.prog,tw.vM,tw.hosts,tw.Jz⟩
  ·have k:=oX.aW (cE A i t s) A.disputes.length
   exact ⟨k.prog,k.vM,k.hosts,k.Jz⟩
theorem GX (A:Ux) (m n:Nat):oX A (oz A m n):=by
 unfold oz
 split
 ·exact (oX.fold (g:=λ_=>none) [n] A).trans (oX.left _)
 ·exact ((oX.set A (m - 1) { aN A (m - 1) with verdict:=some (.silent n) }).trans (oX.fold (g:=λ_=>some (if n=(aN A (m - 1)).x then (aN A (m - 1)).y else (aN A (m - 1)).x)) [n] _)).trans (oX.left _)
theorem FU {A:Ux} {z:Int} {e:UC} (hn:Num A) (z0:¬ z=0) (h:(if z < 0 then none else VY A z.toNat)=some e):∃ j,j < A.disputes.length/\z=((j+1:Nat):Int)/\e=aN A j:=by
 split at h
 ·cases h
 ·have hz:z.toNat=(z.toNat - 1)+1:=by omega
  rw [hz,lD hn] at h
  have hl:=(U5.mp h).1
  exact ⟨z.toNat - 1,hl,by omega,(yO h).symm⟩
theorem vV {z:Int} {lo hi:Nat}:Vj z lo hi=true ↔ (lo:Int)<=z/\z<=(hi:Int):=by
 unfold Vj
 rw [UN,decide_eq_true_eq,decide_eq_true_eq]
theorem NJ {A:Ux} {N:Nat} {l:List Int} {s:UB} (o:vT A N) (h:Vbapaj.runOf A l=some s):ik A.program A.begin_.nums.length s:=by
 obtain ⟨h1,h2⟩:=EZ (A:=A) (ns:=l) o.good.base.prog.pos o.good.base.vM.pos
 cases q:Fz A.program.length A.begin_.nums.length l with
 | false=>rw [h2 q] at h;cases h
 | true =>
  obtain ⟨u,e1,e2,_⟩:=h1 q
  rw [e1] at h
  cases h
  exact e2
theorem N9 {A:Ux} {N j:Nat} (o:vT A N) (hj:j < A.disputes.length) (ho:UJ (aN A j)=true):(aN A j).asked<=2000:=by
 obtain ⟨⟨r,s,O⟩,_⟩:=o.good.Ik j hj ho
 have h1:=(o.quiet j hj ho).1
 have h2:=O.mid (by omega)
 have:=O.le
 omega
theorem IJ {h:UG} {N d i t:Nat} {A B:Ux} (o:oS h N) (e:h.affair=some A) (hB:vT B N) (k1:B.program=A.program) (k2:B.begin_=A.begin_) (k3:B.hosts.length=A.hosts.length) (k4:B.disputes.length=A.disputes.length) (hi:i < A.hosts.length) (ht:t<=2000) (hd:d<=A.disputes.length):oS (Wh h B d i t).1 (N+1):=by
 unfold Wh
 split
 ·exact o.mono (by omega)
 ·have o2:oS { h with affair:=some B } N:=o.yV e (UI _) hB k1 k2 k3 (by rw [k4];exact UI _)
  exact o2.put (A:=B) rfl rfl ⟨by rw [k3];exact hi,ht,by rw [k4];exact hd,λs hs=>(by cases hs)⟩
theorem PD {h:UG} {N:Nat} (o:oS h N) (t k n st:Int) (p b:List Int):oS (UH h (.new t k n st p b)).1 (N+1):=by
 have o1:=o.mono (Vh N)
 unfold UH
 simp only []
 split
 ·exact o1
 ·rename_i c1
  split
  ·exact o1
  ·rename_i c2
   split
   ·exact o1
   ·rename_i pr hp
    split
    ·exact o1
    ·rename_i c3
     rw [Bool.not_eq_false,UN,UN,UN,vV,vV,vV,vV] at c1
     rw [Bool.not_eq_false] at c2 c3
     rw [UN,UN,UN,decide_eq_true_eq,decide_eq_true_eq,By] at c3
     obtain ⟨e1,e2,e3⟩:=Ho 20 p pr hp
     have e4:1<=pr.length:=by
      cases pr with
      | nil=>simp at c3
      | cons x r=>exact WL (U9 _)
     have hP:xq pr:=⟨e4,e3,e2⟩
     have hl:h.line=[]:=List.isEmpty_iff.mp c2
     obtain ⟨n1,n2⟩:=Et c3.2.2.2
     have hb:ik pr (b.map VI).length { at_:=0,nums:=b.map VI }:=⟨e4,rfl,by rw [UA];exact c3.2.1,n2⟩
     have oA:vT (Ax pr { at_:=0,nums:=b.map VI } t.toNat k.toNat n.toNat st.toNat) (N+1):=Pr hP (by rw [UA];exact c3.2.2.1) hb (by omega) (by omega) (by omega) (by omega)
     refine ⟨λC e=>?_,λe=>(by cases e),?_,?_,?_,Nat.le_succ_of_le o.nx,Nat.le_succ_of_le o.ln⟩
     ·cases e;exact oA
     ·intro x hx;have hx:x∈h.line:=hx;rw [hl] at hx;cases hx
     ·exact o.nd
     ·intro C e x hx;have hx:x∈h.line:=hx;rw [hl] at hx;cases hx
theorem NH {h:UG} {N:Nat} (o:oS h N) (x y:Int):oS (UH h (.pair x y)).1 (N+1):=by
 have o1:=o.mono (Vh N)
 unfold UH
 refine pJ o1 λA eA hx=>pJ o1 λA' eA' hy=>?_
 have:A'=A:=by rw [eA] at eA';exact (Option.some.inj eA').symm
 subst this
 simp only []
 split
 ·exact o1
 ·split
  ·exact o1
  ·rename_i c2
   split
   ·exact o1
   ·rename_i c3
    split
    ·rename_i r s hr hs
     split
     ·exact o1
     ·rename_i c4
      rw [Bool.not_eq_false,UN] at c2
      have out:∀ i,Vbapaj.isIn A' i=true->(Uz A' i).out=false:=λi hi=>by
       unfold Vbapaj.isIn at hi
       rw [UN] at hi
       simpa using hi.2
      have oA:=o.j5 A' eA
      have k:=oX.look (ig A' x.toNat y.toNat) A'.disputes.length
      have e:=GY oA.num oA.quiet.quiet x.toNat y.toNat
      have:=o.yV eA (Vh N) (NV oA hx hy (λq=>c3 (.inl q)) (out _ c2.1) (out _ c2.2) hr hs c4) k.prog k.vM k.hosts (by rw [k.Jz,vK];exact Vh _)
      rw [<- e] at this
      exact this
    ·exact o1
theorem PY {h:UG} {N:Nat} (o:oS h N) (d i:Int):oS (UH h (.say d i)).1 (N+1):=by
 have o1:=o.mono (Vh N)
 unfold UH
 refine pJ o1 λA eA hi=>?_
 have oA:=o.j5 A eA
 split
 ·exact o1
 ·split
  ·exact o1
  ·split
   ·split
    ·exact o1
    ·exact IJ o eA (IL (k:=A.lost) oA (List.length_modify ..)) rfl rfl rfl rfl hi oA.t2 (U9 _)
   ·rename_i d0
    split
    ·exact o1
    ·rename_i e he
     split
     ·exact o1
     ·rename_i ho
      rw [Bool.not_eq_false] at ho
      split
      ·exact o1
      ·split
       ·exact o1
       ·obtain ⟨j,hj,ez,rfl⟩:=FU oA.num d0 he
        have en:=oA.num.at hj
        have hk:∀ f:UC,f.no=(aN A j).no/\f.x=(aN A j).x/\f.y=(aN A j).y/\f.lo=(aN A j).lo/\f.agreed=(aN A j).agreed/\f.hi=(aN A j).hi/\f.asked=(aN A j).asked/\f.verdict=(aN A j).verdict ->
          oS (Wh h (Vw A f) (aN A j).no i.toNat (aN A j).asked).1 (N+1):=λf hf=>by
         rw [fw oA.num (hf.1.trans en)]
         exact IJ o eA (EH oA hj hf) rfl rfl rfl (Vb ..) hi (N9 oA hj ho) (by rw [en];exact hj)
        refine hk _ ?_
        split
        ·exact ⟨rfl,rfl,rfl,rfl,rfl,rfl,rfl,rfl⟩
        ·exact ⟨rfl,rfl,rfl,rfl,rfl,rfl,rfl,rfl⟩
theorem Jt {h:UG} {N:Nat} (o:oS h N) (w:Int):oS (UH h (.deliver w)).1 (N+1):=by
 have o1:=o.mono (Vh N)
 unfold UH
 refine tY o1 λA eA=>?_
 have oA:=o.j5 A eA
 split
 ·exact o1
 ·rename_i x hx
  have hm:=zT hx
  obtain ⟨h1,h2,h3,h4⟩:=o.wd A eA x hm
  show oS (VC (Vl h x) A x) (N+1)
  unfold VC
  cases ea:x.answer with
  | some s =>
   show oS { Vl h x with affair:=some (Vbapaj.hears A x.host x.turn s),came:=h.came+1 } (N+1)
   have k:=JS A x.host x.turn s
   rw [JD oA.num]
   exact (o.take (c:=h.came+1) (g:=h.gone) (x:=x)).yV (A:=A) eA (Vh N) (Oz oA h1 (h4 s ea)) k.1 k.2.1 k.2.2.1 (by rw [k.2.2.2];exact UI _)
  | none =>
   show oS (match VL A x.host x.turn with
    | none=>{ Vl h x with came:=h.came+1 }
    | some s=>{ Vl h x with line:=(Vl h x).line++[{ x with id:=h.next,answer:=some s }],next:=h.next+1,came:=h.came+1 }) (N+1)
   cases es:VL A x.host x.turn with
   | none=>exact (o.take (c:=h.came+1) (g:=h.gone) (x:=x)).mono (Vh N)
   | some s=>exact (o.take (c:=h.came+1) (g:=h.gone) (x:=x)).put (A:=A) (x:={ x with id:=h.next,answer:=some s }) eA rfl ⟨h1,h2,h3,λu hu=>by cases hu;exact GF oA h1 es⟩
theorem Nq {h:UG} {N:Nat} (o:oS h N) (w:Int):oS (UH h (.lose w)).1 (N+1):=by
 have o1:=o.mono (Vh N)
 unfold UH
 refine tY o1 λA eA=>?_
 have oA:=o.j5 A eA
 split
 ·exact o1
 ·rename_i x hx
  have hm:=zT hx
  obtain ⟨h1,h2,h3,h4⟩:=o.wd A eA x hm
  have ot:=o.take (c:=h.came) (g:=h.gone+1) (x:=x)
  simp only []
  split
  ·split
   ·exact o1
   ·exact ot.yV (A:=A) eA (Vh N) ((IL (l:=A.saidTo) (k:=A.lost+1) oA rfl).mono (Vh N)) rfl rfl rfl (UI _)
  ·rename_i c0
   split
   ·exact o1
   ·rename_i e he
    split
    ·exact o1
    ·have hd:x.dispute=(x.dispute - 1)+1:=by omega
     rw [hd,lD oA.num] at he
     have hl:=(U5.mp he).1
     obtain rfl:=yO he
     rw [fw oA.num (show ({ aN A (x.dispute - 1) with lost:=(aN A (x.dispute - 1)).lost+1 }:UC).no=_ from oA.num.at hl)]
     have k:=oX.set A (x.dispute - 1) { aN A (x.dispute - 1) with lost:=(aN A (x.dispute - 1)).lost+1 }
     exact ot.yV (A:=A) eA (Vh N) ((EH (e:={ aN A (x.dispute - 1) with lost:=(aN A (x.dispute - 1)).lost+1 }) oA hl ⟨rfl,rfl,rfl,rfl,rfl,rfl,rfl,rfl⟩).mono (Vh N)) k.prog k.vM k.hosts (by rw [k.Jz];exact UI _)
theorem JV {h:UG} {N:Nat} (o:oS h N) (w:Int):oS (UH h (.double w)).1 (N+1):=by
 have o1:=o.mono (Vh N)
 unfold UH
 simp only []
 split
 ·exact o1
 ·rename_i x hx
  split
  ·exact o1
  ·have hm:=zT hx
   cases eA:h.affair with
   | none=>rw [o.no eA] at hm;cases hm
   | some A=>
    have:=o.put (A:=A) (x:={ x with id:=h.next }) eA rfl (o.wd A eA x hm)
    rw [eA] at this
    exact this
theorem Na {h:UG} {N:Nat} (o:oS h N) (d i:Int):oS (UH h (.hush d i)).1 (N+1):=by
 have o1:=o.mono (Vh N)
 unfold UH
 refine pJ o1 λA eA hi=>?_
 have oA:=o.j5 A eA
 have fin:∀ m,m<=A.disputes.length->oS (V5 h (oz A m i.toNat)) (N+1):=λm hm=>by
  have k:=GX A m i.toNat
  exact o.yV eA (Vh N) ((KC oA hm).mono (Vh N)) k.prog k.vM k.hosts (by rw [k.Jz];exact UI _)
 simp only []
 split
 ·exact o1
 ·split
  ·exact o1
  ·split
   ·split
    ·exact o1
    ·split
     ·exact o1
     ·split
      ·exact o1
      ·exact fin 0 (U9 _)
   ·rename_i d0
    split
    ·exact o1
    ·rename_i e he
     split
     ·exact o1
     ·split
      ·exact o1
      ·split
       ·exact o1
       ·generalize (if e.x=i.toNat then e.saidX else e.saidY)=cnt
        split
        ·exact o1
        ·split
         ·exact o1
         ·obtain ⟨j,hj,ez,rfl⟩:=FU oA.num d0 he
          rw [GB oA.num hj]
          exact fin (j+1) hj
theorem Mu {h:UG} {N:Nat} (o:oS h N):oS (UH h .close).1 (N+1):=by
 have o1:=o.mono (Vh N)
 unfold UH
 refine tY o1 λA eA=>?_
 have oA:=o.j5 A eA
 split
 ·exact o1
 ·split
  ·exact o1
  ·split
   ·exact o1
   ·split
    ·exact o1
    ·split
     ·exact o1
     ·exact o.yV eA (Vh N) ((MO oA).mono (Vh N)) rfl rfl rfl (UI _)
theorem step_same (h:UG):∀ c:Vy,(match c with
  | .line | .word _ | .dispute _ | .agreed _ | .truth _ | .heard _ _ | .says _ _ | .host _ | .affair | .counts | .work _=>True
  | _=>False)->(UH h c).1=h:=by
 have onA:∀ f:Ux->UG × Vn,(∀ A,(f A).1=h)->(VV h f).1=h:=λf hf=>by
  unfold VV
  split
  ·rfl
  ·exact hf _
 have onH:∀ (i:Int) (f:Ux->Nat->UG × Vn),(∀ A i,(f A i).1=h)->(VJ h i f).1=h:=λi f hf=>by
  unfold VJ
  refine onA _ λA=>?_
  split
  ·exact hf _ _
  ·rfl
 intro c hc
 cases c<;>first | exact absurd hc id | skip
 ·rfl
 ·unfold UH;simp only [];split<;>rfl
 ·unfold UH;refine onA _ λA=>?_;split<;>rfl
 ·unfold UH;refine onA _ λA=>?_;split<;>rfl
 ·unfold UH;refine onA _ λA=>?_;split<;>rfl
 ·unfold UH;refine onH _ _ λA i=>?_;split;rfl;split<;>rfl
 ·unfold UH;refine onH _ _ λA i=>?_;split;rfl;split<;>rfl
 ·unfold UH;exact onH _ _ λA i=>rfl
 ·unfold UH;exact onA _ λA=>rfl
 ·rfl
 ·unfold UH;refine onA _ λA=>?_;split<;>rfl
theorem Nw {h:UG} {N:Nat} (o:oS h N) (c:Vy):oS (UH h c).1 (N+1):=by
 have o1:=o.mono (Vh N)
 cases c with
 | clear=>exact oS.empty.mono (U9 _)
 | new t k n st p b=>exact PD o t k n st p b
 | lie i t l =>
  unfold UH
  refine pJ o1 λA eA hi=>?_
  have oA:=o.j5 A eA
  split
  ·exact o1
  ·split
   ·exact o1
   ·rename_i s hs
    refine Hf o eA hi (WL (oA.bent _ hi).1) λb hb u hu=>?_
    rcases UL.mp hb with rfl | hb
    ·cases hu;exact NJ oA hs
    ·exact (oA.bent _ hi).2 b hb u hu
 | mute i t =>
  unfold UH
  refine pJ o1 λA eA hi=>?_
  have oA:=o.j5 A eA
  split
  ·exact o1
  ·refine Hf o eA hi (WL (oA.bent _ hi).1) λb hb u hu=>?_
   rcases UL.mp hb with rfl | hb
   ·cases hu
   ·exact (oA.bent _ hi).2 b hb u hu
 | honest i t =>
  unfold UH
  refine pJ o1 λA eA hi=>?_
  have oA:=o.j5 A eA
  split
  ·exact o1
  ·exact Hf o eA hi (Nat.le_succ_of_le (US (VA _ _) (oA.bent _ hi).1)) λb hb u hu=>(oA.bent _ hi).2 b (VM.mp hb).1 u hu
 | pair x y=>exact NH o x y
 | say d i=>exact PY o d i
 | deliver w=>exact Jt o w
 | lose w=>exact Nq o w
 | double w=>exact JV o w
 | hush d i=>exact Na o d i
 | close=>exact Mu o
 | _=>rw [step_same h _ trivial];exact o1
def O8 (cl:Addr) (pl:Nat):List (Str × V):=[("calls",.ref cl),("place",.int (pl:Int))]
def l0 (a:bI) (H:Hp) (rd cl:Addr) (pl:Nat):Prop:=∃ dx,H rd=some (.ins a.bX dx (O8 cl pl))
theorem Pp (xs:List V) (p n:Nat) (h:p+n<=xs.length):zE xs (some (p:Int)) (some ((p+n:Nat):Int))=(xs.drop p).take n:=by
 unfold zE
 rw [HT.DG,HT.DG,Ww (show p<=xs.length by omega),Ww h,Nat.add_sub_cancel_left]
section
variable {P:Program} {w:World} {K:Uy} {mg:Str->Option Value} {base:Heap} {a:bI}
def DM (K:Uy) (a:bI):Sp:=λvs H Q _=>∃ (rd dx cl:Addr),vs=[.ref rd,.ref cl]/\H rd=some (.ins a.bX dx [])/\∀ H',Keeps [rd] H H'->l0 a H' rd cl 0->Q .dH H'
theorem DS (T:Txt K mg a):a8 P w K mg base eS 1 a.mi a.mh ["self","calls"] (DM K a):=by
 refine T.uN.ok E1 ?_ ?_
 ·rintro _ _ _ _ ⟨_,_,_,rfl,_⟩
  rfl
 ·rintro cdv A outer s H _ Q E hr ⟨rd,dx,cl,rfl,hp,k⟩
  refine ⟨_,(ah (aS (K:=K) (pv 0) (pv 1) rfl)
   (ao (aS (K:=K) (pv 0) ax rfl))),?_⟩
  refine ⟨_,rfl,_,rfl,rd,a.bX,dx,_,rfl,hp,T.dF,T.nJ,by show 0 < 1000;decide,?_⟩
  refine ⟨_,rfl,rd,a.bX,dx,_,rfl,ae,T.dF,T.fT,by show 1 < 1000;decide,?_⟩
  rw [b9]
  exact k _ (Keeps.upd (UE.mpr rfl)) ⟨dx,ae⟩
def Bv (K:Uy) (a:bI):Sp:=λvs H Q _=>∃ (rd cl:Addr) (pl:Nat) (ns:List Int),vs=[.ref rd]/\l0 a H rd cl pl/\bf K H cl (ns.map V.int)/\Q (.bl (decide (ns.length<=pl))) H
theorem AL (T:Txt K mg a):a8 P w K mg base eS 1 a.iW a.iG ["self"] (Bv K a):=by
 refine T.px.ok A3 ?_ ?_
 ·rintro _ _ _ _ ⟨_,_,_,_,rfl,_⟩
  rfl
 ·rintro cdv A outer s H _ Q E hr ⟨rd,cl,pl,ns,rfl,⟨dx,h1⟩,hS,k⟩
  refine ⟨_,(ao (aE (nU K5 (ai (K:=K) (pv 0) rfl) (aU (a7 (K:=K)) (by rfl) T.dO UU (aa (ai (K:=K) (pv 0) rfl) aj)) (bo _)))),?_⟩
  refine ⟨_,rfl,rd,a.bX,dx,_,_,rfl,h1,T.dF,T.fT,rfl,_,rfl,rd,a.bX,dx,_,_,rfl,h1,T.dF,T.nJ,rfl,cl,_,rfl,.inl hS,_,_,rfl,rfl,?_⟩
  rw [UA]
  have e:decide ((ns.length:Int)<=(pl:Int))=decide (ns.length<=pl):=by by_cases q:ns.length<=pl<;>simp [q]<;>omega
  rw [<- e] at k
  exact k
def xg (K:Uy) (a:bI):Sp:=λvs H Q _=>∃ (rd cl:Addr) (pl:Nat) (ns:List Int) (z:Int),vs=[.ref rd]/\l0 a H rd cl pl/\bf K H cl (ns.map V.int)/\(∀ o,bf K (upd H rd o) cl (ns.map V.int))/\ns[pl]?=some z/\∀ H',Keeps [rd] H H'->l0 a H' rd cl (pl+1)->Q (.int z) H'
theorem oV (T:Txt K mg a):a8 P w K mg base eS 1 a.ej a.et ["self"] (xg K a):=by
 refine T.lj.ok xf ?_ ?_
 ·rintro _ _ _ _ ⟨_,_,_,_,_,rfl,_⟩
  rfl
 ·rintro cdv A outer s H _ Q E hr ⟨rd,cl,pl,ns,z,rfl,⟨dx,h1⟩,hS,hS2,hz,k⟩
  refine ⟨_,(ah (gV (K:=K) (pv 0) ax uQ)
   (ao (aE (aM (aB (K:=K)) (ai (K:=K) (pv 0) rfl) (b8 GH (ai (K:=K) (pv 0) rfl) ax) (λ_ _=>rfl))))),?_⟩
  refine ⟨_,rfl,rd,a.bX,dx,_,_,rfl,h1,T.dF,T.fT,rfl,_,_,rfl,rfl,dx,_,h1,by show 2 < 1000;decide,?_⟩
  refine ⟨_,rfl,rd,a.bX,dx,_,_,rfl,ae,T.dF,T.nJ,rfl,_,rfl,rd,a.bX,dx,_,_,rfl,ae,T.dF,T.fT,rfl,_,_,rfl,rfl,cl,_,_,_,rfl,rfl,hS2 _,at_of (j:=pl) (v:=.int z) (by omega) (by rw [Ve,hz];rfl),?_⟩
  exact k _ (Keeps.upd (UE.mpr rfl)) ⟨dx,ae⟩
def zJ (K:Uy) (a:bI):Sp:=λvs H Q _=>∃ (rd cl:Addr) (pl n:Nat) (ns:List Int),vs=[.ref rd,.int (n:Int)]/\l0 a H rd cl pl/\bf K H cl (ns.map V.int)/\(∀ o,bf K (upd H rd o) cl (ns.map V.int))/\pl+n<=ns.length /\
 ∀ (H':Hp) (c:Addr),Keeps [rd] H H'->H c=none->l0 a H' rd cl (pl+n)->H' c=some (.lst (((ns.drop pl).take n).map V.int))->Q (.ref c) H'
theorem rW (T:Txt K mg a):a8 P w K mg base eS 1 a.gn a.gA ["self","length"] (zJ K a):=by
 refine T.og.ok zC ?_ ?_
 ·rintro _ _ _ _ ⟨_,_,_,_,_,rfl,_⟩
  rfl
 ·rintro cdv A outer s H _ Q E hr ⟨rd,cl,pl,n,ns,rfl,⟨dx,h1⟩,hS,hS2,hl,k⟩
  refine ⟨_,(ah (gV (K:=K) (pv 0) (pv 1) uQ)
   (ao (aE (AK (ED (K:=K)) (ai (K:=K) (pv 0) rfl) (zd (b8 GH (ai (K:=K) (pv 0) rfl) (pv 1))) (zd (ai (K:=K) (pv 0) rfl)))))),?_⟩
  refine ⟨_,rfl,rd,a.bX,dx,_,_,rfl,h1,T.dF,T.fT,rfl,_,rfl,_,_,rfl,rfl,dx,_,h1,by show 2 < 1000;decide,?_⟩
  refine ⟨_,rfl,rd,a.bX,dx,_,_,rfl,ae,T.dF,T.nJ,rfl,_,rfl,rd,a.bX,dx,_,_,rfl,ae,T.dF,T.fT,rfl,?_⟩
  refine ⟨_,rfl,_,_,rfl,rfl,_,rfl,_,rfl,rd,a.bX,dx,_,_,rfl,ae,T.dF,T.fT,rfl,_,rfl,cl,_,rfl,hS2 _,λc hc=>?_⟩
  have cr:c≠rd:=λz=>by rw [z,ae] at hc;cases hc
  refine k _ c (λb o e m=>?_) (by rw [ak cr] at hc;exact hc) ⟨dx,by rw [ak cr.symm];exact ae⟩ ?_
  ·have br:b≠rd:=λz=>m (by rw [z];exact UE.mpr rfl)
   have hc0:H c=none:=by rw [ak cr] at hc;exact hc
   rw [ak (aF e hc0),ak br]
   exact e
  ·rw [ae,show ((pl:Int)+(n:Int) - (n:Int))=(pl:Int) by omega,show ((pl:Int)+(n:Int))=((pl+n:Nat):Int) by push_cast;rfl,Pp _ _ _ (by rw [UA];exact hl),<- List.map_drop,<- List.map_take]
end
end HR
namespace HR
open Vbapaj in
section
variable (h:House)
theorem OY (i t:Int) (l:List Int):step h (.lie i t l)=onHost h i λa i=>if within t 0 a.turns=false then no h (-1) else match runOf a l with
  | none=>no h (-1)
  | some s=>bend h a i ({ turn:=t.toNat,says:=some s }::(hostAt a i).bent):=by unfold step;rfl
theorem Lo (i t:Int):step h (.mute i t)=onHost h i λa i=>if within t 0 a.turns=false then no h (-1) else bend h a i ({ turn:=t.toNat,says:=none }::(hostAt a i).bent):=by unfold step;rfl
theorem GC (i t:Int):step h (.honest i t)=onHost h i λa i=>if within t 0 a.turns=false then no h (-1) else bend h a i ((hostAt a i).bent.filter λb=>b.turn != t.toNat):=by unfold step;rfl
theorem JP (i t:Int):step h (.heard i t)=onHost h i λa i=>if within t 0 a.turns=false then no h (-1) else match heardOf a i t.toNat with
  | none=>no h (-6)
  | some s=>(h,{ value:=t,rows:=[told s] }):=by unfold step;rfl
theorem Ld (i t:Int):step h (.says i t)=onHost h i λa i=>if within t 0 a.turns=false then no h (-1) else match saysOf a i t.toNat with
  | none=>no h (-6)
  | some s=>(h,{ value:=t,rows:=[told s] }):=by unfold step;rfl
theorem LH (i:Int):step h (.host i)=onHost h i λa i=>(h,{ value:=((hostAt a i).stake:Int),more:=Vbapaj.ints [natOf (hostAt a i).out,(hostAt a i).bent.length,a.saidTo.getD i 0,openOf a i] }):=by unfold step;rfl
theorem Mp:step h .affair=onAffair h λa=>(h,{ value:=(a.turns:Int),more:=Vbapaj.ints [a.mayLose,a.hosts.length,(ends a).length,a.disputes.length,(a.disputes.filter isOpen).length,a.lost,a.purse,natOf a.found.isSome,a.heard.length] }):=by unfold step;rfl
theorem PX (l:List Int):step h (.work l)=onAffair h λa=>match runOf a l with
  | none=>no h (-1)
  | some s=>(h,{ value:=0,rows:=[told (turn a.program s)] }):=by unfold step;rfl
theorem P1 (x y:Int):step h (.pair x y)=onHost h x λa x=>onHost h y λ_ y =>
  if a.found.isSome=true then no h (-3)
  else if (isIn a x&&isIn a y)=false then no h (-10)
  else if x=y∨together a x y=true then no h (-11)
  else match heardOf a x a.turns,heardOf a y a.turns with
  | some r,some s =>
   if r=s then no h (-12)
   else (withAffair h (allWeighed { a with disputes:=a.disputes++[{ no:=a.disputes.length+1,x:=x,y:=y,lo:=0,agreed:=a.begin_,hi:=a.turns,asked:=a.turns / 2,saidX:=0,saidY:=0,lost:=0,questions:=if a.turns<=1 then 0 else 1,verdict:=none }] }),{ value:=((a.disputes.length+1:Nat):Int) })
  | _,_=>no h (-4):=by unfold step;rfl
theorem Rr (d i:Int):step h (.say d i)=onHost h i λa i =>
  if a.found.isSome=true then no h (-3)
  else if isIn a i=false then no h (-10)
  else if d=0 then (if (heardOf a i a.turns).isSome=true then no h (-4) else asked h { a with saidTo:=a.saidTo.modify i λn=>n+1 } 0 i a.turns)
  else match (if d < 0 then none else disputeAt a d.toNat) with
  | none=>no h (-6)
  | some e =>
   if isOpen e=false then no h (-3)
   else if hasPart e i=false then no h (-6)
   else if (heardOf a i e.asked).isSome=true then no h (-4)
   else asked h (withDispute a (if e.x=i then { e with saidX:=e.saidX+1 } else { e with saidY:=e.saidY+1 })) e.no i e.asked:=by unfold step;rfl
theorem Pq (d i:Int):step h (.hush d i)=onHost h i λa i =>
  if a.found.isSome=true then no h (-3)
  else if isIn a i=false then no h (-10)
  else if d=0 then (
   if (heardOf a i a.turns).isSome=true then no h (-4)
   else if a.saidTo.getD i 0<=a.mayLose then no h (-8)
   else if underWay h 0 i a.turns=true then no h (-9)
   else (withAffair h (leftOnes (putOut a i none)),{ value:=(i:Int) }))
  else match (if d < 0 then none else disputeAt a d.toNat) with
  | none=>no h (-6)
  | some e =>
   if isOpen e=false then no h (-3)
   else if hasPart e i=false then no h (-6)
   else if (heardOf a i e.asked).isSome=true then no h (-4)
   else if (if e.x=i then e.saidX else e.saidY)<=a.mayLose then no h (-8)
   else if underWay h e.no i e.asked=true then no h (-9)
   else (withAffair h (judged (withDispute a { e with verdict:=some (.silent i) }) { e with verdict:=some (.silent i) }),{ value:=(i:Int) }):=by unfold step;rfl
theorem Eb (w:Int):step h (.deliver w)=onAffair h λa=>match wordAt h w with
  | none=>no h (-6)
  | some x=>(comes (without h x) a x,{ value:=((comes (without h x) a x).line.length:Int) }):=by unfold step;rfl
theorem KI (w:Int):step h (.lose w)=onAffair h λa=>match wordAt h w with
  | none=>no h (-6)
  | some x =>
   if x.dispute=0 then (if a.mayLose<=a.lost then no h (-7) else ({ without h x with affair:=some { a with lost:=a.lost+1 },gone:=h.gone+1 },{ value:=((without h x).line.length:Int) }))
   else match disputeAt a x.dispute with
   | none=>no h (-7)
   | some e=>if a.mayLose<=e.lost then no h (-7) else ({ without h x with affair:=some (withDispute a { e with lost:=e.lost+1 }),gone:=h.gone+1 },{ value:=((without h x).line.length:Int) }):=by unfold step;rfl
theorem Mv (w:Int):step h (.double w)=match wordAt h w with
  | none=>no h (-6)
  | some x=>if LINE<=h.line.length then no h (-5) else ({ h with line:=h.line++[{ x with id:=h.next }],next:=h.next+1 },{ value:=(h.next:Int) }):=by unfold step;rfl
theorem O0:step h .close=onAffair h λa =>
  if a.found.isSome=true then no h (-3)
  else match ends a with
  | []=>no h (-10)
  | e::r=>match e.2 with
   | none=>no h (-4)
   | some s =>
    if r.any (λx=>x.2.isNone)=true then no h (-4)
    else if r.any (λx=>x.2 != some s)=true then no h (-12)
    else (withAffair h { a with found:=some s },{ value:=((ends a).length:Int),rows:=[told s] }):=by unfold step;rfl
theorem QG (t k n st:Int) (p b:List Int):step h (.new t k n st p b) =
  if (within t 1 2000&&(within k 0 5&&(within n 2 6&&within st 0 1000)))=false then no h (-1)
  else if h.line.isEmpty=false then no h (-3)
  else match programOf 20 p with
  | none=>no h (-1)
  | some o =>
   if (!o.isEmpty&&(decide (1<=b.length)&&(decide (b.length<=6)&&isNums b)))=false then no h (-1)
   else (withAffair h (Ax o { at_:=0,nums:=b.map VI } t.toNat k.toNat n.toNat st.toNat),{ value:=n }):=by unfold step;rfl
theorem hJ {h:House} {A:Affair} {f:Affair->House × Answer} (e:h.affair=some A):onAffair h f=f A:=by
 unfold onAffair
 rw [e]
end
end HR
namespace HR
open PySem PySem.Spec L2
open PyProof.Rows hiding St
section
variable {a:bI} {bad:List Addr} {H H':Hp} {L:Lay} {A:Ux}
theorem aJ.OQ (F:aJ a bad H L A) (k:∀ b o,H b=some o->((∃ r,Lv A r/\b=L.ad r)∨b=L.r∨(∃ xs,o=.tup xs)∨(∃ ob u,o=.frz ob u)∨((∃ xs,o=.lst xs)/\¬ b∈L.ad .ls::L.ad .dl::bad))->H' b=some o):aJ a bad H' L A:=by
 have ro:∀ (r:Role) o,Lv A r->H (L.ad r)=some o->H' (L.ad r)=some o:=λr o hr e=>k _ _ e (.inl ⟨r,hr,rfl⟩)
 have tu:∀ b xs,H b=some (.tup xs)->H' b=some (.tup xs):=λb xs e=>k _ _ e (.inr (.inr (.inl ⟨xs,rfl⟩)))
 have li:∀ b xs,H b=some (.lst xs)->¬ b∈L.ad .ls::L.ad .dl::bad->H' b=some (.lst xs):=λb xs e n=>k _ _ e (.inr (.inr (.inr (.inr ⟨⟨xs,rfl⟩,n⟩))))
 refine ⟨F.inj,?_,?_,F.M6,li _ _ F.hl F.N7,λi hi=>?_,λi hi=>?_,λi hi=>?_,?_,ro .dl _ trivial F.dl,λj d hj=>?_,F.OR,F.N7,F.FL⟩
 ·obtain ⟨dx,h⟩:=F.af
  exact ⟨dx,ro .af _ trivial h⟩
 ·obtain ⟨⟨dx,h1⟩,h2,h3,h4,h5,h6,h7,h8⟩:=F.run
  exact ⟨⟨dx,k _ _ h1 (.inr (.inl rfl))⟩,li _ _ h2 F.OR,h3,λi q o hq ho=>tu _ _ (h4 i q o hq ho),ro .ls _ trivial h5,h6,h7,λi u hu=>tu _ _ (h8 i u hu)⟩
 ·obtain ⟨dx,h⟩:=F.host i hi
  exact ⟨dx,ro (.host i) _ hi h⟩
 ·obtain ⟨⟨kvs,h,hD⟩,tb⟩:=F.tell i hi
  exact ⟨⟨kvs,ro (.tell i) _ hi h,DR.imp (λv l hh=>CZ.qr (l:=[]) tu li hh) hD⟩,tb⟩
 ·obtain ⟨kvs,h,hD⟩:=F.pS i hi
  exact ⟨kvs,ro (.pS i) _ hi h,DR.imp (λv s ⟨q,e,hq⟩=>⟨q,e,tu _ _ hq⟩) hD⟩
 ·obtain ⟨⟨dx,h1⟩,h2,kvs,h3,h4⟩:=F.op
  exact ⟨⟨dx,ro .op _ trivial h1⟩,tu _ _ h2,kvs,ro .oa _ trivial h3,h4⟩
 ·have hl:j < A.disputes.length:=(U5.mp hj).1
  obtain ⟨⟨dx,h1⟩,⟨o,h2,h2'⟩,h3,h4,h5⟩:=F.aH j d hj
  exact ⟨⟨dx,ro (.aH j) _ hl h1⟩,⟨o,k _ _ h2 (.inr (.inr (.inr (.inl ⟨_,_,rfl⟩)))),h2'⟩,tu _ _ h3,ro (.bM j) _ hl h4,tu _ _ h5⟩
theorem aJ.Er (F:aJ a bad H L A) {r:Role} (hr:Lv A r) {p C dx:Addr} {f:Str} {v:V} {rest:List (Str × V)} (h:H p=some (.ins C dx ((f,v)::rest))) (h1:f≠"run") (h2:f≠"hosts") (h3:f≠"stake"):p≠L.ad r:=λe=>by
 rcases F.kind hr with ⟨_,_,g,_,_,h4,hg⟩ | ⟨_,h4⟩ | ⟨⟨_,h4⟩,_⟩
 ·refine kL h h4 ?_ e
  rcases hg with rfl | rfl | rfl<;>assumption
 ·rw [e,h4] at h;cases h
 ·rw [e,h4] at h;cases h
theorem aJ.RT (F:aJ a bad H L A) {r:Role} (hr:Lv A r) {p:Addr} {o:Obj} {u:HO} (h:H p=some (.frz o u)):p≠L.ad r:=λe=>by
 rcases F.kind hr with ⟨_,_,g,_,_,h4,hg⟩ | ⟨_,h4⟩ | ⟨⟨_,h4⟩,_⟩<;>(rw [e,h4] at h;cases h)
end
def zX (ln:Addr) (v:V):List (Str × V):=[("line",.ref ln),("affair",v)]
def AB (L:Lay) (h:UG):V:=match h.affair with
 | none=>.dH
 | some _=>.ref (L.ad .af)
structure bq (a:bI) (bad:List Addr) (H:Hp) (be ln wd:Addr) (L:Lay) (h:UG):Prop where
 ins:∃ dx,H be=some (.ins a.aL dx (zX ln (AB L h)))
 line:mK a H ln wd h.line h.next h.came h.gone
 j5:∀ A,h.affair=some A->aJ a bad H L A
 Qe:∀ A r,h.affair=some A->Lv A r->wd≠L.ad r
 Iy:∀ A r,h.affair=some A->Lv A r->¬ L.ad r∈bad
 zj:∀ x∈bad,∃ xs,H x=some (.lst xs)
def Own (L:Lay) (be ln wd:Addr) (h:UG) (x:Addr):Prop:=x=be∨x=ln∨x=wd∨∃ A r,h.affair=some A/\Lv A r/\x=L.ad r
section
variable {a:bI} {bad:List Addr} {H H':Hp} {be ln wd:Addr} {L:Lay} {h:UG}
theorem mK.OQ {line:List U4} {n c g:Nat} (Ln:mK a H ln wd line n c g) (k:∀ b o,H b=some o->(b=ln∨b=wd∨(∃ xs,o=.tup xs)∨∃ C dx v r,o=.ins C dx (("dispute",v)::r))->H' b=some o):mK a H' ln wd line n c g:=by
 obtain ⟨⟨dx,h1⟩,kvs,h2,h3⟩:=Ln
 refine ⟨⟨dx,k _ _ h1 (.inl rfl)⟩,kvs,k _ _ h2 (.inr (.inl rfl)),DR.imp (λv x ⟨q,e,d,sv,hq,ho⟩=>⟨q,e,d,sv,k _ _ hq (.inr (.inr (.inr ⟨_,_,_,_,rfl⟩))),ho.qr λb xs e=>k _ _ e (.inr (.inr (.inl ⟨xs,rfl⟩)))⟩) h3⟩
theorem bq.same (B:bq a bad H be ln wd L h) (s:az H H'):bq a bad H' be ln wd L h:=by
 obtain ⟨dx,h1⟩:=B.ins
 exact ⟨⟨dx,s _ _ h1⟩,B.line.OQ λb o e _=>s _ _ e,λA e=>(B.j5 A e).same s,B.Qe,B.Iy,λx hx=>by obtain ⟨xs,e⟩:=B.zj x hx;exact ⟨xs,s _ _ e⟩⟩
theorem bq.Ou (B:bq a bad H be ln wd L h) {A:Ux} {r:Role} (e:h.affair=some A) (hr:Lv A r):be≠L.ad r/\ln≠L.ad r:=by
 obtain ⟨dx,h1⟩:=B.ins
 obtain ⟨⟨dl,h2⟩,_⟩:=B.line
 exact ⟨(B.j5 A e).Er hr h1 (by decide) (by decide) (by decide),(B.j5 A e).Er hr h2 (by decide) (by decide) (by decide)⟩
theorem bq.ne (B:bq a bad H be ln wd L h):be≠ln/\be≠wd/\ln≠wd:=by
 obtain ⟨dx,h1⟩:=B.ins
 obtain ⟨⟨dl,h2⟩,kvs,h3,_⟩:=B.line
 exact ⟨kL h1 h2 (by decide),aV h1 h3 (by intro z;cases z),aV h2 h3 (by intro z;cases z)⟩
theorem bq.Qi (B:bq a bad H be ln wd L h) {x:Addr} (hx:x∈bad):¬ Own L be ln wd h x:=by
 obtain ⟨xs,e⟩:=B.zj x hx
 obtain ⟨dx,h1⟩:=B.ins
 obtain ⟨⟨dl,h2⟩,kvs,h3,_⟩:=B.line
 rintro (rfl | rfl | rfl | ⟨A,r,eA,hr,rfl⟩)
 ·rw [e] at h1;cases h1
 ·rw [e] at h2;cases h2
 ·rw [e] at h3;cases h3
 ·exact B.Iy A r eA hr hx
theorem bq.yV (B:bq a bad H be ln wd L h) {A A':Ux} {L':Lay} (eA:h.affair=some A) (S:Step H L A H' L' A') (F:aJ a bad H' L' A'):bq a bad H' be ln wd L' { h with affair:=some A' }:=by
 obtain ⟨dx,h1⟩:=B.ins
 have F0:=B.j5 A eA
 have new:∀ r x,Lv A' r->H x≠none->(∀ r0,Lv A r0->x≠L.ad r0)->x≠L'.ad r:=λr x hr hx n e=>by
  rcases S.old r hr with ⟨r0,h0,e0⟩ | h0
  ·exact n r0 h0 (e.trans e0)
  ·rw [<- e] at h0;exact hx h0
 have e1:AB L h=.ref (L'.ad .af):=by unfold AB;rw [eA,S.af]
 obtain ⟨⟨dl,h2⟩,kvs,h3,_⟩:=id B.line
 refine ⟨⟨dx,?_⟩,B.line.OQ λb o e c=>S.keep b o e λr hr=>?_,λC e=>?_,λC r e hr=>?_,λC r e hr=>?_,λx hx=>?_⟩
 ·rw [e1] at h1
  exact S.keep _ _ h1 λr hr=>(B.Ou eA hr).1
 ·rcases c with rfl | rfl | ⟨xs,rfl⟩ | ⟨C,d,v,rest,rfl⟩
  ·exact (B.Ou eA hr).2
  ·exact B.Qe A r eA hr
  ·intro z;rw [z] at e;exact F0.P9 hr xs e
  ·exact F0.Er hr e (by decide) (by decide) (by decide)
 ·cases e;exact F
 ·cases e
  exact new r wd hr (by rw [h3];intro z;cases z) λr0 h0=>B.Qe A r0 eA h0
 ·cases e
  intro m
  obtain ⟨xs,q⟩:=B.zj _ m
  exact new r _ hr (by rw [q];intro z;cases z) (λr0 h0 z=>B.Iy A r0 eA h0 (by rw [<- z];exact m)) rfl
 ·obtain ⟨xs,q⟩:=B.zj x hx
  exact ⟨xs,S.keep _ _ q λr0 h0 z=>B.Iy A r0 eA h0 (by rw [<- z];exact hx)⟩
theorem bq.SI (B:bq a bad H be ln wd L h) {A:Ux} (eA:h.affair=some A) (k:∀ b o,H b=some o->b≠be->b≠ln->b≠wd->¬ b∈bad->H' b=some o):aJ a bad H' L A:=by
 have F:=B.j5 A eA
 obtain ⟨dx,h1⟩:=B.ins
 obtain ⟨⟨dl,h2⟩,kvs,h3,_⟩:=B.line
 refine F.OQ λb o e c=>?_
 obtain ⟨dr,h4⟩:=F.run.run
 have nb:(∀ xs,o≠.lst xs)->¬ b∈bad:=λn m=>by
  obtain ⟨xs,q⟩:=B.zj b m
  rw [q] at e
  cases e
  exact n xs rfl
 rcases c with ⟨r,hr,rfl⟩ | rfl | ⟨xs,rfl⟩ | ⟨ob,u,rfl⟩ | ⟨⟨xs,rfl⟩,n⟩
 ·exact k _ _ e (λz=>(B.Ou eA hr).1 z.symm) (λz=>(B.Ou eA hr).2 z.symm) (λz=>B.Qe A r eA hr z.symm) (B.Iy A r eA hr)
 ·rw [h4] at e
  cases e
  exact k _ _ h4 (kL h4 h1 (by decide)) (kL h4 h2 (by decide)) (aV h4 h3 (by intro z;cases z)) (nb (by intro xs z;cases z))
 ·exact k _ _ e (aV e h1 (by intro z;cases z)) (aV e h2 (by intro z;cases z)) (aV e h3 (by intro z;cases z)) (nb (by intro xs z;cases z))
 ·exact k _ _ e (aV e h1 (by intro z;cases z)) (aV e h2 (by intro z;cases z)) (aV e h3 (by intro z;cases z)) (nb (by intro xs z;cases z))
 ·exact k _ _ e (aV e h1 (by intro z;cases z)) (aV e h2 (by intro z;cases z)) (aV e h3 (by intro z;cases z)) λm=>n (U2 _ (U2 _ m))
theorem bq.N4 (B:bq a bad H be ln wd L h) {line:List U4} {n c g:Nat} (k:Keeps [ln,wd] H H') (Ln:mK a H' ln wd line n c g):bq a bad H' be ln wd L { h with line:=line,next:=n,came:=c,gone:=g }:=by
 obtain ⟨dx,h1⟩:=B.ins
 obtain ⟨n1,n2,n3⟩:=B.ne
 have off:∀ b,b≠ln->b≠wd->¬ b∈[ln,wd]:=λb h1 h2 m=>by
  rcases UL.mp m with z | m
  ·exact h1 z
  ·exact h2 (UE.mp m)
 refine ⟨⟨dx,k _ _ h1 (off _ n1 n2)⟩,Ln,λA e=>B.SI e λb o q _ c1 c2 _=>k _ _ q (off _ c1 c2),B.Qe,B.Iy,λx hx=>?_⟩
 obtain ⟨xs,q⟩:=B.zj x hx
 obtain ⟨⟨dl,h2⟩,kvs,h3,_⟩:=B.line
 exact ⟨xs,k _ _ q (off _ (aV q h2 (by intro z;cases z)) (aV q h3 (by intro z;cases z)))⟩
theorem bq.given (B:bq a bad H be ln wd L h) {g:Addr} {ys:List V} (hg:g∈bad):bq a bad (upd H g (.lst ys)) be ln wd L h:=by
 have ng:=B.Qi hg
 obtain ⟨xs,hx⟩:=B.zj g hg
 obtain ⟨dx,h1⟩:=B.ins
 refine ⟨⟨dx,by rw [ak (λz=>ng (.inl z.symm))];exact h1⟩,B.line.OQ λb o e c=>?_,λA e=>B.SI e λb o q _ _ _ m=>?_,B.Qe,B.Iy,λx hx'=>?_⟩
 ·rw [ak]
  ·exact e
  ·rintro rfl
   rcases c with rfl | rfl | ⟨ys,rfl⟩ | ⟨C,d,v,rest,rfl⟩
   ·exact ng (.inr (.inl rfl))
   ·exact ng (.inr (.inr (.inl rfl)))
   ·rw [e] at hx;cases hx
   ·rw [e] at hx;cases hx
 ·rw [ak (λz=>m (by rw [z];exact hg))]
  exact q
 ·by_cases c:x=g
  ·subst c;exact ⟨ys,ae⟩
  ·rw [ak c];exact B.zj x hx'
end
def u9 (x:Vn):List Int:=x.value::(x.more++x.rows.flatMap λr=>(r.length:Int)::r)
structure Done (a:bI) (bad:List Addr) (H:Hp) (be ln wd:Addr) (L:Lay) (h:UG) (H':Hp) (ln' wd':Addr) (L':Lay) (r:UG × Vn) (c:Addr):Prop where
 at_:bq a bad H' be ln' wd' L' r.1
 keep:∀ b o,H b=some o->¬ Own L be ln wd h b->H' b=some o
 new:¬ c∈bad
 told:H' c=some (.lst ((u9 r.2).map V.int))
structure Given (a:bI) (bad:List Addr) (H:Hp) (be nm rw:Addr) (ln wd:Addr) (L:Lay) (h:UG) (N:Nat) (xs:List Int) (ps:List Addr) (rs:List (List Int)):Prop where
 at_:bq a bad H be ln wd L h
 ok:oS h N
 n:N<=400
 nums:H nm=some (.lst (xs.map V.int))
 rows:H rw=some (.lst (ps.map V.ref))
 row:Paired (λp (r:List Int)=>H p=some (.lst (r.map V.int))) ps rs
 O6:∀ r∈rs,r.length<=100
def fA (K:Uy) (a:bI) (C:List Int->List (List Int)->Vy->Prop) (W:UG->Prop):Sp:=λvs H Q _=>∃ (bad:List Addr) (be nm rw ln wd:Addr) (L:Lay) (h:UG) (N:Nat) (xs:List Int) (ps:List Addr) (rs:List (List Int)) (c:Vy),
 vs=[.ref be,.ref nm,.ref rw]/\Given a bad H be nm rw ln wd L h N xs ps rs/\C xs rs c/\W h /\
 ∀ (H':Hp) (ln' wd':Addr) (L':Lay) (cc:Addr),Done a bad H be ln wd L h H' ln' wd' L' (UH h c) cc->Q (.ref cc) H'
abbrev Any (_:UG):Prop:=True
abbrev vQ (h:UG):Prop:=∃ A,h.affair=some A
section
variable {P:Program} {w:World} {K:Uy} {mg:Str->Option Value} {base:Heap} {a:bI}
def Tp (K:Uy) (H:Hp) (p:Addr) (xs:List V):Prop:=bf K H p xs∨gc K H p xs
theorem Tp.same {K:Uy} {H H':Hp} {p:Addr} {xs:List V} (h:Tp K H p xs) (s:az H H'):Tp K H' p xs:=h.elim (λh=>.inl (s.seq h)) λh=>.inr (gc.same s h)
def Dl (K:Uy) (a:bI):Sp:=λvs H Q _=>∃ (p:Addr) (ns:List Int),vs=[.ref p]/\Tp K H p (ns.map V.int)/\ns.length<=10000 /\
 ∀ (H':Hp) (c:Addr),az H H'->H c=none->H' c=some (.lst (((ns.length:Int)::ns).map V.int))->Q (.ref c) H'
theorem eR (T:Txt K mg a):a8 P w K mg base eS 1 a.j9 a.kM ["row"] (Dl K a):=by
 refine T.cp.ok Dm ?_ ?_
 ·rintro _ _ _ _ ⟨_,_,rfl,_⟩
  rfl
 ·rintro cdv A outer s H _ Q E hr ⟨p,ns,rfl,hS,hl,k⟩
  refine ⟨_,(ao (aE (b8 lQ (aT (aa (aU (a7 (K:=K)) (by rfl) T.dO UU (aa (pv 0) aj)) aj)) (gb (Ce (K:=K)) (by rfl) T.Hd rq (aa (pv 0) aj))))),?_⟩
  have hz:=sizeLine_eq
  refine ⟨_,rfl,p,_,rfl,hS,nz,λc hc=>?_⟩
  have s1:=az.laid (o:=.lst [.int ((ns.map V.int).length:Int)]) hc
  refine ⟨_,rfl,p,_,rfl,hS.same s1,λe he=>?_⟩
  have s2:=s1.trans (az.laid (o:=.lst (ns.map V.int)) he)
  refine ⟨c,e,_,_,rfl,rfl,by rw [ak (aF ae he)];exact ae,ae,?_,λf hf=>?_⟩
  ·show 1+(ns.map V.int).length<=sizeLine
   rw [UA];omega
  ·refine k _ f (s2.trans (az.laid hf)) (s2.free hf) ?_
   rw [ae,UA]
   rfl
def Ie (K:Uy) (a:bI):Sp:=λvs H Q _=>∃ (b:Bool),vs=[.bl b]/\Q (.int ((Vbapaj.natOf b:Nat):Int)) H
theorem Bb (T:Txt K mg a):a8 P w K mg base eS 1 a.qu a.p7 ["holds"] (Ie K a):=by
 refine T.qm.ok HA ?_ ?_
 ·rintro _ _ _ _ ⟨_,rfl,_⟩
  rfl
 ·rintro cdv A outer s H _ Q E hr ⟨b,rfl,k⟩
  refine ⟨_,(ao (aE (ox (bJ (pv 0)) ax ax))),?_⟩
  refine ⟨_,rfl,_,rfl,?_⟩
  cases b with
  | true=>exact bc k
  | false=>exact bu k
def FI (K:Uy) (a:bI):Sp:=λvs H Q _=>∃ (be dx:Addr),vs=[.ref be]/\H be=some (.ins a.aL dx []) /\
 ∀ (H':Hp) (ln wd:Addr) (L:Lay),Keeps [be] H H'->(∀ bad,(∀ x∈bad,∃ xs,H x=some (.lst xs))->bq a bad H' be ln wd L Vbapaj.empty)->Q .dH H'
theorem Gp {bad:List Addr} {H:Hp} {be ln wd dx:Addr} {L:Lay} {h:UG} (hn:h.affair=none) (h1:H be=some (.ins a.aL dx (zX ln .dH))) (Ln:mK a H ln wd h.line h.next h.came h.gone) (hb:∀ x∈bad,∃ xs,H x=some (.lst xs)):bq a bad H be ln wd L h:=by
 refine ⟨⟨dx,?_⟩,Ln,λA e=>?_,λA r e=>?_,λA r e=>?_,hb⟩
 ·unfold AB;rw [hn];exact h1
 all_goals (rw [hn] at e;cases e)
def lay0 (p:Addr):Lay:=⟨λ_=>p,p,p,p,p,[],[],λ_=>p,λ_=>p,λ_=>p,λ_=>[]⟩
theorem FP (T:Txt K mg a):a8 P w K mg base eS 3 a.nZ a.nE ["self"] (FI K a):=by
 refine T.wb.ok FR ?_ ?_
 ·rintro _ _ _ _ ⟨_,_,rfl,_⟩
  rfl
 ·rintro cdv A outer s H _ Q E hr ⟨be,dx,rfl,hbe,k⟩
  refine ⟨_,(ah (aS (K:=K) (pv 0) (Ek T.Ia (Az T) hr.lo rfl T.oF T.ua .nil aG) rfl)
   (ao (aS (K:=K) (pv 0) ib rfl))),?_⟩
  refine λx d nx nd ne=>⟨x,d,rfl,ae,λH1 wd kp hwd Ln=>⟨rfl,?_⟩⟩
  have s1:az H H1:=az.made nx nd λb o e n=>kp b o e λm=>n (UE.mp m)
  have xb:x≠be:=(aF hbe nx).symm
  refine ⟨_,rfl,be,a.aL,dx,_,rfl,s1 _ _ hbe,T.aR,T.aX,by show 0 < 1000;decide,?_⟩
  refine ⟨_,rfl,be,a.aL,dx,_,rfl,ae,T.aR,T.aI,by show 1 < 1000;decide,?_⟩
  rw [b9]
  have kk:∀ b o,H1 b=some o->b≠be->upd H1 be (.ins a.aL dx (a6 (Str.ofString "affair") .dH (a6 (Str.ofString "line") (.ref x) []))) b=some o:=λb o e n=>by rw [ak n];exact e
  have hb1:=s1 _ _ hbe
  refine k _ x wd (lay0 be) (λb o e n=>kk _ _ (s1 _ _ e) λz=>n (by rw [z];exact UE.mpr rfl)) λbad hb=>Gp rfl ae (Ln.OQ λb o e c=>kk _ _ e ?_) λy hy=>?_
  ·rintro rfl
   rw [hb1] at e
   cases e
   rcases c with rfl | rfl | ⟨ys,z⟩ | ⟨C,d,v,rest,z⟩
   ·exact xb rfl
   ·obtain ⟨_,kvs,q,_⟩:=Ln
    rw [hb1] at q;cases q
   ·cases z
   ·cases z
  ·obtain ⟨ys,q⟩:=hb y hy
   exact ⟨ys,kk _ _ (s1 _ _ q) (aV q hbe (by intro z;cases z))⟩
theorem Given.fresh {bad:List Addr} {H:Hp} {be nm rw ln wd:Addr} {L:Lay} {h:UG} {N:Nat} {xs:List Int} {ps:List Addr} {rs:List (List Int)} {c:Addr} (G:Given a bad H be nm rw ln wd L h N xs ps rs) (hc:H c=none):¬ c∈bad:=λm=>by
 obtain ⟨ys,e⟩:=G.at_.zj c m
 rw [hc] at e
 cases e
abbrev zy (K:Uy) (a:bI):Sp:=fA K a (λxs rs c=>c=.clear) Any
theorem FH (T:Txt K mg a):a8 P w K mg base eS 3 a.jn a.lH ["bench","numbers","rows"] (zy K a):=by
 refine T.rD.ok FQ ?_ ?_
 ·rintro _ _ _ _ ⟨_,_,_,_,_,_,_,_,_,_,_,_,_,rfl,_⟩
  rfl
 ·rintro cdv A outer s H _ Q E hr ⟨bad,be,nm,rw,ln,wd,L,h,N,xs,ps,rs,c,rfl,G,rfl,_,k⟩
  refine ⟨_,(ah (aS (K:=K) (pv 0) (Ek T.Ia (Az T) hr.lo rfl T.oF T.ua .nil aG) rfl)
   (ah (aS (K:=K) (pv 0) ib rfl)
   (ao (aE (aT (aa ax aj)))))),?_⟩
  obtain ⟨dx,hbe⟩:=G.at_.ins
  refine λx d nx nd ne=>⟨x,d,rfl,ae,λH1 wd1 kp hwd Ln=>⟨rfl,?_⟩⟩
  have s1:az H H1:=az.made nx nd λb o e n=>kp b o e λm=>n (UE.mp m)
  have xb:x≠be:=(aF hbe nx).symm
  refine ⟨_,rfl,be,a.aL,dx,_,rfl,s1 _ _ hbe,T.aR,T.aX,by show 2 < 1000;decide,?_⟩
  refine ⟨_,rfl,be,a.aL,dx,_,rfl,ae,T.aR,T.aI,by show 2 < 1000;decide,?_⟩
  rw [b9]
  refine ⟨nz,λc hc=>?_⟩
  have hb1:=s1 _ _ hbe
  have cb:c≠be:=λz=>by rw [z,ae] at hc;cases hc
  have hc1:H1 c=none:=by rw [ak cb] at hc;exact hc
  have kk:∀ o1 o2 b o,H1 b=some o->b≠be->upd (upd H1 be o1) c o2 b=some o:=λo1 o2 b o e n=>by rw [ak (aF e hc1),ak n];exact e
  refine k _ x wd1 L c ⟨Gp rfl (dx:=dx) (by rw [ak cb.symm,ae];rfl) (Ln.OQ λb o e q=>kk _ _ _ _ e ?_) λy hy=>?_,λb o e n=>kk _ _ _ _ (s1 _ _ e) λz=>n (.inl z),G.fresh (s1.free hc1),ae⟩
  ·rintro rfl
   rw [hb1] at e
   cases e
   rcases q with rfl | rfl | ⟨ys,z⟩ | ⟨C,d,v,rest,z⟩
   ·exact xb rfl
   ·obtain ⟨_,kvs,q,_⟩:=Ln
    rw [hb1] at q;cases q
   ·cases z
   ·cases z
  ·obtain ⟨ys,q⟩:=G.at_.zj y hy
   exact ⟨ys,kk _ _ _ _ (s1 _ _ q) (aV q hbe (by intro z;cases z))⟩
theorem vq (v:Int) (r:List Int):u9 { value:=v,rows:=[r] }=v::((r.length:Int)::r):=by
 unfold u9
 simp
theorem Given.only {bad:List Addr} {H H':Hp} {be nm rw ln wd:Addr} {L:Lay} {h:UG} {N:Nat} {xs:List Int} {ps:List Addr} {rs:List (List Int)} {r:UG × Vn} {c:Addr} (G:Given a bad H be nm rw ln wd L h N xs ps rs) (hr:r.1=h) (s:az H H') (hc:H c=none) {ns:List Int} (hn:ns=u9 r.2) (ht:H' c=some (.lst (ns.map V.int))):Done a bad H be ln wd L h H' ln wd L r c :=
 ⟨by rw [hr];exact G.at_.same s,λb o e _=>s _ _ e,G.fresh hc,by rw [<- hn];exact ht⟩
abbrev yP (K:Uy) (a:bI):Sp:=fA K a (λxs rs c=>c=.counts) Any
theorem El (T:Txt K mg a):a8 P w K mg base eS 1 a.gW a.jM ["bench","numbers","rows"] (yP K a):=by
 refine T.pO.ok xB ?_ ?_
 ·rintro _ _ _ _ ⟨_,_,_,_,_,_,_,_,_,_,_,_,_,rfl,_⟩
  rfl
 ·rintro cdv A outer s H _ Q E hr ⟨bad,be,nm,rw,ln,wd,L,h,N,xs,ps,rs,c,rfl,G,rfl,_,k⟩
  refine ⟨_,(ah (aP (i:=3) xB.nd rfl (Or.inl rfl) (ai (K:=K) (pv 0) rfl))
   (ao (aE (aT (aa (ai (K:=K) (pv 3) rfl) (aa (aU vC (by rfl) T.dO UU (aa (ai (K:=K) (pv 3) rfl) aj)) (aa (ai (K:=K) (pv 3) rfl) (aa (ai (K:=K) (pv 3) rfl) aj)))))))),?_⟩
  obtain ⟨dx,hbe⟩:=G.at_.ins
  obtain ⟨⟨dl,hln⟩,kvs,hwd,hD⟩:=G.at_.line
  refine ⟨_,rfl,be,a.aL,dx,_,_,rfl,hbe,T.aR,T.aX,rfl,?_⟩
  refine ⟨_,rfl,ln,a.bh,dl,_,_,rfl,hln,T.bO,T.tU,rfl,_,rfl,ln,a.bh,dl,_,_,rfl,hln,T.bO,T.bp,rfl,wd,kvs,rfl,hwd,_,rfl,ln,a.bh,dl,_,_,rfl,hln,T.bO,T.yh,rfl,_,rfl,ln,a.bh,dl,_,_,rfl,hln,T.bO,T.xI,rfl,Tt,λc hc=>?_⟩
  have e:kvs.length=h.line.length:=by rw [hD.len];exact UA ..
  exact k _ _ _ _ c (G.only rfl (az.laid hc) hc (ns:=[(h.next:Int),(h.line.length:Int),(h.came:Int),(h.gone:Int)]) rfl (by rw [ae,<- e];rfl))
abbrev Bu (K:Uy) (a:bI):Sp:=fA K a (λxs rs c=>c=.line) Any
theorem Ip {H:Hp}:∀ {kvs:List (Key × V)} {l:List U4},DR (WS a H) kvs (Fd l)->kvs.map (λkv=>kV kv.1)=(Vbapaj.ints (l.map λw=>w.id)).map V.int
 | [],[],_=>rfl
 | kv::kvs,x::l,.cons r h=>by
  rw [UT,r.1,Ip h]
  rfl
theorem G7 (T:Txt K mg a):a8 P w K mg base eS 2 a.kf a.mX ["bench","numbers","rows"] (Bu K a):=by
 refine T.ub.ok Bc ?_ ?_
 ·rintro _ _ _ _ ⟨_,_,_,_,_,_,_,_,_,_,_,_,_,rfl,_⟩
  rfl
 ·rintro cdv A outer s H _ Q E hr ⟨bad,be,nm,rw,ln,wd,L,h,N,xs,ps,rs,c,rfl,G,rfl,_,k⟩
  refine ⟨_,(ah (aP (i:=3) Bc.nd rfl (Or.inl rfl) (gb (Oy rfl) (by rfl) T.Hd rq (aa (ai (K:=K) (ai (K:=K) (pv 0) rfl) rfl) aj)))
   (ao (aE (b8 lQ (aT (aa (aU (a7 (K:=K)) (by rfl) T.dO UU (aa (pv 3) aj)) aj)) (bE (eR T) hr.lo rfl T.dm T.cp.kp T.dk .nil aG (aa (pv 3) aj)))))),?_⟩
  have hz:=sizeLine_eq
  obtain ⟨dx,hbe⟩:=G.at_.ins
  obtain ⟨⟨dl,hln⟩,kvs,hwd,hD⟩:=G.at_.line
  have e:kvs.length=h.line.length:=by rw [hD.len];exact UA ..
  have hl:=G.ok.ln
  have hN:=G.n
  refine ⟨_,rfl,be,a.aL,dx,_,_,rfl,hbe,T.aR,T.aX,rfl,ln,a.bh,dl,_,_,rfl,hln,T.bO,T.bp,rfl,wd,kvs,rfl,hwd,λp hp=>?_⟩
  have s1:=az.laid (o:=.lst (kvs.map λkv=>kV kv.1)) hp
  refine ⟨_,rfl,p,_,rfl,.inl (bf.of ae),nz,λc hc=>?_⟩
  have s2:=s1.trans (az.laid (o:=.lst [.int ((kvs.map λkv=>kV kv.1).length:Int)]) hc)
  refine ⟨_,rfl,p,Vbapaj.ints (h.line.map λw=>w.id),rfl,.inl (bf.of (by rw [ak (aF ae hc),ae,Ip hD])),by unfold Vbapaj.ints;rw [UA,UA];omega,λH3 f s3 hf h3=>?_⟩
  refine ⟨c,f,_,_,rfl,rfl,s3 _ _ ae,h3,?_,λg hg=>?_⟩
  ·show 1+(Vs V.int _).length<=sizeLine
   unfold Vbapaj.ints
   rw [UA,U0,UA,UA];omega
  ·refine k _ _ _ _ g (G.only rfl ((s2.trans s3).trans (az.laid hg)) ((s2.trans s3).free hg) (ns:=(h.line.length:Int)::(((Vbapaj.ints (h.line.map λw=>w.id)).length:Int)::Vbapaj.ints (h.line.map λw=>w.id))) ?_ ?_)
   ·exact (vq _ _).symm
   ·rw [ae,UA,e]
    rfl
end
section
variable {a:bI} {bad:List Addr} {H H':Hp} {be nm rw ln wd cc:Addr} {L L':Lay} {h:UG} {N:Nat} {xs:List Int} {ps:List Addr} {rs:List (List Int)} {r:UG × Vn}
theorem Given.refuse (G:Given a bad H be nm rw ln wd L h N xs ps rs) (s:az H H') (hc:H' cc=none) {n:Int} (hr:r=UO h n):Done a bad H be ln wd L h (upd H' cc (.lst [.int n])) ln wd L r cc :=
 G.only (by rw [hr];rfl) (s.trans (az.laid hc)) (s.free hc) (ns:=[n]) (by rw [hr];rfl) ae
theorem Given.j5 (G:Given a bad H be nm rw ln wd L h N xs ps rs) {A A':Ux} (eA:h.affair=some A) (S:Step H L A H' L' A') (F:aJ a bad H' L' A') (hr:r.1={ h with affair:=some A' }) (hc:¬ cc∈bad) {ns:List Int} (hn:ns=u9 r.2) (ht:H' cc=some (.lst (ns.map V.int))):Done a bad H be ln wd L h H' ln wd L' r cc :=
 ⟨by rw [hr];exact G.at_.yV eA S F,λb o e n=>S.keep b o e λr hr z=>n (.inr (.inr (.inr ⟨A,r,eA,hr,z⟩))),hc,by rw [<- hn];exact ht⟩
theorem bq.fresh (B:bq a bad H be ln wd L h) (hc:H cc=none):¬ cc∈bad:=λm=>by
 obtain ⟨ys,e⟩:=B.zj cc m
 rw [hc] at e
 cases e
theorem zY {A:Ux} (eA:h.affair=some A):({ h with affair:=some A }:UG)=h:=by
 cases h
 simp at eA
 rw [eA]
theorem Given.Jd (G:Given a bad H be nm rw ln wd L h N xs ps rs) {A:Ux} (eA:h.affair=some A):∃ dx,H be=some (.ins a.aL dx (zX ln (.ref (L.ad .af)))):=by
 obtain ⟨dx,e⟩:=G.at_.ins
 unfold AB at e
 rw [eA] at e
 exact ⟨dx,e⟩
theorem AQ {kvs:List (Key × V)} (hD:DR (WS a H) kvs (Fd h.line)) (z:Int):(Wg h z=none/\k6 kvs (Sum.inl z)=none)∨∃ x q,Wg h z=some x/\k6 kvs (Sum.inl z)=some (.ref q)/\vY a H q x/\z=(x.id:Int)/\(h.line.find? λy=>y.id == x.id)=some x/\x∈h.line:=by
 by_cases hz:z < 0
 ·refine .inl ⟨by unfold Wg;rw [if_pos hz],?_⟩
  cases e:k6 kvs (Sum.inl z) with
  | none=>rfl
  | some v =>
   obtain ⟨kv,hk,ek⟩:=UR.mp (LN e)
   obtain ⟨i,hi,ei⟩:=List.getElem_of_mem hk
   obtain ⟨p,_,q,_⟩:=hD.at (i:=i) (kv:=kv) (by rw [Vo hi,ei])
   rw [ek] at q
   injection q with q
   omega
 ·obtain ⟨n,rfl⟩:∃ n:Nat,z=(n:Int):=⟨z.toNat,by omega⟩
  have ew:Wg h (n:Int)=h.line.find? λx=>x.id == n:=by unfold Wg;rw [if_neg hz];rfl
  rcases hD.get n with ⟨q1,q2⟩ | ⟨x,v,q1,q2,q,rfl,hq⟩
  ·rw [vN] at q1
   exact .inl ⟨by rw [ew];exact q1,q2⟩
  ·rw [vN] at q1
   have en:x.id=n:=by simpa using List.find?_some q1
   exact .inr ⟨x,q,by rw [ew];exact q1,q2,hq,by rw [en],by rw [en];exact q1,WX q1⟩
theorem mz (s:UB):(stI s).length=s.nums.length+1:=by unfold stI;rw [U0,UA]
theorem MB {x:U4} {s:UB} (o:oS h N) (hx:x∈h.line) (e:x.answer=some s):s.nums.length<=6:=by
 cases eA:h.affair with
 | none=>rw [o.no eA] at hx;cases hx
 | some A =>
  have h1:=((o.wd A eA x hx).2.2.2 s e).len
  have h2:=(o.j5 A eA).good.base.n6
  omega
end
section
variable {P:Program} {w:World} {K:Uy} {mg:Str->Option Value} {base:Heap} {a:bI}
abbrev Bk (K:Uy) (a:bI):Sp:=fA K a (λxs rs c=>∃ z,xs=[z]/\c=.word z) Any
theorem HG (T:Txt K mg a):a8 P w K mg base eS 2 a.k8 a.mU ["bench","numbers","rows"] (Bk K a):=by
 refine T.tG.ok wK ?_ ?_
 ·rintro _ _ _ _ ⟨_,_,_,_,_,_,_,_,_,_,_,_,_,rfl,_⟩
  rfl
 ·rintro cdv A outer s H _ Q E hr ⟨bad,be,nm,rw,ln,wd,L,h,N,xs,ps,rs,c,rfl,G,⟨z,rfl,rfl⟩,_,k⟩
  refine ⟨_,(ah (bj (D5 (zc (md hr) (aM (aB (K:=K)) (pv 1) ax (λ_ _=>rfl)) (ai (K:=K) (ai (K:=K) (pv 0) rfl) rfl))) (ao (aE (aT (aa (aO (by rfl) T.lu) aj)))) aQ)
   (ah (aP (i:=3) wK.nd rfl (Or.inl rfl) (tP (md hr) (ai (K:=K) (ai (K:=K) (pv 0) rfl) rfl) (aM (aB (K:=K)) (pv 1) ax (λ_ _=>rfl)) (λ_ _=>rfl)))
   (ah (aP (i:=4) wK.nd rfl (Or.inl rfl) (aT (aa (ai (K:=K) (pv 3) rfl) (aa (ai (K:=K) (pv 3) rfl) (aa (ai (K:=K) (pv 3) rfl) aj)))))
   (ah (bj (a9 uq (ai (K:=K) (pv 3) rfl) ib (bo _)) (ao (aE (b8 lQ (pv 4) (aT (aa ax aj))))) aQ)
   (ao (aE (b8 lQ (b8 lQ (pv 4) (aT (aa ax aj))) (bE (eR T) hr.lo rfl T.dm T.cp.kp T.dk .nil aG (aa (ai (K:=K) (pv 3) rfl) aj))))))))),?_⟩
  have hz:=sizeLine_eq
  obtain ⟨dx,hbe⟩:=G.at_.ins
  obtain ⟨⟨dl,hln⟩,kvs,hwd,hD⟩:=G.at_.line
  refine ⟨_,rfl,nm,_,0,_,rfl,rfl,bf.of G.nums,at_of (j:=0) rfl rfl,_,rfl,be,a.aL,dx,_,_,rfl,hbe,T.aR,T.aX,rfl,ln,a.bh,dl,_,_,rfl,hln,T.bO,T.bp,rfl,wd,_,rfl,mw.k (k:=Sum.inl z) hwd,_,rfl,?_⟩
  rcases AQ hD z with ⟨e1,e2⟩ | ⟨x,q,e1,e2,hq,ez,_,hx⟩
  ·rw [e2]
   exact bc ⟨nz,λc hc=>k _ _ _ _ c (G.refuse (az.refl H) hc (by unfold UH;simp only [e1]))⟩
  ·rw [e2]
   refine bu ?_
   obtain ⟨dq,sv,hq1,hq2⟩:=hq
   refine ⟨_,rfl,be,a.aL,dx,_,_,rfl,hbe,T.aR,T.aX,rfl,ln,a.bh,dl,_,_,rfl,hln,T.bO,T.bp,rfl,_,rfl,nm,_,0,_,rfl,rfl,bf.of G.nums,at_of (j:=0) rfl rfl,wd,_,rfl,(by have:=mw.k (k:=Sum.inl z) hwd;rw [e2] at this;exact this),?_⟩
   refine ⟨_,rfl,q,a.bK,dq,_,_,rfl,hq1,T.dD,T.iY,rfl,_,rfl,q,a.bK,dq,_,_,rfl,hq1,T.dD,T.kZ,rfl,_,rfl,q,a.bK,dq,_,_,rfl,hq1,T.dD,T.kh,rfl,RO,λt ht=>?_⟩
   have s1:=az.laid (o:=.lst [.int (x.dispute:Int),.int (x.host:Int),.int (x.turn:Int)]) ht
   refine ⟨_,rfl,q,a.bK,dq,_,_,rfl,s1 _ _ hq1,T.dD,T.lz,rfl,rfl,_,rfl,?_⟩
   cases ex:x.answer with
   | none =>
    rw [ex] at hq2
    obtain rfl:sv=.dH:=hq2
    have es:UH h (.word z)=(h,{ value:=(x.dispute:Int),more:=[(x.host:Int),(x.turn:Int),0],rows:=[] }):=by
     unfold UH
     simp only [e1,ex]
     rfl
    refine bc ⟨_,rfl,nz,λc hc=>⟨t,c,_,_,rfl,rfl,by rw [ak (aF ae hc)];exact ae,ae,by show 3+1<=sizeLine;decide,λf hf=>?_⟩⟩
    have s2:=s1.trans (az.laid (o:=.lst [.int 0]) hc)
    exact k _ _ _ _ f (G.only (by rw [es]) (s2.trans (az.laid hf)) (s2.free hf) (ns:=[(x.dispute:Int),(x.host:Int),(x.turn:Int),0]) (by rw [es];rfl) ae)
   | some s0 =>
    rw [ex] at hq2
    obtain ⟨u,rfl,hu⟩:=hq2
    have es:UH h (.word z)=(h,{ value:=(x.dispute:Int),more:=[(x.host:Int),(x.turn:Int),1],rows:=[stI s0] }):=by
     unfold UH
     simp only [e1,ex]
     rfl
    refine bu ⟨_,rfl,nz,λc hc=>⟨t,c,_,_,rfl,rfl,by rw [ak (aF ae hc)];exact ae,ae,by show 3+1<=sizeLine;decide,λf hf=>?_⟩⟩
    have s2:=s1.trans (az.laid (o:=.lst [.int 1]) hc)
    have s3:=s2.trans (az.laid (o:=.lst ([.int (x.dispute:Int),.int (x.host:Int),.int (x.turn:Int)]++[.int 1])) hf)
    have sm:=MB G.ok hx ex
    refine ⟨_,rfl,q,a.bK,dq,_,_,rfl,s3 _ _ hq1,T.dD,T.lz,rfl,u,stI s0,rfl,.inr (gc.of (by rw [<- fN];exact s3 _ _ hu)),by rw [mz];omega,λH4 g s4 hg h4=>?_⟩
    refine ⟨f,g,_,_,rfl,rfl,s4 _ _ ae,h4,by show 4+(Vs V.int _).length<=sizeLine;rw [UA,U0,mz];omega,λe he=>?_⟩
    refine k _ _ _ _ e (G.only (by rw [es]) ((s3.trans s4).trans (az.laid he)) ((s3.trans s4).free he) (ns:=[(x.dispute:Int),(x.host:Int),(x.turn:Int),1]++(((stI s0).length:Int)::stI s0)) (by rw [es];unfold u9;simp) (by rw [ae,U1];rfl))
end
def CC (A:Ux) (z:Int):Option UC:=if z < 0 then none else VY A z.toNat
theorem J5 {A:Ux} (hn:Num A):CC A 0=none:=by
 unfold CC
 rw [if_neg (by decide)]
 show A.disputes.find? (λd=>d.no == 0)=none
 rw [Wx]
 intro d hd
 obtain ⟨i,hi,ei⟩:=List.getElem_of_mem hd
 have:=hn i d (by rw [Vo hi,ei])
 simp [this]
theorem zI {A:Ux} {z:Int} (hn:Num A) (h:(!decide (z=0)&&lN A z)=false):CC A z=none:=by
 by_cases z0:z=0
 ·rw [z0];exact J5 hn
 ·unfold CC
  by_cases zn:z < 0
  ·rw [if_pos zn]
  ·rw [if_neg zn]
   obtain ⟨j,rfl⟩:∃ j:Nat,z=((j+1:Nat):Int):=⟨z.toNat - 1,by omega⟩
   show VY A (j+1)=none
   rw [lD hn]
   have h2:lN A ((j+1:Nat):Int)=false:=by rw [decide_eq_false z0] at h;exact h
   unfold lN at h2
   rw [decide_eq_true (show (0:Int)<=((j+1:Nat):Int) by omega),VU] at h2
   have:=of_decide_eq_false h2
   exact VT (by omega)
theorem zM {A:Ux} {z:Int} (hn:Num A) (h:(!decide (z=0)&&lN A z)=true):∃ j,j < A.disputes.length/\z=((j+1:Nat):Int)/\CC A z=some (aN A j):=by
 rw [UN] at h
 obtain ⟨h1,h2⟩:=h
 have z0:¬ z=0:=by simpa using h1
 unfold lN at h2
 rw [UN,decide_eq_true_eq,decide_eq_true_eq] at h2
 have hj:z.toNat - 1 < A.disputes.length:=by omega
 refine ⟨z.toNat - 1,hj,by omega,?_⟩
 unfold CC
 rw [if_neg (by omega),show z.toNat=(z.toNat - 1)+1 by omega,lD hn]
 exact ba hj
theorem Lp (x y m n:Nat):k6 (wW x y m n) (Sum.inl (x:Int))=some (.int (m:Int)):=by
 unfold k6 wW
 rw [Vg]
 simp
theorem KU {x y:Nat} (h:x≠y) (m n:Nat):k6 (wW x y m n) (Sum.inl (y:Int))=some (.int (n:Int)):=by
 unfold k6 wW
 rw [Vg,BJ,decide_eq_false h,Vg]
 simp
theorem JJ {kvs:List (Key × V)} {cA:List Nat} {i:Nat} (hD:DR (λv (m:Nat)=>v=.int (m:Int)) kvs (wR cA)) (hi:i < cA.length):k6 kvs (Sum.inl (i:Int))=some (.int ((cA.getD i 0:Nat):Int)):=by
 have e:yL (wR cA) i=some (cA.getD i 0):=by
  unfold yL wR
  rw [List.find?_map]
  have:(List.range cA.length).find? ((λp:Nat × Nat=>decide (p.1=i)) ∘ λi=>(i,cA.getD i 0))=some i:=by
   rw [List.find?_eq_some_iff_append]
   refine ⟨by simp,List.range i,(Wd (i+1) (cA.length - i - 1)),?_,?_⟩
   ·rw [WY,WY,show i::Wd (i+1) (cA.length - i - 1)=Wd i (cA.length - i - 1+1) from (List.range'_succ ..).symm]
    rw [show cA.length=i+(cA.length - i - 1+1) by omega]
    have:=(List.range'_append (s:=0) (m:=i) (n:=cA.length - i - 1+1) (step:=1)).symm
    simp only [Nat.one_mul,Wr] at this
    rw [this]
    congr 2
    omega
   ·intro b hb
    have:=U8.mp hb
    simp
    omega
  rw [this]
  rfl
 rcases hD.get i with ⟨q1,_⟩ | ⟨b,v,q1,q2,q3⟩
 ·rw [e] at q1;cases q1
 ·rw [e] at q1
  cases q1
  rw [q2,q3]
section
variable {P:Program} {w:World} {K:Uy} {mg:Str->Option Value} {base:Heap} {a:bI}
abbrev wZ (K:Uy) (a:bI):Sp:=fA K a (λxs rs c=>∃ z,xs=[z]/\c=.dispute z) vQ
theorem C2 (T:Txt K mg a):a8 P w K mg base eS 3 a.fC a.i0 ["bench","numbers","rows"] (wZ K a):=by
 refine T.nu.ok jA ?_ ?_
 ·rintro _ _ _ _ ⟨_,_,_,_,_,_,_,_,_,_,_,_,_,rfl,_⟩
  rfl
 ·rintro cdv A outer s H _ Q E hr ⟨bad,be,nm,rw,ln,wd,L,h,N,xs,ps,rs,c,rfl,G,⟨z,rfl,rfl⟩,⟨A,eA⟩,k⟩
  refine ⟨_,(ah (bj (ie (bJ (aK (ai (K:=K) (pv 0) rfl) T.au T.jT (sT T) hr.lo T.j3 .nil aG (aa (aM (aB (K:=K)) (pv 1) ax (λ_ _=>rfl)) aj)))) (ao (aE (aT (aa (aO (by rfl) T.lu) aj)))) aQ)
   (ah (aP (i:=3) jA.nd rfl (Or.inl rfl) (aK (ai (K:=K) (pv 0) rfl) T.au T.bG (bW T) hr.lo T.bF .nil aG (aa (aM (aB (K:=K)) (pv 1) ax (λ_ _=>rfl)) aj)))
   (ah (aP (i:=4) jA.nd rfl (Or.inl rfl) (aM (bR (K:=K)) (ai (K:=K) (pv 3) rfl) ax (λ_ _=>rfl)))
   (ah (aP (i:=5) jA.nd rfl (Or.inl rfl) (aM (bR (K:=K)) (ai (K:=K) (pv 3) rfl) ax (λ_ _=>rfl)))
   (ah (aP (i:=6) jA.nd rfl (Or.inl rfl) (aT (aa (ai (K:=K) (pv 3) rfl) (aa (pv 4) (aa (pv 5) (aa (ai (K:=K) (pv 3) rfl) (aa (ai (K:=K) (pv 3) rfl) aj)))))))
   (ah (bU (Ae (K:=K) Wu PySem.F.slot_list_extend PySem.F.type_list_extend BY (pv 6) (aa (aT (aa (tP (md hr) (ai (K:=K) (pv 3) rfl) (pv 4) (λ_ _=>rfl)) (aa (tP (md hr) (ai (K:=K) (pv 3) rfl) (pv 5) (λ_ _=>rfl)) (aa (ai (K:=K) (pv 3) rfl) (aa (ai (K:=K) (pv 3) rfl) aj))))) aj)))
   (ao (aE (b8 lQ (pv 6) (gb (Ce (K:=K)) (by rfl) T.Hd rq (aa (ai (K:=K) (pv 3) rfl) aj))))))))))),?_⟩
  have hz:=sizeLine_eq
  obtain ⟨dx,hbe⟩:=G.Jd eA
  have F:=G.at_.j5 A eA
  have oA:=G.ok.j5 A eA
  obtain ⟨da,g1⟩:=F.af
  have es:UH h (.dispute z)=match CC A z with
    | none=>UO h (-6)
    | some e=>(h,{ value:=(e.asked:Int),more:=Vbapaj.ints ([e.x,e.y,e.lo,e.hi,e.saidX,e.saidY,e.questions,e.lost]++V3 e.verdict) }):=by
   unfold UH VV
   rw [eA]
   rfl
  refine ⟨_,rfl,be,a.aL,dx,_,_,rfl,hbe,T.aR,T.aI,rfl,L.ad .af,da,_,rfl,g1,rfl,_,rfl,nm,_,0,_,rfl,rfl,bf.of G.nums,at_of (j:=0) rfl rfl,bad,L,A,z,rfl,F,_,rfl,?_⟩
  cases c1:(!decide (z=0)&&lN A z) with
  | false =>
   rw [zI oA.num c1] at es
   exact bc ⟨nz,λc hc=>k _ _ _ _ c (G.refuse (az.refl H) hc es)⟩
  | true =>
   refine bu ?_
   obtain ⟨j,hj,rfl,e2⟩:=zM oA.num c1
   rw [e2] at es
   have D:=F.aH j _ (ba hj)
   obtain ⟨xl,yl,xy⟩:=oA.good.xy _ (Vf (ba hj))
   obtain ⟨dd,gd⟩:=D.ins
   refine ⟨_,rfl,be,a.aL,dx,_,_,rfl,hbe,T.aR,T.aI,rfl,L.ad .af,da,_,rfl,g1,rfl,_,rfl,nm,_,0,_,rfl,rfl,bf.of G.nums,at_of (j:=0) rfl rfl,bad,L,A,j+1,rfl,F,hj,?_⟩
   rw [if_neg (by omega)]
   refine ⟨_,rfl,L.ad (.aH j),a.ay,dd,_,_,rfl,gd,T.aA,T.aY,rfl,L.dt j,_,0,_,rfl,rfl,D.hosts.sq,at_of (j:=0) rfl rfl,?_⟩
   refine ⟨_,rfl,L.ad (.aH j),a.ay,dd,_,_,rfl,gd,T.aA,T.aY,rfl,L.dt j,_,1,_,rfl,rfl,D.hosts.sq,at_of (j:=1) rfl rfl,?_⟩
   refine ⟨_,rfl,L.ad (.aH j),a.ay,dd,_,_,rfl,gd,T.aA,T.bC,rfl,_,rfl,_,rfl,_,rfl,L.ad (.aH j),a.ay,dd,_,_,rfl,gd,T.aA,T.dN,rfl,_,rfl,L.ad (.aH j),a.ay,dd,_,_,rfl,gd,T.aA,T.dy,rfl,Up,λt ht=>?_⟩
   have s1:=az.laid (o:=.lst [.int ((aN A j).asked:Int),.int ((aN A j).x:Int),.int ((aN A j).y:Int),.int ((aN A j).lo:Int),.int ((aN A j).hi:Int)]) ht
   refine ⟨_,rfl,.inl ⟨rfl,_,bf.of ae⟩,?_⟩
   refine ⟨_,rfl,L.ad (.aH j),a.ay,dd,_,_,rfl,s1 _ _ gd,T.aA,T.jy,rfl,_,rfl,L.ad (.bM j),_,rfl,(by have:=mw.k (k:=Sum.inl ((aN A j).x:Int)) (s1 _ _ D.ask);rw [Lp] at this;exact this),?_⟩
   refine ⟨_,rfl,L.ad (.aH j),a.ay,dd,_,_,rfl,s1 _ _ gd,T.aA,T.jy,rfl,_,rfl,L.ad (.bM j),_,rfl,(by have:=mw.k (k:=Sum.inl ((aN A j).y:Int)) (s1 _ _ D.ask);rw [KU xy] at this;exact this),?_⟩
   refine ⟨_,rfl,L.ad (.aH j),a.ay,dd,_,_,rfl,s1 _ _ gd,T.aA,T.lT,rfl,_,rfl,L.ad (.aH j),a.ay,dd,_,_,rfl,s1 _ _ gd,T.aA,T.sf,rfl,Tt,λf hf=>?_⟩
   refine ⟨t,f,_,_,rfl,rfl,by rw [ak (aF ae hf)];exact ae,ae,by show 5+4<=sizeLine;decide,?_⟩
   have hf0:H f=none:=s1.free hf
   have s2:∀ o1 o2,az H (upd (upd (upd H t (.lst [.int ((aN A j).asked:Int),.int ((aN A j).x:Int),.int ((aN A j).y:Int),.int ((aN A j).lo:Int),.int ((aN A j).hi:Int)])) f o1) t o2):=λo1 o2=>cS (s1.trans (az.laid hf)) ht
   refine ⟨_,rfl,_,rfl,L.ad (.aH j),a.ay,dd,_,_,rfl,s2 _ _ _ _ gd,T.aA,T.dC,rfl,L.de j,_,rfl,.inr (gc.of (s2 _ _ _ _ D.fin)),λg hg=>?_⟩
   obtain ⟨v1,v2,ev⟩:=Qv (aN A j).verdict
   refine ⟨t,g,_,_,rfl,rfl,by rw [ak (aF ae hg)];exact ae,ae,by rw [ev];show 9+2<=sizeLine;decide,λe he=>?_⟩
   refine k _ _ _ _ e (G.only (by rw [es]) (((s2 _ _).trans (az.laid hg)).trans (az.laid he)) (((s2 _ _).trans (az.laid hg)).free he) (ns:=((aN A j).asked:Int)::Vbapaj.ints ([(aN A j).x,(aN A j).y,(aN A j).lo,(aN A j).hi,(aN A j).saidX,(aN A j).saidY,(aN A j).questions,(aN A j).lost]++V3 (aN A j).verdict)) (by rw [es];unfold u9;simp) ?_)
   rw [ae,ev]
   rfl
abbrev yX (K:Uy) (a:bI):Sp:=fA K a (λxs rs c=>∃ z,xs=[z]/\c=.agreed z) vQ
theorem ER (T:Txt K mg a):a8 P w K mg base eS 3 a.gX a.jL ["bench","numbers","rows"] (yX K a):=by
 refine T.pP.ok xF ?_ ?_
 ·rintro _ _ _ _ ⟨_,_,_,_,_,_,_,_,_,_,_,_,_,rfl,_⟩
  rfl
 ·rintro cdv A outer s H _ Q E hr ⟨bad,be,nm,rw,ln,wd,L,h,N,xs,ps,rs,c,rfl,G,⟨z,rfl,rfl⟩,⟨A,eA⟩,k⟩
  refine ⟨_,(ah (bj (ie (bJ (aK (ai (K:=K) (pv 0) rfl) T.au T.jT (sT T) hr.lo T.j3 .nil aG (aa (aM (aB (K:=K)) (pv 1) ax (λ_ _=>rfl)) aj)))) (ao (aE (aT (aa (aO (by rfl) T.lu) aj)))) aQ)
   (ah (aP (i:=3) xF.nd rfl (Or.inl rfl) (aK (ai (K:=K) (pv 0) rfl) T.au T.bG (bW T) hr.lo T.bF .nil aG (aa (aM (aB (K:=K)) (pv 1) ax (λ_ _=>rfl)) aj)))
   (ao (aE (b8 lQ (aT (aa (ai (K:=K) (pv 3) rfl) aj)) (bE (eR T) hr.lo rfl T.dm T.cp.kp T.dk .nil aG (aa (ai (K:=K) (pv 3) rfl) aj))))))),?_⟩
  have hz:=sizeLine_eq
  obtain ⟨dx,hbe⟩:=G.Jd eA
  have F:=G.at_.j5 A eA
  have oA:=G.ok.j5 A eA
  obtain ⟨da,g1⟩:=F.af
  have es:UH h (.agreed z)=match CC A z with
    | none=>UO h (-6)
    | some e=>(h,{ value:=(e.lo:Int),rows:=[Wy e.agreed] }):=by
   unfold UH VV
   rw [eA]
   rfl
  refine ⟨_,rfl,be,a.aL,dx,_,_,rfl,hbe,T.aR,T.aI,rfl,L.ad .af,da,_,rfl,g1,rfl,_,rfl,nm,_,0,_,rfl,rfl,bf.of G.nums,at_of (j:=0) rfl rfl,bad,L,A,z,rfl,F,_,rfl,?_⟩
  cases c1:(!decide (z=0)&&lN A z) with
  | false =>
   rw [zI oA.num c1] at es
   exact bc ⟨nz,λc hc=>k _ _ _ _ c (G.refuse (az.refl H) hc es)⟩
  | true =>
   refine bu ?_
   obtain ⟨j,hj,rfl,e2⟩:=zM oA.num c1
   rw [e2] at es
   have D:=F.aH j _ (ba hj)
   obtain ⟨dd,gd⟩:=D.ins
   refine ⟨_,rfl,be,a.aL,dx,_,_,rfl,hbe,T.aR,T.aI,rfl,L.ad .af,da,_,rfl,g1,rfl,_,rfl,nm,_,0,_,rfl,rfl,bf.of G.nums,at_of (j:=0) rfl rfl,bad,L,A,j+1,rfl,F,hj,?_⟩
   rw [if_neg (by omega)]
   refine ⟨_,rfl,L.ad (.aH j),a.ay,dd,_,_,rfl,gd,T.aA,T.dN,rfl,nz,λt ht=>?_⟩
   have s1:=az.laid (o:=.lst [.int ((aN A j).lo:Int)]) ht
   have sm:(aN A j).agreed.nums.length<=6:=by
    rw [(oA.FF _ (Vf (ba hj))).len];exact oA.good.base.n6
   refine ⟨_,rfl,L.ad (.aH j),a.ay,dd,_,_,rfl,s1 _ _ gd,T.aA,T.lx,rfl,L.da j,stI (aN A j).agreed,rfl,.inr (gc.of (by rw [<- fN];exact s1 _ _ D.FF)),by rw [mz];omega,λH4 g s4 hg h4=>?_⟩
   refine ⟨t,g,_,_,rfl,rfl,s4 _ _ ae,h4,by show 1+(Vs V.int _).length<=sizeLine;rw [UA,U0,mz];omega,λe he=>?_⟩
   exact k _ _ _ _ e (G.only (by rw [es]) ((s1.trans s4).trans (az.laid he)) ((s1.trans s4).free he) (ns:=((aN A j).lo:Int)::(((stI (aN A j).agreed).length:Int)::stI (aN A j).agreed)) (by rw [es];exact (vq _ _).symm) (by rw [ae];rfl))
end
theorem yi (A:Ux) (t:Int):Vj t 0 A.turns=lW A t:=rfl
theorem oY {A:Ux} {t:Int} (h:lW A t=true):∃ m:Nat,t=(m:Int)/\m<=A.turns:=by
 unfold lW at h
 rw [UN,decide_eq_true_eq,decide_eq_true_eq] at h
 exact ⟨t.toNat,by omega,by omega⟩
theorem cG {A:Ux} {t:Int} (h:b0 A t=true):∃ m:Nat,t=(m:Int)/\m < A.hosts.length:=by
 unfold b0 at h
 rw [UN,decide_eq_true_eq,decide_eq_true_eq] at h
 exact ⟨t.toNat,by omega,by omega⟩
theorem pE {h:UG} {A:Ux} {i:Int} {f:Ux->Nat->UG × Vn} (eA:h.affair=some A) (hi:b0 A i=false):VJ h i f=UO h (-1):=by
 unfold VJ VV
 rw [eA]
 show (if _ then _ else _)=_
 rw [if_neg]
 intro c
 rw [UN,decide_eq_true_eq,decide_eq_true_eq] at c
 unfold b0 at hi
 rw [decide_eq_true c.1,decide_eq_true (show i < (A.hosts.length:Int) by omega)] at hi
 cases hi
theorem hC {h:UG} {A:Ux} {i:Nat} {f:Ux->Nat->UG × Vn} (eA:h.affair=some A) (hi:i < A.hosts.length):VJ h (i:Int) f=f A i:=by
 unfold VJ VV
 rw [eA]
 show (if _ then _ else _)=_
 rw [if_pos]
 ·rfl
 ·rw [UN,decide_eq_true_eq,decide_eq_true_eq]
  exact ⟨by omega,by show ((i:Int)).toNat < _;omega⟩
theorem xw {A:Ux} {N:Nat} {s:UB} (o:vT A N) (hs:ik A.program A.begin_.nums.length s):s.nums.length<=6:=by
 rw [hs.len];exact o.good.base.n6
section
variable {P:Program} {w:World} {K:Uy} {mg:Str->Option Value} {base:Heap} {a:bI}
abbrev zp (K:Uy) (a:bI):Sp:=fA K a (λxs rs c=>∃ z,xs=[z]/\c=.truth z) vQ
theorem FA (T:Txt K mg a):a8 P w K mg base eS 5 a.jh a.lJ ["bench","numbers","rows"] (zp K a):=by
 refine T.rk.ok zx ?_ ?_
 ·rintro _ _ _ _ ⟨_,_,_,_,_,_,_,_,_,_,_,_,_,rfl,_⟩
  rfl
 ·rintro cdv A outer s H _ Q E hr ⟨bad,be,nm,rw,ln,wd,L,h,N,xs,ps,rs,c,rfl,G,⟨z,rfl,rfl⟩,⟨A,eA⟩,k⟩
  refine ⟨_,(ah (aP (i:=3) zx.nd rfl (Or.inl rfl) (ai (K:=K) (pv 0) rfl))
   (ah (bj (ie (bJ (aK (pv 3) T.au T.jY (rY T) hr.lo T.jU .nil aG (aa (aM (aB (K:=K)) (pv 1) ax (λ_ _=>rfl)) aj)))) (ao (aE (aT (aa (aO (by rfl) T.bZ) aj)))) aQ)
   (ao (aE (b8 lQ (aT (aa (aM (aB (K:=K)) (pv 1) ax (λ_ _=>rfl)) aj)) (bE (eR T) hr.lo rfl T.dm T.cp.kp T.dk .nil aG (aa (aK (ai (K:=K) (pv 3) rfl) T.mW T.ki (qH T) hr.lo T.kE .nil aG (aa (aM (aB (K:=K)) (pv 1) ax (λ_ _=>rfl)) aj)) aj))))))),?_⟩
  have hz:=sizeLine_eq
  obtain ⟨dx,hbe⟩:=G.Jd eA
  have F:=G.at_.j5 A eA
  have oA:=G.ok.j5 A eA
  obtain ⟨da,g1⟩:=F.af
  have es:UH h (.truth z)=if lW A z=false then UO h (-1) else (h,{ value:=z,rows:=[Wy (VH A.program z.toNat A.begin_)] }):=by
   unfold UH VV
   rw [eA]
   rfl
  refine ⟨_,rfl,be,a.aL,dx,_,_,rfl,hbe,T.aR,T.aI,rfl,?_⟩
  refine ⟨_,rfl,L.ad .af,da,_,rfl,g1,rfl,_,rfl,nm,_,0,_,rfl,rfl,bf.of G.nums,at_of (j:=0) rfl rfl,bad,L,A,z,rfl,F,_,rfl,?_⟩
  show if (!lW A z)=true then _ else _
  cases c1:lW A z with
  | false =>
   rw [if_pos c1] at es
   exact bc ⟨nz,λc hc=>k _ _ _ _ c (G.refuse (az.refl H) hc es)⟩
  | true =>
   rw [if_neg (by rw [c1];decide)] at es
   obtain ⟨m,rfl,hm⟩:=oY c1
   refine bu ⟨_,rfl,nm,_,0,_,rfl,rfl,bf.of G.nums,at_of (j:=0) rfl rfl,nz,λt ht=>?_⟩
   have s1:=az.laid (o:=.lst [.int (m:Int)]) ht
   have F1:=F.same s1
   obtain ⟨dr,g2⟩:=F1.run.run
   have nt:∀ r,Lv A r->t≠L.ad r:=λr hr z=>by obtain ⟨o,ho⟩:=F.there hr;rw [<- z,ht] at ho;cases ho
   refine ⟨_,rfl,L.ad .af,a.aw,da,_,_,rfl,s1 _ _ g1,T.au,T.gM,rfl,L.r,dr,_,rfl,g2,rfl,_,rfl,nm,_,0,_,rfl,rfl,bf.of (s1 _ _ G.nums),at_of (j:=0) rfl rfl,?_⟩
   refine ⟨L.r,L.lo,L.ad .ls,L.os,L.ts,A.program,A.begin_,A.begin_.nums.length,m,rfl,F1.run,oA.good.base.prog,oA.good.base.n6,oA.good.base.vM,US hm oA.t2,F.M6,λH2 u ts' bt R2 hl2 hu=>?_⟩
   have F2:=F1.v5 bt R2 hl2
   have S2:=(Step.same (L:=L) (A:=A) s1).trans (Step.v5 (L:=L) (A:=A) (ts:=ts') bt)
   have ht2:H2 t=some (.lst [.int (m:Int)]):=bt _ _ ae (nt .ls trivial)
   have sm:=xw oA (AA oA.good.base.vM oA.good.base.prog.BX m)
   refine ⟨u,stI (VH A.program m A.begin_),rfl,.inr (gc.of (by rw [<- fN];exact hu)),by rw [mz];omega,λH4 g s4 hg h4=>?_⟩
   refine ⟨t,g,_,_,rfl,rfl,s4 _ _ ht2,h4,by show 1+(Vs V.int _).length<=sizeLine;rw [UA,U0,mz];omega,λe he=>?_⟩
   have s5:=s4.trans (az.laid (o:=.lst ([.int (m:Int)]++Vs V.int (((stI (VH A.program m A.begin_)).length:Int)::stI (VH A.program m A.begin_)))) he)
   have he0:H e=none:=by
    cases q:H e with
    | none=>rfl
    | some o =>
     by_cases c:e=L.ad .ls
     ·have:=F2.run.EY
      rw [<- show L.ad .ls=({ L with ts:=ts' }:Lay).ad .ls from rfl,<- c] at this
      rw [s4 _ _ this] at he;cases he
     ·rw [s4 _ _ (bt _ _ (s1 _ _ q) c)] at he;cases he
   exact k _ _ _ _ e (G.j5 eA (S2.trans (Step.same s5)) (F2.same s5) (by rw [es,zY eA]) (G.fresh he0) (ns:=(m:Int)::(((stI (VH A.program m A.begin_)).length:Int)::stI (VH A.program m A.begin_))) (by rw [es];exact (vq _ _).symm) (by rw [ae];rfl))
def Sf (t:Int):Option UB->List Int
 | none=>[-6]
 | some r=>t::(((stI r).length:Int)::stI r)
def zm (K:Uy) (a:bI):Sp:=λvs H Q _=>∃ (t:Int) (v:V) (s:Option UB),vs=[.int t,v]/\kX H v s/\(∀ r,s=some r->r.nums.length<=6) /\
 ∀ (H':Hp) (c:Addr),az H H'->H c=none->H' c=some (.lst ((Sf t s).map V.int))->Q (.ref c) H'
theorem qX (T:Txt K mg a):a8 P w K mg base eS 2 a.fB a.fD ["turn","state"] (zm K a):=by
 refine T.fS.ok zk ?_ ?_
 ·rintro _ _ _ _ ⟨_,_,_,rfl,_⟩
  rfl
 ·rintro cdv A outer s H _ Q E hr ⟨t,v,so,rfl,hv,hs,k⟩
  refine ⟨_,(ao (aE (ox (a9 uq (pv 1) ib (bo _)) (aT (aa (aO (by rfl) T.lu) aj)) (b8 lQ (aT (aa (pv 0) aj)) (bE (eR T) hr.lo rfl T.dm T.cp.kp T.dk .nil aG (aa (pv 1) aj)))))),?_⟩
  have hz:=sizeLine_eq
  refine ⟨_,rfl,rfl,_,rfl,?_⟩
  cases so with
  | none =>
   obtain rfl:v=.dH:=hv
   exact bc ⟨nz,λc hc=>k _ c (az.laid hc) hc ae⟩
  | some r =>
   obtain ⟨u,rfl,hu⟩:=hv
   have sm:=hs r rfl
   refine bu ⟨_,rfl,nz,λc hc=>?_⟩
   have s1:=az.laid (o:=.lst [.int t]) hc
   refine ⟨_,rfl,u,stI r,rfl,.inr (gc.of (by rw [<- fN];exact s1 _ _ hu)),by rw [mz];omega,λH4 g s4 hg h4=>?_⟩
   refine ⟨c,g,_,_,rfl,rfl,s4 _ _ ae,h4,by show 1+(Vs V.int _).length<=sizeLine;rw [UA,U0,mz];omega,λe he=>?_⟩
   exact k _ e ((s1.trans s4).trans (az.laid he)) ((s1.trans s4).free he) (by rw [ae];rfl)
abbrev zt (K:Uy) (a:bI):Sp:=fA K a (λxs rs c=>∃ i z,xs=[i,z]/\c=.heard i z) vQ
theorem Li (h:UG) (t:Int) (s:Option UB) {r:UG × Vn} (e:r=match s with | none=>UO h (-6) | some s=>(h,{ value:=t,rows:=[Wy s] })):r.1=h/\Sf t s=u9 r.2:=by
 rw [e]
 cases s with
 | none=>exact ⟨rfl,rfl⟩
 | some s=>exact ⟨rfl,(vq _ _).symm⟩
theorem Fw (T:Txt K mg a):a8 P w K mg base eS 3 a.ji a.lI ["bench","numbers","rows"] (zt K a):=by
 refine T.rj.ok zq ?_ ?_
 ·rintro _ _ _ _ ⟨_,_,_,_,_,_,_,_,_,_,_,_,_,rfl,_⟩
  rfl
 ·rintro cdv A outer s H _ Q E hr ⟨bad,be,nm,rw,ln,wd,L,h,N,xs,ps,rs,c,rfl,G,⟨i,z,rfl,rfl⟩,⟨A,eA⟩,k⟩
  refine ⟨_,(ah (aP (i:=3) zq.nd rfl (Or.inl rfl) (ai (K:=K) (pv 0) rfl))
   (ah (bj (ie (bJ (aK (pv 3) T.au T.bA (bT T) hr.lo T.bz .nil aG (aa (aM (aB (K:=K)) (pv 1) ax (λ_ _=>rfl)) (aa (aM (aB (K:=K)) (pv 1) ax (λ_ _=>rfl)) aj))))) (ao (aE (aT (aa (aO (by rfl) T.bZ) aj)))) aQ)
   (ao (aE (bE (qX T) hr.lo rfl T.jq T.fS.kp T.jm .nil aG (aa (aM (aB (K:=K)) (pv 1) ax (λ_ _=>rfl)) (aa (aK (pv 3) T.au T.dU (fV T) hr.lo T.dR .nil aG (aa (aM (aB (K:=K)) (pv 1) ax (λ_ _=>rfl)) (aa (aM (aB (K:=K)) (pv 1) ax (λ_ _=>rfl)) aj))) aj))))))),?_⟩
  have hz:=sizeLine_eq
  obtain ⟨dx,hbe⟩:=G.Jd eA
  have F:=G.at_.j5 A eA
  have oA:=G.ok.j5 A eA
  obtain ⟨da,g1⟩:=F.af
  refine ⟨_,rfl,be,a.aL,dx,_,_,rfl,hbe,T.aR,T.aI,rfl,?_⟩
  refine ⟨_,rfl,L.ad .af,da,_,rfl,g1,rfl,_,rfl,nm,_,0,_,rfl,rfl,bf.of G.nums,at_of (j:=0) rfl rfl,_,rfl,nm,_,1,_,rfl,rfl,bf.of G.nums,at_of (j:=1) rfl rfl,bad,L,A,i,z,rfl,F,_,rfl,?_⟩
  have ref:(b0 A i&&lW A z)=false->UH h (.heard i z)=UO h (-1):=λc=>by
   rw [JP]
   cases c1:b0 A i with
   | false=>exact pE eA c1
   | true =>
    rw [c1,VU] at c
    obtain ⟨j,rfl,hj⟩:=cG c1
    exact (hC eA hj).trans (if_pos (show Vj z 0 A.turns=false from c))
  cases c:(b0 A i&&lW A z) with
  | false=>exact bc ⟨nz,λc' hc=>k _ _ _ _ c' (G.refuse (az.refl H) hc (ref c))⟩
  | true =>
   rw [UN] at c
   obtain ⟨j,rfl,hj⟩:=cG c.1
   obtain ⟨m,rfl,hm⟩:=oY c.2
   have es:UH h (.heard (j:Int) (m:Int))=match UD A j m with | none=>UO h (-6) | some s=>(h,{ value:=(m:Int),rows:=[Wy s] }):=by
    exact (JP ..).trans <| (hC eA hj).trans (if_neg (show ¬ Vj (m:Int) 0 A.turns=false by rw [yi,c.2];decide))
   obtain ⟨e1,e2⟩:=Li h _ _ es
   refine bu ⟨_,rfl,nm,_,1,_,rfl,rfl,bf.of G.nums,at_of (j:=1) rfl rfl,_,rfl,L.ad .af,da,_,rfl,g1,rfl,_,rfl,nm,_,0,_,rfl,rfl,bf.of G.nums,at_of (j:=0) rfl rfl,_,rfl,nm,_,1,_,rfl,rfl,bf.of G.nums,at_of (j:=1) rfl rfl,bad,L,A,j,m,rfl,F,hj,oA.good.base.once,λv hv=>?_⟩
   refine ⟨(m:Int),v,UD A j m,rfl,hv,λr hr=>?_,λH' c' s' hc' ht=>k _ _ _ _ c' (G.only e1 s' hc' e2 ht)⟩
   obtain ⟨x,hx,rfl⟩:=qt hr
   exact xw oA (oA.good.cA x hx)
end
theorem M7 {H H1:Hp} {l e:Addr} {o:HO} (bt:RP l H H1) (hl:H1 l=some o) (h:H1 e=none):H e=none:=by
 cases q:H e with
 | none=>rfl
 | some u =>
  by_cases c:e=l
  ·rw [c,hl] at h;cases h
  ·rw [bt _ _ q c] at h;cases h
theorem Jh {A:Ux} {g:Tl} {i t:Nat} (h:TB g (Uz A i).bent):Ja g A.program A.begin_ t=VL A i t:=by
 have e:=h.says t
 unfold Ja VL
 cases q:dB g t with
 | none =>
  rw [q] at e
  have:(Uz A i).bent.find? (λb=>b.turn == t)=none:=by simpa using e
  rw [this]
 | some l =>
  rw [q] at e
  have hl:=(h.is t l q).1
  cases q2:l.getLast? with
  | none=>exact absurd (List.getLast?_eq_none_iff.mp q2) hl
  | some x =>
   have e:((Uz A i).bent.find? (λb=>b.turn == t)).map (·.says)=some x:=by rw [e];exact q2
   cases q3:(Uz A i).bent.find? (λb=>b.turn == t) with
   | none=>rw [q3] at e;cases e
   | some b =>
    rw [q3] at e
    cases e
    show (l.getLast?).getD none=b.says
    rw [q2]
    rfl
theorem Ny:∀ {g:Tl},(g.map (·.1)).Nodup->∀ p∈g,dB g p.1=some p.2
 | p::r,h,q,hq=>by
  obtain ⟨h1,h2⟩:=VO.mp h
  unfold dB
  rw [Vg]
  rcases UL.mp hq with rfl | hq
  ·simp
  ·have:¬ p.1=q.1:=λz=>h1 (UR.mpr ⟨q,hq,z.symm⟩)
   simp only [this,decide_false]
   exact Ny h2 q hq
theorem Eu:∀ {g:Tl},(∀ p∈g,p.2≠[])->g.length<=qY g
 | [],_=>U9 _
 | p::r,h=>by
  have ih:=Eu (g:=r) λq hq=>h q (U2 _ hq)
  have h1:0 < p.2.length:=List.length_pos_iff.mpr (h p (UZ ..))
  unfold qY at ih ⊢
  rw [UT,V2,U0]
  omega
theorem TB.O7 {g:Tl} {b:List Vm} (h:TB g b):g.length<=b.length:=by
 rw [<- h.sum]
 exact Eu λp hp=>(h.is p.1 p.2 (Ny h.nd p hp)).1
theorem Jv (A:Ux):A.disputes=(List.range A.disputes.length).map (aN A):=by
 refine List.ext_getElem? λi=>?_
 rw [Ve]
 by_cases hi:i < A.disputes.length
 ·rw [Wt hi,ba hi];rfl
 ·rw [VT (by omega),VT (by rw [Vi];omega)];rfl
theorem LR (A:Ux) (n:Nat):Vbapaj.openOf A n=(j1 A n).length:=by
 unfold Vbapaj.openOf j1
 conv=>lhs;rw [Jv A]
 rw [List.filter_map,UA]
 rfl
theorem Ot (A:Ux):(A.disputes.filter UJ).length=(nH A).length:=by
 unfold nH
 conv=>lhs;rw [Jv A]
 rw [List.filter_map,UA]
 rfl
theorem Lk (A:Ux):Vbapaj.ends A=(Ij A).map λi=>(i,UD A i A.turns):=by
 unfold Vbapaj.ends Ij
 congr 1
 refine List.filter_congr λi hi=>?_
 unfold Vbapaj.isIn
 rw [decide_eq_true (U8.mp hi),VU]
section
variable {P:Program} {w:World} {K:Uy} {mg:Str->Option Value} {base:Heap} {a:bI}
abbrev Ba (K:Uy) (a:bI):Sp:=fA K a (λxs rs c=>∃ i z,xs=[i,z]/\c=.says i z) vQ
theorem HU (T:Txt K mg a):a8 P w K mg base eS 6 a.kI a.nj ["bench","numbers","rows"] (Ba K a):=by
 refine T.ud.ok wL ?_ ?_
 ·rintro _ _ _ _ ⟨_,_,_,_,_,_,_,_,_,_,_,_,_,rfl,_⟩
  rfl
 ·rintro cdv A outer s H _ Q E hr ⟨bad,be,nm,rw,ln,wd,L,h,N,xs,ps,rs,c,rfl,G,⟨i,z,rfl,rfl⟩,⟨A,eA⟩,k⟩
  refine ⟨_,(ah (aP (i:=3) wL.nd rfl (Or.inl rfl) (ai (K:=K) (pv 0) rfl))
   (ah (bj (ie (bJ (aK (pv 3) T.au T.bA (bT T) hr.lo T.bz .nil aG (aa (aM (aB (K:=K)) (pv 1) ax (λ_ _=>rfl)) (aa (aM (aB (K:=K)) (pv 1) ax (λ_ _=>rfl)) aj))))) (ao (aE (aT (aa (aO (by rfl) T.bZ) aj)))) aQ)
   (ah (aP (i:=4) wL.nd rfl (Or.inl rfl) (aM (aB (K:=K)) (ai (K:=K) (pv 3) rfl) (aM (aB (K:=K)) (pv 1) ax (λ_ _=>rfl)) (λ_ _=>rfl)))
   (ao (aE (bE (qX T) hr.lo rfl T.jq T.fS.kp T.jm .nil aG (aa (aM (aB (K:=K)) (pv 1) ax (λ_ _=>rfl)) (aa (aK (pv 4) T.bP T.tI (A7 T) hr.lo T.tZ .nil aG (aa (aM (aB (K:=K)) (pv 1) ax (λ_ _=>rfl)) (aa (ai (K:=K) (pv 3) rfl) aj))) aj)))))))),?_⟩
  have hz:=sizeLine_eq
  obtain ⟨dx,hbe⟩:=G.Jd eA
  have F:=G.at_.j5 A eA
  have oA:=G.ok.j5 A eA
  obtain ⟨da,g1⟩:=F.af
  refine ⟨_,rfl,be,a.aL,dx,_,_,rfl,hbe,T.aR,T.aI,rfl,?_⟩
  refine ⟨_,rfl,L.ad .af,da,_,rfl,g1,rfl,_,rfl,nm,_,0,_,rfl,rfl,bf.of G.nums,at_of (j:=0) rfl rfl,_,rfl,nm,_,1,_,rfl,rfl,bf.of G.nums,at_of (j:=1) rfl rfl,bad,L,A,i,z,rfl,F,_,rfl,?_⟩
  have ref:(b0 A i&&lW A z)=false->UH h (.says i z)=UO h (-1):=λc=>by
   rw [Ld]
   cases c1:b0 A i with
   | false=>exact pE eA c1
   | true =>
    rw [c1,VU] at c
    obtain ⟨j,rfl,hj⟩:=cG c1
    exact (hC eA hj).trans (if_pos (show Vj z 0 A.turns=false from c))
  cases c:(b0 A i&&lW A z) with
  | false=>exact bc ⟨nz,λc' hc=>k _ _ _ _ c' (G.refuse (az.refl H) hc (ref c))⟩
  | true =>
   rw [UN] at c
   obtain ⟨j,rfl,hj⟩:=cG c.1
   obtain ⟨m,rfl,hm⟩:=oY c.2
   have es:UH h (.says (j:Int) (m:Int))=match VL A j m with | none=>UO h (-6) | some s=>(h,{ value:=(m:Int),rows:=[Wy s] }):=by
    exact (Ld ..).trans <| (hC eA hj).trans (if_neg (show ¬ Vj (m:Int) 0 A.turns=false by rw [yi,c.2];decide))
   obtain ⟨e1,e2⟩:=Li h _ _ es
   obtain ⟨dh,g2⟩:=F.host j hj
   obtain ⟨ft,tb⟩:=F.tell j hj
   refine bu ⟨_,rfl,L.ad .af,a.aw,da,_,_,rfl,g1,T.au,T.bw,rfl,_,rfl,nm,_,0,_,rfl,rfl,bf.of G.nums,at_of (j:=0) rfl rfl,L.hl,_,_,_,rfl,rfl,bf.of F.hl,at_of (j:=j) rfl (kP hj),?_⟩
   refine ⟨_,rfl,nm,_,1,_,rfl,rfl,bf.of G.nums,at_of (j:=1) rfl rfl,_,rfl,L.ad (.host j),dh,_,rfl,g2,rfl,_,rfl,nm,_,1,_,rfl,rfl,bf.of G.nums,at_of (j:=1) rfl rfl,_,rfl,L.ad .af,a.aw,da,_,_,rfl,g1,T.au,T.gM,rfl,?_⟩
   refine ⟨L.ad (.host j),L.ad (.tell j),L.ad (.pS j),L.r,L.lo,L.ad .ls,L.os,L.ts,_,_,m,A.begin_.nums.length,_,L.tl j,A.program,A.begin_,rfl,⟨dh,g2⟩,ft,λl hl=>(tb.is m l hl).1,F.run,oA.good.base.prog,oA.good.base.n6,oA.good.base.vM,US hm oA.t2,F.M6,λH2 v ts' bt R2 hl2 hv=>?_⟩
   rw [Jh tb] at hv
   have F2:=F.v5 bt R2 hl2
   refine ⟨(m:Int),v,VL A j m,rfl,hv,λr hr=>xw oA (GF oA hj hr),λH' c' s' hc' ht=>k _ _ _ _ c' (G.j5 eA ((Step.v5 (L:=L) (A:=A) (ts:=ts') bt).trans (Step.same s')) (F2.same s') (by rw [e1,zY eA]) (G.fresh (M7 bt F2.run.EY hc')) e2 ht)⟩
abbrev A6 (K:Uy) (a:bI):Sp:=fA K a (λxs rs c=>∃ i,xs=[i]/\c=.host i) vQ
theorem GW (T:Txt K mg a):a8 P w K mg base eS 4 a.kO a.mS ["bench","numbers","rows"] (A6 K a):=by
 refine T.tM.ok oO ?_ ?_
 ·rintro _ _ _ _ ⟨_,_,_,_,_,_,_,_,_,_,_,_,_,rfl,_⟩
  rfl
 ·rintro cdv A outer s H _ Q E hr ⟨bad,be,nm,rw,ln,wd,L,h,N,xs,ps,rs,c,rfl,G,⟨i,rfl,rfl⟩,⟨A,eA⟩,k⟩
  refine ⟨_,(ah (aP (i:=3) oO.nd rfl (Or.inl rfl) (ai (K:=K) (pv 0) rfl))
   (ah (aP (i:=4) oO.nd rfl (Or.inl rfl) (aM (aB (K:=K)) (pv 1) ax (λ_ _=>rfl)))
   (ah (bj (ie (bJ (aK (pv 3) T.au T.dv (fO T) hr.lo T.cW .nil aG (aa (pv 4) aj)))) (ao (aE (aT (aa (aO (by rfl) T.bZ) aj)))) aQ)
   (ah (aP (i:=5) oO.nd rfl (Or.inl rfl) (aM (aB (K:=K)) (ai (K:=K) (pv 3) rfl) (pv 4) (λ_ _=>rfl)))
   (ah (aP (i:=6) oO.nd rfl (Or.inl rfl) (aT (aa (ai (K:=K) (pv 5) rfl) (aa (bE (Bb T) hr.lo rfl T.tN T.qm.kp T.tQ .nil aG (aa (ai (K:=K) (pv 5) rfl) aj)) (aa (b7 (pv 5) T.bP T.eg (jR T) hr.lo T.dZ .nil aG) aj)))))
   (ao (aE (b8 lQ (pv 6) (aT (aa (tP (md hr) (ai (K:=K) (ai (K:=K) (pv 3) rfl) rfl) (pv 4) (λ_ _=>rfl)) (aa (aU (a7 (K:=K)) (by rfl) T.dO UU (aa (aK (pv 3) T.au T.b4 (fU T) hr.lo T.b3 .nil aG (aa (pv 4) aj)) aj)) aj))))))))))),?_⟩
  have hz:=sizeLine_eq
  obtain ⟨dx,hbe⟩:=G.Jd eA
  have F:=G.at_.j5 A eA
  have oA:=G.ok.j5 A eA
  have hN:=G.n
  obtain ⟨da,g1⟩:=F.af
  refine ⟨_,rfl,be,a.aL,dx,_,_,rfl,hbe,T.aR,T.aI,rfl,?_⟩
  refine ⟨_,rfl,nm,_,0,_,rfl,rfl,bf.of G.nums,at_of (j:=0) rfl rfl,?_⟩
  refine ⟨_,rfl,L.ad .af,da,_,rfl,g1,rfl,_,rfl,bad,L,A,i,rfl,F,_,rfl,?_⟩
  show if (!b0 A i)=true then _ else _
  cases c:b0 A i with
  | false=>exact bc ⟨nz,λc' hc=>k _ _ _ _ c' (G.refuse (az.refl H) hc ((LH ..).trans (pE eA c)))⟩
  | true =>
   obtain ⟨j,rfl,hj⟩:=cG c
   have es:=(LH h (j:Int)).trans (hC eA hj)
   obtain ⟨dh,g2⟩:=F.host j hj
   obtain ⟨ft,tb⟩:=F.tell j hj
   have bl:=(oA.bent j hj).1
   refine bu ⟨_,rfl,L.ad .af,a.aw,da,_,_,rfl,g1,T.au,T.bw,rfl,_,rfl,L.hl,_,_,_,rfl,rfl,bf.of F.hl,at_of (j:=j) rfl (kP hj),?_⟩
   refine ⟨_,rfl,L.ad (.host j),a.bB,dh,_,_,rfl,g2,T.bP,T.dW,rfl,_,rfl,L.ad (.host j),a.bB,dh,_,_,rfl,g2,T.bP,T.mH,rfl,_,rfl,_,rfl,L.ad (.host j),dh,_,rfl,g2,rfl,L.ad (.host j),L.ad (.tell j),L.ad (.pS j),_,_,_,L.tl j,rfl,⟨dh,g2⟩,ft,by have:=tb.O7;omega,λH1 s1=>⟨RO,λt ht=>?_⟩⟩
   have s2:=s1.trans (az.laid (o:=.lst [.int ((Uz A j).stake:Int),.int ((Vbapaj.natOf (Uz A j).out:Nat):Int),.int ((qY (L.tl j):Nat):Int)]) ht)
   have F2:=F.same s2
   obtain ⟨⟨dop,g3⟩,_,kvs,g4,hD⟩:=F2.op
   have hjs:j < A.saidTo.length:=by rw [oA.FL];exact hj
   refine ⟨_,rfl,_,rfl,L.ad .af,a.aw,da,_,_,rfl,s2 _ _ g1,T.au,T.lq,rfl,L.ad .op,a.bH,dop,_,_,rfl,g3,T.eG,T.qG,rfl,_,rfl,L.ad .oa,_,rfl,(by have:=mw.k (k:=Sum.inl (j:Int)) g4;rw [JJ hD hjs] at this;exact this),?_⟩
   refine ⟨_,rfl,L.ad .af,da,_,rfl,s2 _ _ g1,rfl,_,rfl,bad,L,A,j,rfl,F2,by have:=oA.dl;omega,λH3 c s3 hc h3=>⟨c,_,rfl,.inl (bf.of h3),Ob,λf hf=>?_⟩⟩
   have s4:=(s2.trans s3)
   refine ⟨t,f,_,_,rfl,rfl,by rw [ak (aF (s3 _ _ ae) hf)];exact s3 _ _ ae,ae,by show 3+2<=sizeLine;decide,λe he=>?_⟩
   have s5:=s4.trans (az.laid (o:=.lst [.int ((A.saidTo.getD j 0:Nat):Int),.int ((qZ L (j1 A j)).length:Int)]) hf)
   refine k _ _ _ _ e (G.only (by rw [es]) (s5.trans (az.laid he)) (s5.free he) (ns:=((Uz A j).stake:Int)::Vbapaj.ints [Vbapaj.natOf (Uz A j).out,(Uz A j).bent.length,A.saidTo.getD j 0,Vbapaj.openOf A j]) (by rw [es];unfold u9;simp) ?_)
   rw [ae,LR,tb.sum]
   unfold qZ
   rw [UA]
   rfl
abbrev yn (K:Uy) (a:bI):Sp:=fA K a (λxs rs c=>c=.affair) vQ
theorem Ew (T:Txt K mg a):a8 P w K mg base eS 3 a.gZ a.jJ ["bench","numbers","rows"] (yn K a):=by
 refine T.pQ.ok sV ?_ ?_
 ·rintro _ _ _ _ ⟨_,_,_,_,_,_,_,_,_,_,_,_,_,rfl,_⟩
  rfl
 ·rintro cdv A outer s H _ Q E hr ⟨bad,be,nm,rw,ln,wd,L,h,N,xs,ps,rs,c,rfl,G,rfl,⟨A,eA⟩,k⟩
  refine ⟨_,(ah (aP (i:=3) sV.nd rfl (Or.inl rfl) (ai (K:=K) (pv 0) rfl))
   (ah (aP (i:=4) sV.nd rfl (Or.inl rfl) (aT (aa (ai (K:=K) (pv 3) rfl) (aa (ai (K:=K) (pv 3) rfl) (aa (aU (a7 (K:=K)) (by rfl) T.dO UU (aa (ai (K:=K) (pv 3) rfl) aj)) (aa (aU (a7 (K:=K)) (by rfl) T.dO UU (aa (b7 (pv 3) T.au T.jX (rT T) hr.lo T.jW .nil aG) aj)) aj))))))
   (ah (bU (Ae (K:=K) Wu PySem.F.slot_list_extend PySem.F.type_list_extend BY (pv 4) (aa (aT (aa (aU (a7 (K:=K)) (by rfl) T.dO UU (aa (ai (K:=K) (pv 3) rfl) aj)) (aa (aU (a7 (K:=K)) (by rfl) T.dO UU (aa (b7 (pv 3) T.au T.fg (m6 T) hr.lo T.fh .nil aG) aj)) (aa (ai (K:=K) (ai (K:=K) (pv 3) rfl) rfl) aj)))) aj)))
   (ao (aE (b8 lQ (pv 4) (aT (aa (ai (K:=K) (pv 3) rfl) (aa (bE (Bb T) hr.lo rfl T.tN T.qm.kp T.tQ .nil aG (aa (ai (K:=K) (pv 3) rfl) aj)) (aa (b7 (pv 3) T.au T.iZ (uz T) hr.lo T.iU .nil aG) aj)))))))))),?_⟩
  have hz:=sizeLine_eq
  obtain ⟨dx,hbe⟩:=G.Jd eA
  have F:=G.at_.j5 A eA
  have oA:=G.ok.j5 A eA
  have hN:=G.n
  have h6:=oA.h2
  have hdl:=oA.dl
  obtain ⟨da,g1⟩:=F.af
  have es:=(Mp h).trans (hJ eA)
  refine ⟨_,rfl,be,a.aL,dx,_,_,rfl,hbe,T.aR,T.aI,rfl,?_⟩
  refine ⟨_,rfl,L.ad .af,a.aw,da,_,_,rfl,g1,T.au,T.fW,rfl,_,rfl,L.ad .af,a.aw,da,_,_,rfl,g1,T.au,T.eK,rfl,_,rfl,L.ad .af,a.aw,da,_,_,rfl,g1,T.au,T.bw,rfl,L.hl,_,rfl,.inl (bf.of F.hl),?_⟩
  refine ⟨_,rfl,L.ad .af,da,_,rfl,g1,rfl,bad,L,A,rfl,F,by omega,λH1 c1 s1 hc1 h1=>⟨c1,_,rfl,.inl (bf.of h1),Tt,λt ht=>?_⟩⟩
  have F1:=F.same s1
  generalize hT:(HO.lst [V.int (A.turns:Int),V.int (A.mayLose:Int),V.int ((Vs (λi=>V.ref (L.ad (.host i))) (List.range A.hosts.length)).length:Int),V.int ((Vs (λi=>V.ref (L.ad (.host i))) (Ij A)).length:Int)])=oT
  have s2:=s1.trans (az.laid (o:=oT) ht)
  have F2:=F.same s2
  refine ⟨_,rfl,.inl ⟨rfl,_,bf.of (by rw [ae,<- hT])⟩,?_⟩
  refine ⟨_,rfl,L.ad .af,a.aw,da,_,_,rfl,s2 _ _ g1,T.au,T.bS,rfl,L.ad .dl,_,rfl,.inl (bf.of F2.dl),?_⟩
  refine ⟨_,rfl,L.ad .af,da,_,rfl,s2 _ _ g1,rfl,bad,L,A,rfl,F2,by omega,λH3 c3 s3 hc3 h3=>⟨c3,_,rfl,.inl (bf.of h3),?_⟩⟩
  have s4:=s2.trans s3
  have F3:=F.same s4
  obtain ⟨⟨dop,g3⟩,_⟩:=F3.op
  refine ⟨_,rfl,L.ad .af,a.aw,da,_,_,rfl,s4 _ _ g1,T.au,T.lq,rfl,L.ad .op,a.bH,dop,_,_,rfl,g3,T.eG,T.sk,rfl,RO,λf hf=>?_⟩
  have ht3:H3 t=some oT:=s3 _ _ ae
  refine ⟨t,f,_,_,rfl,rfl,by rw [ak (aF ht3 hf),ht3,<- hT],ae,by show 4+3<=sizeLine;decide,?_⟩
  have ht0:H t=none:=s1.free ht
  have s5:∀ o1 o2,az H (upd (upd H3 f o1) t o2):=λo1 o2=>cS (s4.trans (az.laid hf)) ht0
  generalize hE:upd (upd H3 f _) t _=H5
  have s6:az H H5:=by rw [<- hE];exact s5 _ _
  have ht5:=congrFun hE t
  rw [ae] at ht5
  have F5:=F.same s6
  refine ⟨_,rfl,_,rfl,L.ad .af,a.aw,da,_,_,rfl,s6 _ _ g1,T.au,T.oR,rfl,_,rfl,L.ad .af,a.aw,da,_,_,rfl,s6 _ _ g1,T.au,T.cF,rfl,_,rfl,_,rfl,L.ad .af,da,_,rfl,s6 _ _ g1,rfl,bad,L,A,rfl,F5,by omega,λH6 s7=>⟨RO,λg hg=>?_⟩⟩
  refine ⟨t,g,_,_,rfl,rfl,by rw [ak (aF (s7 _ _ ht5.symm) hg)];exact s7 _ _ ht5.symm,ae,by show 7+3<=sizeLine;decide,λe he=>?_⟩
  have s8:=(s6.trans s7).trans (az.laid (o:=.lst [V.int (A.purse:Int),V.int ((Vbapaj.natOf A.found.isSome:Nat):Int),V.int (B8 A A.hosts.length).sum]) hg)
  refine k _ _ _ _ e (G.only (by rw [es]) (s8.trans (az.laid he)) (s8.free he) (ns:=(A.turns:Int)::Vbapaj.ints [A.mayLose,A.hosts.length,(Vbapaj.ends A).length,A.disputes.length,(A.disputes.filter UJ).length,A.lost,A.purse,Vbapaj.natOf A.found.isSome,A.heard.length]) (by rw [es];unfold u9;simp) ?_)
  rw [ae,Md A _ oA.hb,Ot,Lk]
  unfold qZ
  simp only [UA,Vi]
  rfl
abbrev A9 (K:Uy) (a:bI):Sp:=fA K a (λxs rs c=>∃ l,rs=[l]/\c=.work l) vQ
theorem Ib (T:Txt K mg a):a8 P w K mg base eS 4 a.kR a.mV ["bench","numbers","rows"] (A9 K a):=by
 refine T.ui.ok Bm ?_ ?_
 ·rintro _ _ _ _ ⟨_,_,_,_,_,_,_,_,_,_,_,_,_,rfl,_⟩
  rfl
 ·rintro cdv A outer s H _ Q E hr ⟨bad,be,nm,rw,ln,wd,L,h,N,xs,ps,rs,c,rfl,G,⟨l,rfl,rfl⟩,⟨A,eA⟩,k⟩
  refine ⟨_,(ah (aP (i:=3) Bm.nd rfl (Or.inl rfl) (ai (K:=K) (ai (K:=K) (pv 0) rfl) rfl))
   (ah (bj (ie (bJ (aK (pv 3) T.mW T.nM (wN T) hr.lo T.nX .nil aG (aa (aM (aB (K:=K)) (pv 2) ax (λ_ _=>rfl)) aj)))) (ao (aE (aT (aa (aO (by rfl) T.bZ) aj)))) aQ)
   (ao (aE (b8 lQ (aT (aa ax aj)) (bE (eR T) hr.lo rfl T.dm T.cp.kp T.dk .nil aG (aa (aK (pv 3) T.mW T.fG (lP T) hr.lo T.fH .nil aG (aa (gb (vO (K:=K)) (by rfl) T.y9 jK (aa (aM (aB (K:=K)) (pv 2) ax (λ_ _=>rfl)) aj)) aj)) aj))))))),?_⟩
  have hz:=sizeLine_eq
  obtain ⟨dx,hbe⟩:=G.Jd eA
  have F:=G.at_.j5 A eA
  have oA:=G.ok.j5 A eA
  obtain ⟨da,g1⟩:=F.af
  obtain ⟨dr,g2⟩:=F.run.run
  have hrow:=G.row
  have hrows:=G.rows
  have hl:=G.O6 l (UE.mpr rfl)
  cases hrow with
  | cons hp0 hnil =>
   rename_i p0 pr
   cases hnil
   obtain ⟨r1,r2⟩:=EZ (A:=A) (ns:=l) oA.good.base.prog.pos oA.good.base.vM.pos
   have es:=(PX h l).trans (hJ eA)
   refine ⟨_,rfl,be,a.aL,dx,_,_,rfl,hbe,T.aR,T.aI,rfl,L.ad .af,a.aw,da,_,_,rfl,g1,T.au,T.gM,rfl,?_⟩
   refine ⟨_,rfl,L.r,dr,_,rfl,g2,rfl,_,rfl,rw,_,0,_,rfl,rfl,bf.of hrows,at_of (j:=0) rfl rfl,L.r,L.lo,L.ad .ls,p0,L.os,L.ts,A.program,A.begin_,l,rfl,F.run,bf.of hp0,hl,λH1 s1=>⟨_,rfl,?_⟩⟩
   cases c:Fz A.program.length A.begin_.nums.length l with
   | false =>
    rw [r2 c] at es
    exact bc ⟨nz,λc' hc=>k _ _ _ _ c' (G.refuse s1 hc es)⟩
   | true =>
    obtain ⟨s0,e1,e2,e3⟩:=r1 c
    rw [e1] at es
    refine bu ⟨nz,λt ht=>?_⟩
    have s2:=s1.trans (az.laid (o:=.lst [.int 0]) ht)
    refine ⟨_,rfl,L.r,dr,_,rfl,s2 _ _ g2,rfl,_,rfl,rw,_,0,_,rfl,rfl,bf.of (s2 _ _ hrows),at_of (j:=0) rfl rfl,p0,_,rfl,.inl ⟨bf.of (s2 _ _ hp0),λu hu=>?_⟩⟩
    have s3:=s2.trans (az.laid (o:=.tup (l.map V.int)) hu)
    refine ⟨L.r,L.lo,L.ad .ls,u,L.os,L.ts,A.program,A.begin_,s0,A.begin_.nums.length,rfl,(F.same s3).run,oA.good.base.prog,oA.good.base.n6,e2,gc.of (by rw [ae,e3]),λH4 v s4 hv0 hv=>?_⟩
    have sm:=xw oA (LD e2 oA.good.base.prog.BX)
    have ht4:H4 t=some (.lst [.int 0]):=s4 _ _ (by rw [ak (aF ae hu)];exact ae)
    refine ⟨v,stI (VQ A.program s0),rfl,.inr (gc.of (by rw [<- fN];exact hv)),by rw [mz];omega,λH5 g s5 hg h5=>?_⟩
    refine ⟨t,g,_,_,rfl,rfl,s5 _ _ ht4,h5,by show 1+(Vs V.int _).length<=sizeLine;rw [UA,U0,mz];omega,λe he=>?_⟩
    have s6:=(s3.trans s4).trans s5
    exact k _ _ _ _ e (G.only (by rw [es]) (s6.trans (az.laid he)) (s6.free he) (ns:=(0:Int)::(((stI (VQ A.program s0)).length:Int)::stI (VQ A.program s0))) (by rw [es];exact (vq _ _).symm) (by rw [ae];rfl))
end
def AD (A:Ux) (i:Nat) (l:List Vm):Ux:=Vp A i { Uz A i with bent:=l }
theorem BQ (A:Ux) (i:Nat) (l:List Vm):(AD A i l).hosts.length=A.hosts.length:=Vb ..
def Lay.Pl (L:Lay) (i:Nat) (g:Tl):Lay:={ L with tl:=λx=>if x=i then g else L.tl x }
section
variable {a:bI} {bad:List Addr} {H H':Hp} {L:Lay} {A:Ux}
theorem aJ.Bo {i:Nat} {g:Tl} {l:List Vm} (F:aJ a bad H L A) (hi:i < A.hosts.length) (k:Keeps [L.ad (.tell i)] H H') (ht:uY (L.ad .ls::L.ad .dl::bad) H' (L.ad (.tell i)) g) (tb:TB g l):aJ a bad H' (L.Pl i g) (AD A i l):=by
 have hrs:∀ x∈[Role.tell i],Lv A x:=λx hx=>by rw [UE.mp hx];exact hi
 have k':Keeps ([Role.tell i].map L.ad) H H':=k
 have hl:=BQ A i l
 have hh:∀ j,Uz (AD A i l) j=if j=i then { Uz A i with bent:=l } else Uz A j:=λj=>j7 hi
 refine ⟨λr r' hr hr' e=>F.inj r r' (by rw [hl] at hr;exact hr) (by rw [hl] at hr';exact hr') e,F.Rv hrs k' (by simp),F.runK hrs k' (by simp),F.M6,by rw [hl];exact F.P4 hrs k',λj hj=>?_,λj hj=>?_,λj hj=>?_,F.Q4 hrs k' (by simp) (by simp),F.QN hrs k' (by simp),λj d hj=>F.CP hrs k' hj (by simp) (by simp),F.OR,F.N7,by rw [hl];exact F.FL⟩
 ·rw [hl] at hj
  have:=F.DZ hrs k' hj (by simp)
  rw [hh]
  by_cases c:j=i
  ·rw [if_pos c];rw [c] at this ⊢;exact this
  ·rw [if_neg c];exact this
 ·rw [hl] at hj
  rw [hh]
  show uY (L.ad .ls::L.ad .dl::bad) H' (L.ad (.tell j)) (if j=i then g else L.tl j)/\TB (if j=i then g else L.tl j) _
  by_cases c:j=i
  ·rw [if_pos c,if_pos c,c];exact ⟨ht,tb⟩
  ·rw [if_neg c,if_neg c];exact ⟨F.Cw hrs k' hj (by simp [c]),(F.tell j hj).2⟩
 ·rw [hl] at hj
  exact F.IC hrs k' hj (by simp)
theorem Step.Bo {i:Nat} {g:Tl} {l:List Vm} (hi:i < A.hosts.length) (k:Keeps [L.ad (.tell i)] H H'):Step H L A H' (L.Pl i g) (AD A i l) :=
 { Step.refl H L A with keep:=λb o e n=>k b o e λm=>n (.tell i) hi (UE.mp m),old:=λr hr=>.inl ⟨r,by have hr:FD (AD A i l).hosts.length A.disputes.length r:=hr;rw [BQ] at hr;exact hr,rfl⟩,hl:=BQ A i l }
end
section
variable {P:Program} {w:World} {K:Uy} {mg:Str->Option Value} {base:Heap} {a:bI}
def PF (K:Uy) (a:bI):Sp:=λvs H Q _=>∃ (bad:List Addr) (L:Lay) (A:Ux) (nm:Addr) (j m:Nat) (v:V) (s:Option UB),vs=[.ref (L.ad .af),.ref nm,v]/\aJ a bad H L A/\H nm=some (.lst [.int (j:Int),.int (m:Int)])/\j < A.hosts.length/\(Uz A j).bent.length<=400/\kX H v s/\(∀ x∈bad,H x≠none) /\
 ∀ (H':Hp) (L':Lay) (c:Addr),Step H L A H' L' (AD A j ({ turn:=m,says:=s }::(Uz A j).bent))->aJ a bad H' L' (AD A j ({ turn:=m,says:=s }::(Uz A j).bent))->H c=none->H' c=some (.lst [.int ((({ turn:=m,says:=s }:Vm)::(Uz A j).bent).length:Int)])->Q (.ref c) H'
theorem EI {H H1:Hp} {l e:Addr} {o:HO} (kp:Keeps [l] H H1) (hl:H1 l=some o) (h:H1 e=none):H e=none:=kp.free h λm=>by rw [UE.mp m,hl] at h;cases h
theorem Lc (T:Txt K mg a):a8 P w K mg base eS 2 a.Es a.Fm ["affair","numbers","state"] (PF K a):=by
 refine T.Ex.ok K0 ?_ ?_
 ·rintro _ _ _ _ ⟨_,_,_,_,_,_,_,_,rfl,_⟩
  rfl
 ·rintro cdv A outer s H _ Q E hr ⟨bad,L,A,nm,j,m,v,so,rfl,F,hnm,hj,hb,hv,hbad,k⟩
  refine ⟨_,(ah (aP (i:=3) K0.nd rfl (Or.inl rfl) (aM (aB (K:=K)) (ai (K:=K) (pv 0) rfl) (aM (aB (K:=K)) (pv 1) ax (λ_ _=>rfl)) (λ_ _=>rfl)))
   (ah (bU (aK (pv 3) T.bP T.yC (GU T) hr.lo T.x9 .nil aG (aa (aM (aB (K:=K)) (pv 1) ax (λ_ _=>rfl)) (aa (pv 2) aj))))
   (ao (aE (aT (aa (b7 (pv 3) T.bP T.eg (jR T) hr.lo T.dZ .nil aG) aj)))))),?_⟩
  obtain ⟨da,g1⟩:=F.af
  obtain ⟨dh,g2⟩:=F.host j hj
  obtain ⟨ft,tb⟩:=F.tell j hj
  refine ⟨_,rfl,L.ad .af,a.aw,da,_,_,rfl,g1,T.au,T.bw,rfl,_,rfl,nm,_,0,_,rfl,rfl,bf.of hnm,at_of (j:=0) rfl rfl,L.hl,_,_,_,rfl,rfl,bf.of F.hl,at_of (j:=j) rfl (kP hj),?_⟩
  have gl:=tb.O7
  refine ⟨_,rfl,L.ad (.host j),dh,_,rfl,g2,rfl,_,rfl,nm,_,1,_,rfl,rfl,bf.of hnm,at_of (j:=1) rfl rfl,_,rfl,L.ad (.host j),L.ad (.tell j),L.ad (.pS j),_,_,m,v,so,L.ad .ls::L.ad .dl::bad,L.tl j,rfl,⟨dh,g2⟩,ft,hv,by omega,λl hl=>?_,λx hx=>?_,λH1 kp ht=>?_⟩
  ·have:=tb.len m
   rw [hl] at this
   have h2:(kx (Uz A j).bent m).length<=(Uz A j).bent.length:=VA ..
   have this:l.length=_:=this
   omega
  ·rcases UL.mp hx with rfl | hx
   ·rw [F.run.EY];intro z;cases z
   ·rcases UL.mp hx with rfl | hx
    ·rw [F.dl];intro z;cases z
    ·exact hbad x hx
  ·have tb':=tb.tell m so
   have F1:=F.Bo hj kp ht tb'
   have S1:Step H L A H1 (L.Pl j _) (AD A j ({ turn:=m,says:=so }::(Uz A j).bent)):=Step.Bo (g:=zo (L.tl j) m ((dB (L.tl j) m).getD []++[so])) (l:={ turn:=m,says:=so }::(Uz A j).bent) hj kp
   have nh:¬ L.ad (.host j)∈[L.ad (.tell j)]:=λz=>by have:=F.inj (.host j) (.tell j) hj hj (UE.mp z);cases this
   have g3:=kp _ _ g2 nh
   have gl':=tb'.O7
   refine ⟨_,rfl,L.ad (.host j),dh,_,rfl,g3,rfl,L.ad (.host j),L.ad (.tell j),L.ad (.pS j),_,_,_,_,rfl,⟨dh,g3⟩,ht,?_,λH2 s2=>⟨nz,λc hc=>?_⟩⟩
   ·rw [U0] at gl'
    exact US gl' (by omega)
   ·have s3:=s2.trans (az.laid (o:=.lst [.int ((qY (zo (L.tl j) m ((dB (L.tl j) m).getD []++[so])):Nat):Int)]) hc)
    obtain ⟨kv1,hk1,_⟩:=ht
    exact k _ _ c (S1.trans (Step.same s3)) (F1.same s3) (EI kp hk1 (s2.free hc)) (by rw [ae,tb'.sum])
theorem yz {h:UG} {A:Ux} {i z:Int} {f:Ux->Nat->UG × Vn} (eA:h.affair=some A) (c:(b0 A i&&lW A z)=false):(VJ h i λa i=>if Vj z 0 a.turns=false then UO h (-1) else f a i)=UO h (-1):=by
 cases c1:b0 A i with
 | false=>exact pE eA c1
 | true =>
  rw [c1,VU] at c
  obtain ⟨j,rfl,hj⟩:=cG c1
  exact (hC eA hj).trans (if_pos (show Vj z 0 A.turns=false from c))
theorem Cc {h:UG} {A:Ux} {j m:Nat} {f:Ux->Nat->UG × Vn} (eA:h.affair=some A) (hj:j < A.hosts.length) (c:lW A (m:Int)=true):(VJ h (j:Int) λa i=>if Vj (m:Int) 0 a.turns=false then UO h (-1) else f a i)=f A j :=
 (hC eA hj).trans (if_neg (show ¬ Vj (m:Int) 0 A.turns=false by rw [yi,c];decide))
abbrev AV (K:Uy) (a:bI):Sp:=fA K a (λxs rs c=>∃ i z,xs=[i,z]/\c=.mute i z) vQ
theorem Hy (T:Txt K mg a):a8 P w K mg base eS 3 a.kK a.m8 ["bench","numbers","rows"] (AV K a):=by
 refine T.tF.ok HV ?_ ?_
 ·rintro _ _ _ _ ⟨_,_,_,_,_,_,_,_,_,_,_,_,_,rfl,_⟩
  rfl
 ·rintro cdv A outer s H _ Q E hr ⟨bad,be,nm,rw,ln,wd,L,h,N,xs,ps,rs,c,rfl,G,⟨i,z,rfl,rfl⟩,⟨A,eA⟩,k⟩
  refine ⟨_,(ah (bj (ie (bJ (aK (ai (K:=K) (pv 0) rfl) T.au T.bA (bT T) hr.lo T.bz .nil aG (aa (aM (aB (K:=K)) (pv 1) ax (λ_ _=>rfl)) (aa (aM (aB (K:=K)) (pv 1) ax (λ_ _=>rfl)) aj))))) (ao (aE (aT (aa (aO (by rfl) T.bZ) aj)))) aQ)
   (ao (aE (bE (Lc T) hr.lo rfl T.HE T.Ex.kp T.Hc .nil aG (aa (ai (K:=K) (pv 0) rfl) (aa (pv 1) (aa ib aj))))))),?_⟩
  have hN:=G.n
  obtain ⟨dx,hbe⟩:=G.Jd eA
  have F:=G.at_.j5 A eA
  have oA:=G.ok.j5 A eA
  obtain ⟨da,g1⟩:=F.af
  refine ⟨_,rfl,be,a.aL,dx,_,_,rfl,hbe,T.aR,T.aI,rfl,L.ad .af,da,_,rfl,g1,rfl,_,rfl,nm,_,0,_,rfl,rfl,bf.of G.nums,at_of (j:=0) rfl rfl,_,rfl,nm,_,1,_,rfl,rfl,bf.of G.nums,at_of (j:=1) rfl rfl,bad,L,A,i,z,rfl,F,_,rfl,?_⟩
  cases c:(b0 A i&&lW A z) with
  | false=>exact bc ⟨nz,λc' hc=>k _ _ _ _ c' (G.refuse (az.refl H) hc ((Lo ..).trans (yz eA c)))⟩
  | true =>
   rw [UN] at c
   obtain ⟨j,rfl,hj⟩:=cG c.1
   obtain ⟨m,rfl,hm⟩:=oY c.2
   have es:=(Lo h (j:Int) (m:Int)).trans (Cc eA hj c.2)
   have bl:=(oA.bent j hj).1
   refine bu ⟨_,rfl,be,a.aL,dx,_,_,rfl,hbe,T.aR,T.aI,rfl,_,rfl,bad,L,A,nm,j,m,.dH,none,rfl,F,G.nums,hj,by omega,rfl,λx hx=>?_,λH' L' c' S' F' hc' ht'=>k _ _ _ _ c' (G.j5 eA S' F' (by rw [es];rfl) (G.fresh hc') (ns:=[((({ turn:=m,says:=none }:Vm)::(Uz A j).bent).length:Int)]) (by rw [es];rfl) ht')⟩
   obtain ⟨ys,e⟩:=G.at_.zj x hx
   rw [e];intro z;cases z
abbrev CJ (K:Uy) (a:bI):Sp:=fA K a (λxs rs c=>∃ i z l,xs=[i,z]/\rs=[l]/\c=.lie i z l) vQ
theorem IS (T:Txt K mg a):a8 P w K mg base eS 3 a.mE a.o8 ["bench","numbers","rows"] (CJ K a):=by
 refine T.v7.ok CK ?_ ?_
 ·rintro _ _ _ _ ⟨_,_,_,_,_,_,_,_,_,_,_,_,_,rfl,_⟩
  rfl
 ·rintro cdv A outer s H _ Q E hr ⟨bad,be,nm,rw,ln,wd,L,h,N,xs,ps,rs,c,rfl,G,⟨i,z,l,rfl,rfl,rfl⟩,⟨A,eA⟩,k⟩
  refine ⟨_,(ah (aP (i:=3) CK.nd rfl (Or.inl rfl) (ai (K:=K) (pv 0) rfl))
   (ah (bj (ie (PW.pt (ya (bJ (aK (pv 3) T.au T.bA (bT T) hr.lo T.bz .nil aG (aa (aM (aB (K:=K)) (pv 1) ax (λ_ _=>rfl)) (aa (aM (aB (K:=K)) (pv 1) ax (λ_ _=>rfl)) aj)))) (zf (bJ (aK (ai (K:=K) (pv 3) rfl) T.mW T.nM (wN T) hr.lo T.nX .nil aG (aa (aM (aB (K:=K)) (pv 2) ax (λ_ _=>rfl)) aj))))))) (ao (aE (aT (aa (aO (by rfl) T.bZ) aj)))) aQ)
   (ao (aE (bE (Lc T) hr.lo rfl T.HE T.Ex.kp T.Hc .nil aG (aa (pv 3) (aa (pv 1) (aa (gb (vO (K:=K)) (by rfl) T.y9 jK (aa (aM (aB (K:=K)) (pv 2) ax (λ_ _=>rfl)) aj)) aj)))))))),?_⟩
  have hN:=G.n
  obtain ⟨dx,hbe⟩:=G.Jd eA
  have F:=G.at_.j5 A eA
  have oA:=G.ok.j5 A eA
  obtain ⟨da,g1⟩:=F.af
  obtain ⟨dr,g2⟩:=F.run.run
  have hrow:=G.row
  have hrows:=G.rows
  have hl:=G.O6 l (UE.mpr rfl)
  cases hrow with
  | cons hp0 hnil =>
   rename_i p0 pr
   cases hnil
   obtain ⟨r1,r2⟩:=EZ (A:=A) (ns:=l) oA.good.base.prog.pos oA.good.base.vM.pos
   refine ⟨_,rfl,be,a.aL,dx,_,_,rfl,hbe,T.aR,T.aI,rfl,?_⟩
   refine ⟨_,rfl,L.ad .af,da,_,rfl,g1,rfl,_,rfl,nm,_,0,_,rfl,rfl,bf.of G.nums,at_of (j:=0) rfl rfl,_,rfl,nm,_,1,_,rfl,rfl,bf.of G.nums,at_of (j:=1) rfl rfl,bad,L,A,i,z,rfl,F,_,rfl,?_⟩
   cases c:(b0 A i&&lW A z) with
   | false=>exact bu (bc ⟨nz,λc' hc=>k _ _ _ _ c' (G.refuse (az.refl H) hc ((OY ..).trans (yz eA c)))⟩)
   | true =>
    rw [UN] at c
    obtain ⟨j,rfl,hj⟩:=cG c.1
    obtain ⟨m,rfl,hm⟩:=oY c.2
    have es:=(OY h (j:Int) (m:Int) l).trans (Cc eA hj c.2)
    have bl:=(oA.bent j hj).1
    refine bc ⟨_,rfl,L.ad .af,a.aw,da,_,_,rfl,g1,T.au,T.gM,rfl,L.r,dr,_,rfl,g2,rfl,_,rfl,rw,_,0,_,rfl,rfl,bf.of hrows,at_of (j:=0) rfl rfl,L.r,L.lo,L.ad .ls,p0,L.os,L.ts,A.program,A.begin_,l,rfl,F.run,bf.of hp0,hl,λH1 s1=>⟨_,rfl,?_⟩⟩
    cases c3:Fz A.program.length A.begin_.nums.length l with
    | false =>
     rw [r2 c3] at es
     exact bc ⟨nz,λc' hc=>k _ _ _ _ c' (G.refuse s1 hc es)⟩
    | true =>
     obtain ⟨s0,e1,e2,e3⟩:=r1 c3
     rw [e1] at es
     refine bu ⟨_,rfl,_,rfl,_,rfl,rw,_,0,_,rfl,rfl,bf.of (s1 _ _ hrows),at_of (j:=0) rfl rfl,p0,_,rfl,.inl ⟨bf.of (s1 _ _ hp0),λu hu=>?_⟩⟩
     have s2:=s1.trans (az.laid (o:=.tup (l.map V.int)) hu)
     refine ⟨bad,L,A,nm,j,m,.ref u,some s0,rfl,F.same s2,s2 _ _ G.nums,hj,by omega,⟨u,rfl,by rw [ae,e3]⟩,λx hx=>?_,λH' L' c' S' F' hc' ht'=>k _ _ _ _ c' (G.j5 eA ((Step.same s2).trans S') F' (by rw [es];rfl) (G.fresh (s2.free hc')) (ns:=[((({ turn:=m,says:=some s0 }:Vm)::(Uz A j).bent).length:Int)]) (by rw [es];rfl) ht')⟩
     obtain ⟨ys,e⟩:=G.at_.zj x hx
     rw [s2 _ _ e];intro z;cases z
abbrev yr (K:Uy) (a:bI):Sp:=fA K a (λxs rs c=>∃ i z,xs=[i,z]/\c=.honest i z) vQ
theorem Fl (T:Txt K mg a):a8 P w K mg base eS 3 a.ia a.jH ["bench","numbers","rows"] (yr K a):=by
 refine T.pZ.ok yK ?_ ?_
 ·rintro _ _ _ _ ⟨_,_,_,_,_,_,_,_,_,_,_,_,_,rfl,_⟩
  rfl
 ·rintro cdv A outer s H _ Q E hr ⟨bad,be,nm,rw,ln,wd,L,h,N,xs,ps,rs,c,rfl,G,⟨i,z,rfl,rfl⟩,⟨A,eA⟩,k⟩
  refine ⟨_,(ah (bj (ie (bJ (aK (ai (K:=K) (pv 0) rfl) T.au T.bA (bT T) hr.lo T.bz .nil aG (aa (aM (aB (K:=K)) (pv 1) ax (λ_ _=>rfl)) (aa (aM (aB (K:=K)) (pv 1) ax (λ_ _=>rfl)) aj))))) (ao (aE (aT (aa (aO (by rfl) T.bZ) aj)))) aQ)
   (ah (aP (i:=3) yK.nd rfl (Or.inl rfl) (aM (aB (K:=K)) (ai (K:=K) (ai (K:=K) (pv 0) rfl) rfl) (aM (aB (K:=K)) (pv 1) ax (λ_ _=>rfl)) (λ_ _=>rfl)))
   (ah (bU (aK (pv 3) T.bP T.pb (Br T) hr.lo T.pq .nil aG (aa (aM (aB (K:=K)) (pv 1) ax (λ_ _=>rfl)) aj)))
   (ao (aE (aT (aa (b7 (pv 3) T.bP T.eg (jR T) hr.lo T.dZ .nil aG) aj))))))),?_⟩
  have hN:=G.n
  obtain ⟨dx,hbe⟩:=G.Jd eA
  have F:=G.at_.j5 A eA
  have oA:=G.ok.j5 A eA
  obtain ⟨da,g1⟩:=F.af
  refine ⟨_,rfl,be,a.aL,dx,_,_,rfl,hbe,T.aR,T.aI,rfl,L.ad .af,da,_,rfl,g1,rfl,_,rfl,nm,_,0,_,rfl,rfl,bf.of G.nums,at_of (j:=0) rfl rfl,_,rfl,nm,_,1,_,rfl,rfl,bf.of G.nums,at_of (j:=1) rfl rfl,bad,L,A,i,z,rfl,F,_,rfl,?_⟩
  cases c:(b0 A i&&lW A z) with
  | false=>exact bc ⟨nz,λc' hc=>k _ _ _ _ c' (G.refuse (az.refl H) hc ((GC ..).trans (yz eA c)))⟩
  | true =>
   rw [UN] at c
   obtain ⟨j,rfl,hj⟩:=cG c.1
   obtain ⟨m,rfl,hm⟩:=oY c.2
   have es:=(GC h (j:Int) (m:Int)).trans (Cc eA hj c.2)
   have bl:=(oA.bent j hj).1
   obtain ⟨dh,g2⟩:=F.host j hj
   obtain ⟨ft,tb⟩:=F.tell j hj
   refine bu ⟨_,rfl,be,a.aL,dx,_,_,rfl,hbe,T.aR,T.aI,rfl,L.ad .af,a.aw,da,_,_,rfl,g1,T.au,T.bw,rfl,_,rfl,nm,_,0,_,rfl,rfl,bf.of G.nums,at_of (j:=0) rfl rfl,L.hl,_,_,_,rfl,rfl,bf.of F.hl,at_of (j:=j) rfl (kP hj),?_⟩
   refine ⟨_,rfl,L.ad (.host j),dh,_,rfl,g2,rfl,_,rfl,nm,_,1,_,rfl,rfl,bf.of G.nums,at_of (j:=1) rfl rfl,L.ad (.host j),L.ad (.tell j),L.ad (.pS j),_,_,m,_,L.tl j,rfl,⟨dh,g2⟩,ft,λH1 kp ht=>?_⟩
   have tb':=tb.back m
   have F1:=F.Bo hj kp ht tb'
   have S1:Step H L A H1 (L.Pl j (wA (L.tl j) m)) (AD A j ((Uz A j).bent.filter λx=>x.turn != m)):=Step.Bo hj kp
   have nh:¬ L.ad (.host j)∈[L.ad (.tell j)]:=λz=>by have:=F.inj (.host j) (.tell j) hj hj (UE.mp z);cases this
   have g3:=kp _ _ g2 nh
   have gl':=tb'.O7
   have gl2:=VA (λx:Vm=>x.turn != m) (Uz A j).bent
   refine ⟨_,rfl,L.ad (.host j),dh,_,rfl,g3,rfl,L.ad (.host j),L.ad (.tell j),L.ad (.pS j),_,_,_,_,rfl,⟨dh,g3⟩,ht,by omega,λH2 s2=>⟨nz,λc hc=>?_⟩⟩
   have s3:=s2.trans (az.laid (o:=.lst [.int ((qY (wA (L.tl j) m):Nat):Int)]) hc)
   obtain ⟨kv1,hk1,_⟩:=ht
   exact k _ _ _ _ c (G.j5 eA (S1.trans (Step.same s3)) (F1.same s3) (by rw [es];rfl) (G.fresh (EI kp hk1 (s2.free hc))) (ns:=[(((Uz A j).bent.filter λx=>x.turn != m).length:Int)]) (by rw [es];rfl) (by rw [ae,tb'.sum];rfl))
end
def y6 (A:Ux) (x y:Int):Int :=
 if (b0 A x&&b0 A y)=false then -1
 else if A.found.isSome=true then -3
 else if ((Uz A x.toNat).out || (Uz A y.toNat).out)=true then -10
 else if x=y∨Wf A x.toNat y.toNat=true then -11
 else match UD A x.toNat A.turns,UD A y.toNat A.turns with
 | some r,some s=>if r=s then -12 else 0
 | _,_=>-4
theorem Ic {A:Ux} {i:Nat} (hi:i < A.hosts.length):Vbapaj.isIn A i=!(Uz A i).out:=by
 unfold Vbapaj.isIn
 rw [decide_eq_true hi,VU]
theorem Oa {h:UG} {A:Ux} {x y:Int} (eA:h.affair=some A):(y6 A x y≠0->UH h (.pair x y)=UO h (y6 A x y)) /\
  (y6 A x y=0->∃ (i j:Nat) (r s:UB),x=(i:Int)/\y=(j:Int)/\i < A.hosts.length/\j < A.hosts.length/\i≠j/\(Uz A i).out=false/\(Uz A j).out=false/\UD A i A.turns=some r/\UD A j A.turns=some s/\r≠s /\
   UH h (.pair x y)=(V5 h (Vbapaj.allWeighed (ig A i j)),{ value:=((A.disputes.length+1:Nat):Int) })):=by
 rw [P1]
 unfold y6
 cases c1:b0 A x with
 | false =>
  rw [V7,if_pos rfl]
  exact ⟨λ_=>pE eA c1,λz=>absurd z (by decide)⟩
 | true =>
  obtain ⟨i,rfl,hi⟩:=cG c1
  rw [hC eA hi]
  cases c2:b0 A y with
  | false =>
   rw [Bool.and_false,if_pos rfl]
   exact ⟨λ_=>pE eA c2,λz=>absurd z (by decide)⟩
  | true =>
   obtain ⟨j,rfl,hj⟩:=cG c2
   rw [hC eA hj,Bool.and_self,if_neg (by decide)]
   simp only [Wo]
   by_cases c3:A.found.isSome=true
   ·rw [if_pos c3,if_pos c3]
    exact ⟨λ_=>rfl,λz=>absurd z (by decide)⟩
   ·rw [if_neg c3,if_neg c3,Ic hi,Ic hj]
    by_cases c4:((Uz A i).out || (Uz A j).out)=true
    ·rw [if_pos c4,if_pos (by rw [Wc] at c4;rcases c4 with e | e<;>simp [e])]
     exact ⟨λ_=>rfl,λz=>absurd z (by decide)⟩
    ·have o1:(Uz A i).out=false:=by revert c4;cases (Uz A i).out<;>simp
     have o2:(Uz A j).out=false:=by revert c4;cases (Uz A j).out<;>simp
     rw [if_neg c4,o1,o2,if_neg (show ¬ (!false&&!false)=false by decide)]
     have ep:((i:Int)=(j:Int)∨Wf A i j=true) ↔ (i=j∨Wf A i j=true):=by
      constructor
      ·rintro (e | e)
       ·exact .inl (by omega)
       ·exact .inr e
      ·rintro (e | e)
       ·exact .inl (by omega)
       ·exact .inr e
     by_cases c5:i=j∨Wf A i j=true
     ·rw [if_pos c5,if_pos (ep.mpr c5)]
      exact ⟨λ_=>rfl,λz=>absurd z (by decide)⟩
     ·rw [if_neg c5,if_neg (λz=>c5 (ep.mp z))]
      cases e1:UD A i A.turns with
      | none=>exact ⟨λ_=>rfl,λz=>absurd (show (-4:Int)=0 from z) (by decide)⟩
      | some r =>
       cases e2:UD A j A.turns with
       | none=>exact ⟨λ_=>rfl,λz=>absurd (show (-4:Int)=0 from z) (by decide)⟩
       | some s =>
        simp only []
        by_cases c6:r=s
        ·rw [if_pos c6,if_pos c6]
         exact ⟨λ_=>rfl,λz=>absurd z (by decide)⟩
        ·rw [if_neg c6,if_neg c6]
         exact ⟨λz=>absurd rfl z,λ_=>⟨i,j,r,s,rfl,rfl,hi,hj,λe=>c5 (.inl e),o1,o2,e1,e2,c6,rfl⟩⟩
section
variable {P:Program} {w:World} {K:Uy} {mg:Str->Option Value} {base:Heap} {a:bI}
def C7 (K:Uy) (a:bI):Sp:=λvs H Q _=>∃ (bad:List Addr) (L:Lay) (A:Ux) (x y:Int),vs=[.ref (L.ad .af),.int x,.int y]/\aJ a bad H L A/\Once A.heard/\A.disputes.length<=1000/\∀ H',az H H'->Q (.int (y6 A x y)) H'
theorem Ds (T:Txt K mg a):a8 P w K mg base eS 5 a.kS a.lp ["affair","x","y"] (C7 K a):=by
 refine T.nY.ok qC ?_ ?_
 ·rintro _ _ _ _ ⟨_,_,_,_,_,rfl,_⟩
  rfl
 ·rintro cdv A outer s H _ Q E hr ⟨bad,L,A,x,y,rfl,F,ho,hd,k⟩
  refine ⟨_,(ah (bj (ie (PW.pt (ya (bJ (aK (pv 0) T.au T.dv (fO T) hr.lo T.cW .nil aG (aa (pv 1) aj))) (zf (bJ (aK (pv 0) T.au T.dv (fO T) hr.lo T.cW .nil aG (aa (pv 2) aj))))))) (ao (aE (aO (by rfl) T.bZ))) aQ)
   (ah (bj (bJ (ai (K:=K) (pv 0) rfl)) (ao (aE (aO (by rfl) T.vH))) aQ)
   (ah (bj (PW.pt (Gz (bJ (aK (pv 0) T.au T.gf (lG T) hr.lo T.gg .nil aG (aa (pv 1) aj))) (BM (bJ (aK (pv 0) T.au T.gf (lG T) hr.lo T.gg .nil aG (aa (pv 2) aj)))))) (ao (aE (aO (by rfl) T.ve))) aQ)
   (ah (bj (PW.pt (Gz (a9 uf (pv 1) (pv 2) (bo _)) (BM (bJ (aK (pv 0) T.au T.iu (uI T) hr.lo T.iN .nil aG (aa (pv 1) (aa (pv 2) aj))))))) (ao (aE (aO (by rfl) T.LU))) aQ)
   (ah (aP (i:=3) qC.nd rfl (Or.inl rfl) (aK (pv 0) T.au T.dU (fV T) hr.lo T.dR .nil aG (aa (pv 1) (aa (ai (K:=K) (pv 0) rfl) aj))))
   (ah (aP (i:=4) qC.nd rfl (Or.inl rfl) (aK (pv 0) T.au T.dU (fV T) hr.lo T.dR .nil aG (aa (pv 2) (aa (ai (K:=K) (pv 0) rfl) aj))))
   (ah (bj (PW.pt (Gz (a9 uq (pv 3) ib (bo _)) (BM (a9 uq (pv 4) ib (bo _))))) (ao (aE (aO (by rfl) T.tm))) aQ)
   (ao (aE (ox (a9 (DH (K:=K) hr.units) (pv 3) (pv 4) (bo _)) (aO (by rfl) T.vB) ax)))))))))),?_⟩
  obtain ⟨da,g1⟩:=F.af
  unfold y6 at k
  have e1:(b0 A x&&b0 A y)=false->Q (.int (-1)) H:=λc=>by have:=k H (az.refl H);rw [if_pos c] at this;exact this
  refine ⟨_,rfl,L.ad .af,da,_,rfl,g1,rfl,_,rfl,bad,L,A,x,rfl,F,_,rfl,?_⟩
  show if b0 A x=true then _ else _
  cases c1:b0 A x with
  | false=>exact bu (bc (e1 (by rw [c1];rfl)))
  | true =>
   refine bc ⟨_,rfl,L.ad .af,da,_,rfl,g1,rfl,_,rfl,bad,L,A,y,rfl,F,_,rfl,?_⟩
   show if (!b0 A y)=true then _ else _
   cases c2:b0 A y with
   | false=>exact bc (e1 (by rw [c1,c2];rfl))
   | true =>
    rw [c1,c2] at k
    obtain ⟨i,rfl,hi⟩:=cG c1
    obtain ⟨j,rfl,hj⟩:=cG c2
    simp only [Wo] at k
    refine bu ⟨_,rfl,L.ad .af,a.aw,da,_,_,rfl,g1,T.au,T.cF,rfl,_,rfl,?_⟩
    cases c3:A.found.isSome with
    | true =>
     have:=k H (az.refl H)
     rw [if_neg (by decide),if_pos c3] at this
     exact bc this
    | false =>
     refine bu ⟨_,rfl,L.ad .af,da,_,rfl,g1,rfl,_,rfl,bad,L,A,i,rfl,F,hi,_,rfl,?_⟩
     have k2:∀ H',az H H'->Q (.int (if ((Uz A i).out || (Uz A j).out)=true then -10 else if (i:Int)=(j:Int)∨Wf A i j=true then -11 else match UD A i A.turns,UD A j A.turns with | some r,some s=>if r=s then -12 else 0 | _,_=>-4)) H':=λH' s'=>by
      have:=k H' s'
      rw [if_neg (by decide),if_neg (by rw [c3];decide)] at this
      exact this
     clear k
     cases c4:(Uz A i).out with
     | true =>
      have:=k2 H (az.refl H)
      rw [if_pos (by rw [c4];rfl)] at this
      exact bc (bc this)
     | false =>
      refine bu ⟨_,rfl,L.ad .af,da,_,rfl,g1,rfl,_,rfl,bad,L,A,j,rfl,F,hj,_,rfl,?_⟩
      cases c5:(Uz A j).out with
      | true =>
       have:=k2 H (az.refl H)
       rw [if_pos (by rw [c5,Bool.or_true])] at this
       exact bc this
      | false =>
       rw [c4,c5] at k2
       refine bu ⟨_,rfl,_,rfl,rfl,_,rfl,?_⟩
       refine BW (λe=>?_) λe=>?_
       ·have:=k2 H (az.refl H)
        rw [if_neg (by decide),if_pos (.inl e)] at this
        exact bc this
       ·refine ⟨_,rfl,L.ad .af,da,_,rfl,g1,rfl,_,rfl,_,rfl,bad,L,A,i,j,rfl,F,hd,λH1 s1=>⟨_,rfl,?_⟩⟩
        rw [Jp]
        cases c6:Wf A i j with
        | true =>
         have:=k2 H1 s1
         rw [if_neg (by decide),if_pos (.inr c6)] at this
         exact bc this
        | false =>
         have k3:∀ H',az H H'->Q (.int (match UD A i A.turns,UD A j A.turns with | some r,some s=>if r=s then -12 else 0 | _,_=>-4)) H':=λH' s'=>by
          have:=k2 H' s'
          rw [if_neg (by decide),if_neg (by rintro (z | z);exact e z;rw [c6] at z;cases z)] at this
          exact this
         clear k2
         have F1:=F.same s1
         have g2:=s1 _ _ g1
         refine bu ⟨_,rfl,L.ad .af,da,_,rfl,g2,rfl,_,rfl,_,rfl,L.ad .af,a.aw,da,_,_,rfl,g2,T.au,T.fW,rfl,bad,L,A,i,A.turns,rfl,F1,hi,ho,λv hv=>?_⟩
         refine ⟨_,rfl,L.ad .af,da,_,rfl,g2,rfl,_,rfl,_,rfl,L.ad .af,a.aw,da,_,_,rfl,g2,T.au,T.fW,rfl,bad,L,A,j,A.turns,rfl,F1,hj,ho,λu hu=>?_⟩
         refine ⟨_,rfl,rfl,_,rfl,?_⟩
         have k4:=k3 H1 s1
         cases q1:UD A i A.turns with
         | none =>
          rw [q1] at hv k4
          obtain rfl:v=.dH:=hv
          exact bc (bc k4)
         | some r =>
          rw [q1] at hv k4
          obtain ⟨p,rfl,hp⟩:=hv
          refine bu ⟨_,rfl,rfl,_,rfl,?_⟩
          cases q2:UD A j A.turns with
          | none =>
           rw [q2] at hu k4
           obtain rfl:u=.dH:=hu
           exact bc k4
          | some s0 =>
           rw [q2] at hu k4
           obtain ⟨p2,rfl,hp2⟩:=hu
           refine bu ⟨_,rfl,_,rfl,jv (stI r),jv (stI s0),pI (gc.of (by rw [hp,fN])),pI (gc.of (by rw [hp2,fN])),shaped_ints _,shaped_ints _,_,rfl,?_⟩
           rw [sH,A4]
           by_cases c7:r=s0
           ·rw [decide_eq_true c7]
            have k4:Q (.int (if r=s0 then -12 else 0)) H1:=k4
            rw [if_pos c7] at k4
            exact bc k4
           ·rw [decide_eq_false c7]
            have k4:Q (.int (if r=s0 then -12 else 0)) H1:=k4
            rw [if_neg c7] at k4
            exact bu k4
abbrev AY (K:Uy) (a:bI):Sp:=fA K a (λxs rs c=>∃ x y,xs=[x,y]/\c=.pair x y) vQ
theorem Hq (T:Txt K mg a):a8 P w K mg base eS 7 a.k9 a.m9 ["bench","numbers","rows"] (AY K a):=by
 refine T.uj.ok AF ?_ ?_
 ·rintro _ _ _ _ ⟨_,_,_,_,_,_,_,_,_,_,_,_,_,rfl,_⟩
  rfl
 ·rintro cdv A outer s H _ Q E hr ⟨bad,be,nm,rw,ln,wd,L,h,N,xs,ps,rs,c,rfl,G,⟨x,y,rfl,rfl⟩,⟨A,eA⟩,k⟩
  refine ⟨_,(ah (aP (i:=3) AF.nd rfl (Or.inl rfl) (bE (Ds T) hr.lo rfl T.sZ T.nY.kp T.si .nil aG (aa (ai (K:=K) (pv 0) rfl) (aa (aM (aB (K:=K)) (pv 1) ax (λ_ _=>rfl)) (aa (aM (aB (K:=K)) (pv 1) ax (λ_ _=>rfl)) aj)))))
   (ah (bj (a9 D6 (pv 3) ax (bo _)) (ao (aE (aT (aa (pv 3) aj)))) aQ)
   (ao (aE (aT (aa (aK (ai (K:=K) (pv 0) rfl) T.au T.i7 (vD T) hr.lo T.jk .nil aG (aa (aM (aB (K:=K)) (pv 1) ax (λ_ _=>rfl)) (aa (aM (aB (K:=K)) (pv 1) ax (λ_ _=>rfl)) aj))) aj)))))),?_⟩
  have hN:=G.n
  obtain ⟨dx,hbe⟩:=G.Jd eA
  have F:=G.at_.j5 A eA
  have oA:=G.ok.j5 A eA
  have hdl:=oA.dl
  obtain ⟨da,g1⟩:=F.af
  obtain ⟨r1,r2⟩:=Oa (x:=x) (y:=y) eA
  refine ⟨_,rfl,be,a.aL,dx,_,_,rfl,hbe,T.aR,T.aI,rfl,_,rfl,nm,_,0,_,rfl,rfl,bf.of G.nums,at_of (j:=0) rfl rfl,_,rfl,nm,_,1,_,rfl,rfl,bf.of G.nums,at_of (j:=1) rfl rfl,bad,L,A,x,y,rfl,F,oA.good.base.once,by omega,λH1 s1=>?_⟩
  refine ⟨_,rfl,rfl,_,rfl,?_⟩
  refine Fc (λe=>?_) λe=>?_
  ·exact ⟨_,rfl,nz,λc' hc=>k _ _ _ _ c' (G.refuse s1 hc (r1 e))⟩
  ·obtain ⟨i,j,r,s0,rfl,rfl,hi,hj,ij,o1,o2,q1,q2,q3,es⟩:=r2 e
   rw [GY oA.num oA.quiet.quiet i j] at es
   refine ⟨_,rfl,be,a.aL,dx,_,_,rfl,s1 _ _ hbe,T.aR,T.aI,rfl,L.ad .af,da,_,rfl,s1 _ _ g1,rfl,_,rfl,nm,_,0,_,rfl,rfl,bf.of (s1 _ _ G.nums),at_of (j:=0) rfl rfl,_,rfl,nm,_,1,_,rfl,rfl,bf.of (s1 _ _ G.nums),at_of (j:=1) rfl rfl,bad,L,A,i,j,A.begin_.nums.length,rfl,F.same s1,oA.good.base,ij,oA.t1,by omega,oA.good.pair hi hj ij o1 o2 q1 q2 q3 oA.t1 oA.t2,λH' L' S' F'=>⟨nz,λc' hc=>?_⟩⟩
   have S2:=(Step.same (L:=L) (A:=A) s1).trans S'
   exact k _ _ _ _ c' (G.j5 eA (S2.trans (Step.same (az.laid hc))) (F'.same (az.laid hc)) (by rw [es];rfl) ((G.at_.yV eA S2 F').fresh hc) (ns:=[((A.disputes.length+1:Nat):Int)]) (by rw [es];rfl) ae)
end
def C9 (A:Ux) (z i:Int):Int :=
 if b0 A i=false then -1
 else if A.found.isSome=true then -3
 else if (Uz A i.toNat).out=true then -10
 else if lN A z=false then -6
 else if z=0 then (if (UD A i.toNat A.turns).isSome=true then -4 else 0)
 else if UJ (aN A (z.toNat - 1))=false then -3
 else if Vd (aN A (z.toNat - 1)) i.toNat=false then -6
 else if (UD A i.toNat (aN A (z.toNat - 1)).asked).isSome=true then -4 else 0
def Lg (h:UG) (z i:Int) (X:Ux->Nat->UG × Vn) (Y:Ux->Nat->UC->UG × Vn):UG × Vn:=VJ h i λa i =>
 if a.found.isSome=true then UO h (-3)
 else if Vbapaj.isIn a i=false then UO h (-10)
 else if z=0 then (if (UD a i a.turns).isSome=true then UO h (-4) else X a i)
 else match (if z < 0 then none else VY a z.toNat) with
 | none=>UO h (-6)
 | some e =>
  if UJ e=false then UO h (-3)
  else if Vd e i=false then UO h (-6)
  else if (UD a i e.asked).isSome=true then UO h (-4)
  else Y a i e
theorem Ql {h:UG} {A:Ux} {z i:Int} {X:Ux->Nat->UG × Vn} {Y:Ux->Nat->UC->UG × Vn} (eA:h.affair=some A) (hn:Num A):(C9 A z i≠0->Lg h z i X Y=UO h (C9 A z i)) /\
  (C9 A z i=0->∃ j:Nat,i=(j:Int)/\j < A.hosts.length/\(Uz A j).out=false/\A.found=none/\((z=0/\UD A j A.turns=none/\Lg h z i X Y=X A j) ∨
   ∃ m:Nat,z=((m+1:Nat):Int)/\m < A.disputes.length/\UJ (aN A m)=true/\Vd (aN A m) j=true/\UD A j (aN A m).asked=none/\Lg h z i X Y=Y A j (aN A m))):=by
 unfold C9 Lg
 cases c1:b0 A i with
 | false =>
  rw [if_pos rfl]
  exact ⟨λ_=>pE eA c1,λz=>absurd z (by decide)⟩
 | true =>
  obtain ⟨j,rfl,hj⟩:=cG c1
  rw [hC eA hj,if_neg (by decide)]
  simp only [Wo]
  by_cases c3:A.found.isSome=true
  ·rw [if_pos c3,if_pos c3]
   exact ⟨λ_=>rfl,λz=>absurd z (by decide)⟩
  ·have fn:A.found=none:=by simpa using c3
   rw [if_neg c3,if_neg c3,Ic hj]
   cases c4:(Uz A j).out with
   | true =>
    rw [if_pos rfl,if_pos (show (!true)=false from rfl)]
    exact ⟨λ_=>rfl,λz=>absurd z (by decide)⟩
   | false =>
    rw [if_neg (show ¬ (false=true) by decide),if_neg (show ¬ (!false)=false by decide)]
    by_cases z0:z=0
    ·subst z0
     have d0:lN A 0=true:=by unfold lN;rw [decide_eq_true (show (0:Int)<=0 by decide),decide_eq_true (show (0:Int)<=(A.disputes.length:Int) by omega)];rfl
     rw [d0,if_neg (show ¬ (true=false) by decide),if_pos rfl,if_pos rfl]
     by_cases c5:(UD A j A.turns).isSome=true
     ·rw [if_pos c5,if_pos c5]
      exact ⟨λ_=>rfl,λz=>absurd z (by decide)⟩
     ·rw [if_neg c5,if_neg c5]
      exact ⟨λz=>absurd rfl z,λ_=>⟨j,rfl,hj,c4,fn,.inl ⟨rfl,by simpa using c5,rfl⟩⟩⟩
    ·rw [if_neg z0,if_neg z0]
     cases c6:lN A z with
     | false =>
      have:(if z < 0 then none else VY A z.toNat)=none:=zI hn (by rw [c6,Bool.and_false])
      rw [if_pos rfl,this]
      exact ⟨λ_=>rfl,λz=>absurd z (by decide)⟩
     | true =>
      obtain ⟨m,hm,rfl,e⟩:=zM hn (show (!decide (z=0)&&lN A z)=true by rw [c6,decide_eq_false z0];rfl)
      have e:(if ((m+1:Nat):Int) < 0 then none else VY A ((m+1:Nat):Int).toNat)=some (aN A m):=e
      rw [if_neg (show ¬ (true=false) by decide),e]
      have em:((m+1:Nat):Int).toNat - 1=m:=by omega
      rw [em]
      simp only []
      by_cases c7:UJ (aN A m)=false
      ·rw [if_pos c7,if_pos c7]
       exact ⟨λ_=>rfl,λz=>absurd z (by decide)⟩
      ·rw [if_neg c7,if_neg c7]
       by_cases c8:Vd (aN A m) j=false
       ·rw [if_pos c8,if_pos c8]
        exact ⟨λ_=>rfl,λz=>absurd z (by decide)⟩
       ·rw [if_neg c8,if_neg c8]
        by_cases c9:(UD A j (aN A m).asked).isSome=true
        ·rw [if_pos c9,if_pos c9]
         exact ⟨λ_=>rfl,λz=>absurd z (by decide)⟩
        ·rw [if_neg c9,if_neg c9]
         exact ⟨λz=>absurd rfl z,λ_=>⟨j,rfl,hj,c4,fn,.inr ⟨m,rfl,hm,by simpa using c7,by simpa using c8,by simpa using c9,rfl⟩⟩⟩
theorem IA (l:List Nat):(mf l).all Bw=true:=by
 unfold mf
 rw [List.all_map,WG]
 exact λ_ _=>rfl
theorem OZ {n j:Nat} (h:j < n):Lw (.int (j:Int)) (mf (List.range n))=true:=by
 unfold Lw mf
 rw [V1,Ws]
 refine ⟨j,U8.mpr h,?_⟩
 simp [N2]
section
variable {P:Program} {w:World} {K:Uy} {mg:Str->Option Value} {base:Heap} {a:bI}
def zg (K:Uy) (a:bI):Sp:=λvs H Q _=>∃ (bad:List Addr) (L:Lay) (A:Ux) (z i:Int),vs=[.ref (L.ad .af),.int z,.int i]/\aJ a bad H L A/\Once A.heard/\∀ H',az H H'->Q (.int (C9 A z i)) H'
theorem rb (T:Txt K mg a):a8 P w K mg base eS 2 a.fR a.fF ["affair","number","host"] (zg K a):=by
 refine T.fP.ok rf ?_ ?_
 ·rintro _ _ _ _ ⟨_,_,_,_,_,rfl,_⟩
  rfl
 ·rintro cdv A outer s H _ Q E hr ⟨bad,L,A,z,i,rfl,F,ho,k⟩
  refine ⟨_,(ah (bj (ie (bJ (aK (pv 0) T.au T.dv (fO T) hr.lo T.cW .nil aG (aa (pv 2) aj)))) (ao (aE (aO (by rfl) T.bZ))) aQ)
   (ah (bj (bJ (ai (K:=K) (pv 0) rfl)) (ao (aE (aO (by rfl) T.vH))) aQ)
   (ah (bj (bJ (aK (pv 0) T.au T.gf (lG T) hr.lo T.gg .nil aG (aa (pv 2) aj))) (ao (aE (aO (by rfl) T.ve))) aQ)
   (ah (bj (ie (bJ (aK (pv 0) T.au T.gw (oW T) hr.lo T.gQ .nil aG (aa (pv 1) aj)))) (ao (aE (aO (by rfl) T.lu))) aQ)
   (ah (aP (i:=3) rf.nd rfl (Or.inl rfl) (aK (pv 0) T.au T.bG (bW T) hr.lo T.bF .nil aG (aa (pv 1) aj)))
   (ah (bj (ie (bJ (QP (b7 (pv 3) T.eG T.nF (zH T) hr.lo T.nR .nil aG) (b7 (pv 3) T.aA T.eI (i4 T) hr.lo T.eE .nil aG)))) (ao (aE (aO (by rfl) T.vH))) aQ)
   (ah (bj (a9 (Gy (K:=K)) (pv 2) (ai (K:=K) (pv 3) rfl) rfl) (ao (aE (aO (by rfl) T.lu))) aQ)
   (ao (aE (ox (a9 uq (aK (pv 0) T.au T.dU (fV T) hr.lo T.dR .nil aG (aa (pv 2) (aa (ai (K:=K) (pv 3) rfl) aj))) ib (bo _)) ax (aO (by rfl) T.tm))))))))))),?_⟩
  obtain ⟨da,g1⟩:=F.af
  unfold C9 at k
  refine ⟨_,rfl,L.ad .af,da,_,rfl,g1,rfl,_,rfl,bad,L,A,i,rfl,F,_,rfl,?_⟩
  show if (!b0 A i)=true then _ else _
  cases c1:b0 A i with
  | false =>
   have:=k H (az.refl H)
   rw [if_pos c1] at this
   exact bc this
  | true =>
   obtain ⟨j,rfl,hj⟩:=cG c1
   simp only [Wo] at k
   refine bu ⟨_,rfl,L.ad .af,a.aw,da,_,_,rfl,g1,T.au,T.cF,rfl,_,rfl,?_⟩
   cases c3:A.found.isSome with
   | true =>
    have:=k H (az.refl H)
    rw [if_neg (by rw [c1];decide),if_pos c3] at this
    exact bc this
   | false =>
    refine bu ⟨_,rfl,L.ad .af,da,_,rfl,g1,rfl,_,rfl,bad,L,A,j,rfl,F,hj,_,rfl,?_⟩
    cases c4:(Uz A j).out with
    | true =>
     have:=k H (az.refl H)
     rw [if_neg (by rw [c1];decide),if_neg (by rw [c3];decide),if_pos c4] at this
     exact bc this
    | false =>
     refine bu ⟨_,rfl,L.ad .af,da,_,rfl,g1,rfl,_,rfl,bad,L,A,z,rfl,F,_,rfl,?_⟩
     show if (!lN A z)=true then _ else _
     cases c5:lN A z with
     | false =>
      have:=k H (az.refl H)
      rw [if_neg (by rw [c1];decide),if_neg (by rw [c3];decide),if_neg (by rw [c4];decide),if_pos c5] at this
      exact bc this
     | true =>
      obtain ⟨n,rfl,hn⟩:∃ n:Nat,z=(n:Int)/\n<=A.disputes.length:=by
       unfold lN at c5
       rw [UN,decide_eq_true_eq,decide_eq_true_eq] at c5
       exact ⟨z.toNat,by omega,by omega⟩
      have k2:∀ H',az H H'->Q (.int (if (n:Int)=0 then (if (UD A j A.turns).isSome=true then -4 else 0)
        else if UJ (aN A (n - 1))=false then -3
        else if Vd (aN A (n - 1)) j=false then -6
        else if (UD A j (aN A (n - 1)).asked).isSome=true then -4 else 0)) H':=λH' s'=>by
       have:=k H' s'
       rw [if_neg (by rw [c1];decide),if_neg (by rw [c3];decide),if_neg (by rw [c4];decide),if_neg (by rw [c5];decide)] at this
       exact this
      clear k
      refine bu ⟨_,rfl,L.ad .af,da,_,rfl,g1,rfl,_,rfl,bad,L,A,n,rfl,F,hn,?_⟩
      by_cases n0:n=0
      ·subst n0
       rw [if_pos rfl]
       obtain ⟨⟨dop,gop⟩,hot,_⟩:=F.op
       have k3:Q (.int (if (UD A j A.turns).isSome=true then -4 else 0)) H:=k2 H (az.refl H)
       refine .inl ⟨_,rfl,L.ad .op,dop,_,rfl,gop,rfl,L.ad .op,rfl,_,rfl,bu ?_⟩
       refine ⟨_,rfl,_,rfl,L.ad .op,a.bH,dop,_,_,rfl,gop,T.eG,T.qN,rfl,_,_,rfl,.inr (gc.of hot),rfl,IA _,_,rfl,?_⟩
       have hin:Lw (.int (j:Int)) (mf (List.range A.saidTo.length))=true:=OZ (by rw [F.FL];exact hj)
       show if (!Lw (.int (j:Int)) (mf (List.range A.saidTo.length)))=true then _ else _
       rw [hin]
       refine bu ?_
       refine ⟨_,rfl,L.ad .af,da,_,rfl,g1,rfl,_,rfl,_,rfl,L.ad .op,a.bH,dop,_,_,rfl,gop,T.eG,T.lh,rfl,bad,L,A,j,A.turns,rfl,F,hj,ho,λv hv=>⟨rfl,_,rfl,?_⟩⟩
       cases q:UD A j A.turns with
       | none =>
        rw [q] at hv k3
        obtain rfl:v=.dH:=hv
        exact bc k3
       | some r =>
        rw [q] at hv k3
        obtain ⟨p,rfl,hp⟩:=hv
        exact bu k3
      ·rw [if_neg n0]
       have hm:n - 1 < A.disputes.length:=by omega
       have D:=F.aH (n - 1) _ (ba hm)
       obtain ⟨dd,gd⟩:=D.ins
       refine .inr ⟨_,rfl,L.ad (.aH (n - 1)),dd,_,rfl,gd,rfl,L.ad (.aH (n - 1)),_,_,_,_,aN A (n - 1),rfl,D,λH1 s1=>⟨_,rfl,?_⟩⟩
       have k3:=k2 H1 s1
       rw [if_neg (by omega)] at k3
       clear k2
       have gd1:=s1 _ _ gd
       cases c7:UJ (aN A (n - 1)) with
       | false =>
        rw [if_pos c7] at k3
        exact bc k3
       | true =>
        rw [if_neg (by rw [c7];decide)] at k3
        refine bu ⟨_,rfl,_,rfl,L.ad (.aH (n - 1)),a.ay,dd,_,_,rfl,gd1,T.aA,T.aY,rfl,_,_,rfl,.inr (D.hosts.imp (s1 _)).sq,rfl,rfl,_,rfl,?_⟩
        show if (!Lw (.int (j:Int)) [.int ((aN A (n - 1)).x:Int),.int ((aN A (n - 1)).y:Int)])=true then _ else _
        rw [Hr]
        cases c8:Vd (aN A (n - 1)) j with
        | false =>
         have c8':((aN A (n - 1)).x == j || (aN A (n - 1)).y == j)=false:=c8
         rw [c8']
         rw [if_pos c8] at k3
         exact bc k3
        | true =>
         have c8':((aN A (n - 1)).x == j || (aN A (n - 1)).y == j)=true:=c8
         rw [c8']
         rw [if_neg (by rw [c8];decide)] at k3
         refine bu ⟨_,rfl,L.ad .af,da,_,rfl,s1 _ _ g1,rfl,_,rfl,_,rfl,L.ad (.aH (n - 1)),a.ay,dd,_,_,rfl,gd1,T.aA,T.bC,rfl,bad,L,A,j,(aN A (n - 1)).asked,rfl,F.same s1,hj,ho,λv hv=>⟨rfl,_,rfl,?_⟩⟩
         cases q:UD A j (aN A (n - 1)).asked with
         | none =>
          rw [q] at hv k3
          obtain rfl:v=.dH:=hv
          exact bc k3
         | some r =>
          rw [q] at hv k3
          obtain ⟨p,rfl,hp⟩:=hv
          exact bu k3
end
section
variable {a:bI} {bad:List Addr} {H H':Hp} {L:Lay} {A:Ux}
def Tj (A:Ux) (cA:List Nat) (lost:Nat):Ux:={ A with saidTo:=cA,lost:=lost }
theorem aJ.setOp {cA:List Nat} {lost:Nat} (F:aJ a bad H L A) (k:Keeps [L.ad .op,L.ad .oa] H H') (hl:cA.length=A.saidTo.length) (O:HI a H' (L.ad .op) (L.ad .oa) L.ot A.turns cA lost):aJ a bad H' L (Tj A cA lost):=by
 have hrs:∀ x∈[Role.op,Role.oa],Lv A x:=λx hx=>by
  rcases UL.mp hx with rfl | hx
  ·trivial
  ·rw [UE.mp hx];trivial
 have k':Keeps ([Role.op,Role.oa].map L.ad) H H':=k
 exact ⟨F.inj,F.Rv hrs k' (by simp),F.runK hrs k' (by simp),F.M6,F.P4 hrs k',λi hi=>F.DZ hrs k' hi (by simp),λi hi=>⟨F.Cw hrs k' hi (by simp),(F.tell i hi).2⟩,λj hj=>F.IC hrs k' hj (by simp),O,F.QN hrs k' (by simp),
  λj d hj=>F.CP hrs k' hj (by simp) (by simp),F.OR,F.N7,hl.trans F.FL⟩
theorem Step.setOp {cA:List Nat} {lost:Nat} (k:Keeps [L.ad .op,L.ad .oa] H H'):Step H L A H' L (Tj A cA lost) :=
 { Step.refl H L A with keep:=λb o e n=>k b o e λm=>(UL.mp m).elim (λz=>n .op trivial z) λz=>n .oa trivial (UE.mp z) }
end
theorem N0 {kvs:List (Key × V)} {cA:List Nat} {j:Nat} (hD:DR (λv (m:Nat)=>v=.int (m:Int)) kvs (wR cA)) (hj:j < cA.length):DR (λv (m:Nat)=>v=.int (m:Int)) (putK kvs (Sum.inl (j:Int)) (.int (((cA.getD j 0:Nat):Int)+1))) (wR (cA.modify j λn=>n+1)):=by
 have h:=hD.put (t:=j) (v:=.int (((cA.getD j 0:Nat):Int)+1)) (b:=cA.getD j 0+1) (by push_cast;rfl)
 have e:CO (wR cA) j (cA.getD j 0+1)=wR (cA.modify j λn=>n+1):=by
  unfold CO wR
  rw [if_pos (by rw [V1,Ws];exact ⟨j,U8.mpr hj,by simp⟩),VG,List.length_modify]
  refine VR λi hi=>?_
  have hi:=U8.mp hi
  show (if i=j then (i,cA.getD j 0+1) else (i,cA.getD i 0))=(i,(cA.modify j λn=>n+1).getD i 0)
  rw [VE,VE,VE,List.getElem?_modify]
  by_cases c:i=j
  ·subst c
   rw [if_pos rfl,Vo hi]
   simp
  ·rw [if_neg c]
   have:¬ j=i:=λz=>c z.symm
   simp [this]
 rw [e] at h
 exact h
theorem Iq (x y m n:Nat) (h:x≠y):putK (wW x y m n) (Sum.inl (x:Int)) (.int ((m:Int)+1))=wW x y (m+1) n:=by
 unfold putK wW
 have e:¬ ((y:Int)=(x:Int)):=by omega
 simp [e]
theorem JL (x y m n:Nat) (h:x≠y):putK (wW x y m n) (Sum.inl (y:Int)) (.int ((n:Int)+1))=wW x y m (n+1):=by
 unfold putK wW
 have e:¬ ((x:Int)=(y:Int)):=by omega
 simp [e]
def o6 (A:Ux) (n j:Nat):Nat:=if n=0 then A.saidTo.getD j 0 else if (aN A (n - 1)).x=j then (aN A (n - 1)).saidX else (aN A (n - 1)).saidY
def rQ (A:Ux) (n:Nat):Nat:=if n=0 then A.turns else (aN A (n - 1)).asked
def M4 (A:Ux) (n j:Nat):Ux:=if n=0 then Tj A (A.saidTo.modify j λn=>n+1) A.lost else bD A (n - 1) (if (aN A (n - 1)).x=j then { aN A (n - 1) with saidX:=(aN A (n - 1)).saidX+1 } else { aN A (n - 1) with saidY:=(aN A (n - 1)).saidY+1 })
section
variable {P:Program} {w:World} {K:Uy} {mg:Str->Option Value} {base:Heap} {a:bI} {bad:List Addr} {H H':Hp} {L:Lay} {A:Ux}
theorem Nn (T:Txt K mg a) (F:aJ a bad H L A) (hxy:XY A) {n j:Nat} (hh:A.hosts.length<=6) (hj:j < A.hosts.length) (hn:n<=A.disputes.length) (hp:n≠0->Vd (aN A (n - 1)) j=true) :
  ∃ (p C dd ask:Addr) (fs:List (Str × V)) (kvs:List (Key × V)) (r:Role),(if n=0 then L.ad .op else L.ad (.aH (n - 1)))=p/\Lv A r/\p=L.ad r/\H p=some (.ins C dd fs)/\Fs K C/\bg K C "asked"/\bg K C "turn_asked"/\fs.lookup (Str.ofString "asked")=some (.ref ask)/\fs.lookup (Str.ofString "turn_asked")=some (.int ((rQ A n:Nat):Int)) /\
   H ask=some (.dK kvs)/\kvs.length<=1000/\k6 kvs (Sum.inl (j:Int))=some (.int ((o6 A n j:Nat):Int))/\p≠ask /\
   ∃ L1,Step H L A (upd H ask (.dK (putK kvs (Sum.inl (j:Int)) (.int (((o6 A n j:Nat):Int)+1))))) L1 (M4 A n j)/\aJ a bad (upd H ask (.dK (putK kvs (Sum.inl (j:Int)) (.int (((o6 A n j:Nat):Int)+1))))) L1 (M4 A n j):=by
 by_cases n0:n=0
 ·subst n0
  obtain ⟨⟨dop,gop⟩,hot,kvs,hoa,hD⟩:=F.op
  have hjs:j < A.saidTo.length:=by rw [F.FL];exact hj
  have ne:L.ad .op≠L.ad .oa:=aV gop hoa (by intro z;cases z)
  have hl:kvs.length=A.saidTo.length:=by rw [hD.len];unfold wR;rw [UA,Vi]
  have hsto:=F.FL
  have kp:∀ o,Keeps [L.ad .op,L.ad .oa] H (upd H (L.ad .oa) o):=λo=>Keeps.upd (by simp)
  refine ⟨L.ad .op,a.bH,dop,L.ad .oa,_,kvs,.op,rfl,trivial,rfl,gop,T.eG,T.qG,T.lh,rfl,rfl,hoa,by omega,JJ hD hjs,ne,L,Step.setOp (kp _),F.setOp (kp _) (List.length_modify ..) ⟨⟨dop,by rw [ak ne];exact gop⟩,?_,_,ae,N0 hD hjs⟩⟩
  rw [ak (aV hot hoa (by intro z;cases z)),List.length_modify]
  exact hot
 ·have hm:n - 1 < A.disputes.length:=by omega
  have D:=F.aH (n - 1) _ (ba hm)
  obtain ⟨dd,gd⟩:=D.ins
  obtain ⟨xl,yl,xy⟩:=hxy _ (Vf (ba hm))
  have ne:L.ad (.aH (n - 1))≠L.ad (.bM (n - 1)):=aV gd D.ask (by intro z;cases z)
  have kp:∀ o,Keeps [L.ad (.aH (n - 1)),L.ad (.bM (n - 1))] H (upd H (L.ad (.bM (n - 1))) o):=λo=>Keeps.upd (by simp)
  have ko:∀ o b u,H b=some u->(∀ kv,u≠.dK kv)->upd H (L.ad (.bM (n - 1))) o b=some u:=λo b u e q=>by
   rw [ak (aV e D.ask (λz=>q _ z))]
   exact e
  have fin:∀ (e:UC) (o:HO),e.x=(aN A (n - 1)).x->e.y=(aN A (n - 1)).y->e.lo=(aN A (n - 1)).lo->e.agreed=(aN A (n - 1)).agreed->e.hi=(aN A (n - 1)).hi->e.asked=(aN A (n - 1)).asked->e.questions=(aN A (n - 1)).questions->e.lost=(aN A (n - 1)).lost->e.verdict=(aN A (n - 1)).verdict->o=.dK (wW e.x e.y e.saidX e.saidY) ->
    ∃ L1,Step H L A (upd H (L.ad (.bM (n - 1))) o) L1 (bD A (n - 1) e)/\aJ a bad (upd H (L.ad (.bM (n - 1))) o) L1 (bD A (n - 1) e):=λe o e1 e2 e3 e4 e5 e6 e7 e8 e9 eo=>by
   refine ⟨L.rm (n - 1) (L.ad (.bM (n - 1))) (L.dt (n - 1)) (L.da (n - 1)) (L.de (n - 1)),Step.rm (ba hm) (kp _) (.inl rfl),F.rm (ba hm) (kp _) (.inl rfl) ⟨⟨dd,?_⟩,?_,?_,?_,?_⟩⟩
   ·rw [e3,e5,e6,e7,e8];exact ko _ _ _ gd (by intro kv z;cases z)
   ·rw [e1,e2]
    obtain ⟨ob,q1,q2⟩:=D.hosts
    exact ⟨ob,ko _ _ _ q1 (by intro kv z;cases z),q2⟩
   ·rw [e4];exact ko _ _ _ D.FF (by intro kv z;cases z)
   ·rw [ae,eo]
   ·rw [e9];exact ko _ _ _ D.fin (by intro kv z;cases z)
  have hp:=hp n0
  refine ⟨L.ad (.aH (n - 1)),a.ay,dd,L.ad (.bM (n - 1)),_,_,.aH (n - 1),by rw [if_neg n0],hm,rfl,gd,T.aA,T.jy,T.bC,rfl,?_,D.ask,by show 2<=1000;decide,?_,ne,?_⟩
  ·unfold rQ;rw [if_neg n0];rfl
  ·unfold o6
   rw [if_neg n0]
   by_cases c:(aN A (n - 1)).x=j
   ·rw [if_pos c,<- c];exact Lp _ _ _ _
   ·have cy:(aN A (n - 1)).y=j:=by
     unfold Vd at hp
     rw [Wc,beq_iff_eq,beq_iff_eq] at hp
     rcases hp with q | q
     ·exact absurd q c
     ·exact q
    rw [if_neg c,<- cy];exact KU xy _ _
  ·unfold M4 o6
   rw [if_neg n0,if_neg n0]
   by_cases c:(aN A (n - 1)).x=j
   ·rw [if_pos c,if_pos c]
    refine fin _ _ rfl rfl rfl rfl rfl rfl rfl rfl rfl ?_
    rw [<- c,Iq _ _ _ _ xy]
   ·have cy:(aN A (n - 1)).y=j:=by
     unfold Vd at hp
     rw [Wc,beq_iff_eq,beq_iff_eq] at hp
     rcases hp with q | q
     ·exact absurd q c
     ·exact q
    rw [if_neg c,if_neg c]
    refine fin _ _ rfl rfl rfl rfl rfl rfl rfl rfl rfl ?_
    rw [<- cy,JL _ _ _ _ xy]
theorem Jq {h:UG} {N:Nat} {z i:Int} (eA:h.affair=some A) (oA:vT A N):(C9 A z i≠0->UH h (.say z i)=UO h (C9 A z i))/\(C9 A z i=0->∃ n j:Nat,z=(n:Int)/\i=(j:Int)/\j < A.hosts.length/\n<=A.disputes.length/\(n≠0->Vd (aN A (n - 1)) j=true)/\UH h (.say z i)=Wh h (M4 A n j) n j (rQ A n)):=by
 have e:=Rr h z i
 obtain ⟨r1,r2⟩:=Ql (h:=h) (A:=A) (z:=z) (i:=i) (X:=λa i=>Wh h { a with saidTo:=a.saidTo.modify i λn=>n+1 } 0 i a.turns) (Y:=λa i e=>Wh h (Vw a (if e.x=i then { e with saidX:=e.saidX+1 } else { e with saidY:=e.saidY+1 })) e.no i e.asked) eA oA.num
 refine ⟨λq=>e.trans (r1 q),λq=>?_⟩
 obtain ⟨j,rfl,hj,_,_,c⟩:=r2 q
 rcases c with ⟨rfl,_,es⟩ | ⟨m,rfl,hm,_,hp,_,es⟩
 ·exact ⟨0,j,rfl,rfl,hj,U9 _,λz=>absurd rfl z,e.trans es⟩
 ·refine ⟨m+1,j,rfl,rfl,hj,hm,λ_=>hp,(e.trans es).trans ?_⟩
  have en:=oA.num.at hm
  have eT:rQ A (m+1)=(aN A m).asked:=by unfold rQ;rw [if_neg (by omega)];rfl
  have eB:M4 A (m+1) j=Vw A (if (aN A m).x=j then { aN A m with saidX:=(aN A m).saidX+1 } else { aN A m with saidY:=(aN A m).saidY+1 }):=by
   unfold M4
   rw [if_neg (by omega),Nat.add_sub_cancel]
   refine (fw oA.num (j:=m) ?_).symm
   by_cases c:(aN A m).x=j
   ·rw [if_pos c];exact en
   ·rw [if_neg c];exact en
  rw [eT,eB]
  exact congrArg (λq=>Wh h (Vw A (if (aN A m).x=j then { aN A m with saidX:=(aN A m).saidX+1 } else { aN A m with saidY:=(aN A m).saidY+1 })) q j (aN A m).asked) en
abbrev Cy (K:Uy) (a:bI):Sp:=fA K a (λxs rs c=>∃ z i,xs=[z,i]/\c=.say z i) vQ
theorem IH (T:Txt K mg a):a8 P w K mg base eS 3 a.mD a.o9 ["bench","numbers","rows"] (Cy K a):=by
 refine T.wM.ok m4 ?_ ?_
 ·rintro _ _ _ _ ⟨_,_,_,_,_,_,_,_,_,_,_,_,_,rfl,_⟩
  rfl
 ·rintro cdv A outer s H _ Q E hr ⟨bad,be,nm,rw,ln,wd,L,h,N,xs,ps,rs,c,rfl,G,⟨z,i,rfl,rfl⟩,⟨A,eA⟩,k⟩
  refine ⟨_,(ah (aP (i:=3) m4.nd rfl (Or.inl rfl) (aM (aB (K:=K)) (pv 1) ax (λ_ _=>rfl)))
   (ah (aP (i:=4) m4.nd rfl (Or.inl rfl) (aM (aB (K:=K)) (pv 1) ax (λ_ _=>rfl)))
   (ah (aP (i:=5) m4.nd rfl (Or.inl rfl) (bE (rb T) hr.lo rfl T.jc T.fP.kp T.i5 .nil aG (aa (ai (K:=K) (pv 0) rfl) (aa (pv 3) (aa (pv 4) aj)))))
   (ah (bj (a9 D6 (pv 5) ax (bo _)) (ao (aE (aT (aa (pv 5) aj)))) aQ)
   (ah (bj (bJ (b7 (ai (K:=K) (pv 0) rfl) T.bO T.nk (wO T) hr.lo T.oK .nil aG)) (ao (aE (aT (aa (aO (by rfl) T.xN) aj)))) aQ)
   (ah (aP (i:=6) m4.nd rfl (Or.inl rfl) (aK (ai (K:=K) (pv 0) rfl) T.au T.bG (bW T) hr.lo T.bF .nil aG (aa (pv 3) aj)))
   (ah (Pa (md hr) (ai (K:=K) (pv 6) rfl) (pv 4) ax uQ (λ_ _ _=>rfl))
   (ah (aP (i:=7) m4.nd rfl (Or.inl rfl) (aK (ai (K:=K) (pv 0) rfl) T.bO T.sC (yy T) hr.lo T.sG .nil aG (aa (rl T.ET (vW T) hr.lo rfl T.uU T.qj .nil aG (aa (pv 3) (aa (pv 4) (aa (ai (K:=K) (pv 6) rfl) (aa ib aj))))) aj)))
   (ao (aE (aT (aa (pv 7) (aa (ai (K:=K) (pv 6) rfl) aj))))))))))))),?_⟩
  have hz:=sizeLine_eq
  have hN:=G.n
  obtain ⟨dx,hbe⟩:=G.Jd eA
  obtain ⟨⟨dl,hln⟩,_⟩:=id G.at_.line
  have F:=G.at_.j5 A eA
  have oA:=G.ok.j5 A eA
  obtain ⟨da,g1⟩:=F.af
  obtain ⟨r1,r2⟩:=Jq (z:=z) (i:=i) eA oA
  refine ⟨_,rfl,nm,_,0,_,rfl,rfl,bf.of G.nums,at_of (j:=0) rfl rfl,?_⟩
  refine ⟨_,rfl,nm,_,1,_,rfl,rfl,bf.of G.nums,at_of (j:=1) rfl rfl,?_⟩
  refine ⟨_,rfl,be,a.aL,dx,_,_,rfl,hbe,T.aR,T.aI,rfl,_,rfl,_,rfl,bad,L,A,z,i,rfl,F,oA.good.base.once,λH0 s0=>?_⟩
  refine ⟨_,rfl,rfl,_,rfl,?_⟩
  refine Fc (λe=>?_) λe=>?_
  ·exact ⟨_,rfl,nz,λc' hc=>k _ _ _ _ c' (G.refuse s0 hc (r1 e))⟩
  ·obtain ⟨n,j,rfl,rfl,hj,hn,hp,es⟩:=r2 e
   have B0:=G.at_.same s0
   refine ⟨_,rfl,be,a.aL,dx,_,_,rfl,s0 _ _ hbe,T.aR,T.aX,rfl,ln,dl,_,rfl,s0 _ _ hln,rfl,ln,wd,h.line,h.next,h.came,h.gone,rfl,B0.line,_,rfl,?_⟩
   unfold Wh at es
   by_cases cf:60<=h.line.length
   ·rw [decide_eq_true cf]
    rw [if_pos (show Vbapaj.LINE<=h.line.length from cf)] at es
    exact bc ⟨nz,λc' hc=>k _ _ _ _ c' (G.refuse s0 hc es)⟩
   ·rw [decide_eq_false cf]
    rw [if_neg (show ¬ Vbapaj.LINE<=h.line.length from cf)] at es
    have F0:=F.same s0
    obtain ⟨p,C,dd,ask,fs,kvs,r,hpe,hr0,hpr,gp,tC,n1,n2,l1,l2,hask,hkl,hv,pne,L1,S1,F1⟩:=Nn (n:=n) (j:=j) T F0 oA.good.xy oA.h2 hj hn hp
    refine bu ⟨_,rfl,be,a.aL,dx,_,_,rfl,s0 _ _ hbe,T.aR,T.aI,rfl,L.ad .af,da,_,rfl,s0 _ _ g1,rfl,_,rfl,bad,L,A,n,rfl,F0,hn,?_⟩
    rw [hpe]
    refine ⟨_,rfl,p,C,dd,_,_,rfl,gp,tC,n1,l1,_,rfl,ask,_,rfl,(by have:=mw.k (k:=Sum.inl (j:Int)) hask;rw [hv] at this;exact this),_,_,rfl,rfl,_,Hz.k (k:=Sum.inl (j:Int)) hask (by omega),?_⟩
    have B1:=B0.yV eA S1 F1
    have gp1:upd H0 ask (.dK (putK kvs (Sum.inl (j:Int)) (.int (((o6 A n j:Nat):Int)+1)))) p=some (.ins C dd fs):=by rw [ak pne];exact gp
    generalize hH1:upd H0 ask (.dK (putK kvs (Sum.inl (j:Int)) (.int (((o6 A n j:Nat):Int)+1))))=H1 at S1 F1 B1 gp1 ⊢
    obtain ⟨db1,hb1⟩:=B1.ins
    obtain ⟨⟨dl1,hln1⟩,_⟩:=id B1.line
    refine ⟨_,rfl,be,a.aL,db1,_,_,rfl,hb1,T.aR,T.aX,rfl,ln,dl1,_,rfl,hln1,rfl,_,rfl,_,rfl,_,rfl,p,C,dd,_,_,rfl,gp1,tC,n2,l2,λx xd nx nxd nex=>⟨x,xd,n,j,rQ A n,.dH,rfl,ae,λH2 kp2 hx2=>⟨rfl,?_⟩⟩⟩
    have s2:az H1 H2:=az.made nx nxd λb o e q=>kp2 b o e λm=>q (UE.mp m)
    have B2:=B1.same s2
    have hll:=G.ok.ln
    refine ⟨ln,wd,x,h.line,h.next,h.came,h.gone,{ id:=h.next,dispute:=n,host:=j,turn:=rQ A n,answer:=none },rfl,B2.line,⟨xd,.dH,hx2,rfl⟩,rfl,λy hy=>U7 (G.ok.ids y hy),by omega,λH3 kp3 Ln3=>?_⟩
    have B3:=B2.N4 kp3 Ln3
    have off:∀ b,b≠ln->b≠wd->¬ b∈[ln,wd]:=λb h1 h2 m=>by
     rcases UL.mp m with z | m
     ·exact h1 z
     ·exact h2 (UE.mp m)
    have gp3:H3 p=some (.ins C dd fs):=kp3 _ _ (s2 _ _ gp1) (off _ (by rw [hpr];exact (G.at_.Ou eA hr0).2.symm) (by rw [hpr];exact (G.at_.Qe A r eA hr0).symm))
    refine ⟨_,rfl,_,rfl,p,C,dd,_,_,rfl,gp3,tC,n2,l2,Ob,λc' hc=>?_⟩
    refine k _ ln wd L1 c' ⟨?_,λb o e nO=>?_,B3.fresh hc,?_⟩
    ·rw [es];exact B3.same (az.laid hc)
    ·exact az.laid hc _ _ (kp3 _ _ (s2 _ _ (S1.keep _ _ (s0 _ _ e) λr hr z=>nO (.inr (.inr (.inr ⟨A,r,eA,hr,z⟩))))) (off _ (λz=>nO (.inr (.inl z))) λz=>nO (.inr (.inr (.inl z)))))
    ·rw [es];exact ae
end
theorem DK {ln wd b:Addr} (h1:b≠ln) (h2:b≠wd):¬ b∈[ln,wd]:=λm=>by
 rcases UL.mp m with z | m
 ·exact h1 z
 ·exact h2 (UE.mp m)
theorem aJ.Nh {a:bI} {bad:List Addr} {H:Hp} {L:Lay} {A:Ux} (F:aJ a bad H L A) {p:Addr} {z:Int} {xs:List V} (h:H p=some (.lst (.int z::xs))) {r:Role} (hr:Lv A r):p≠L.ad r:=λe=>by
 rcases F.kind hr with ⟨_,_,g,_,_,h4,hg⟩ | ⟨_,h4⟩ | ⟨⟨ys,h4⟩,rfl | rfl⟩
 ·rw [e,h4] at h;cases h
 ·rw [e,h4] at h;cases h
 ·have q:=F.run.EY
  rw [<- e,h] at q
  cases t:L.ts with
  | nil=>rw [t] at q;cases q
  | cons u us=>rw [t] at q;cases q
 ·have q:=F.dl
  rw [<- e,h] at q
  cases t:List.range A.disputes.length with
  | nil=>rw [t] at q;cases q
  | cons u us=>rw [t] at q;cases q
section
variable {P:Program} {w:World} {K:Uy} {mg:Str->Option Value} {base:Heap} {a:bI}
abbrev yj (K:Uy) (a:bI):Sp:=fA K a (λxs rs c=>∃ z,xs=[z]/\c=.double z) Any
theorem EA (T:Txt K mg a):a8 P w K mg base eS 3 a.gT a.jI ["bench","numbers","rows"] (yj K a):=by
 refine T.p3.ok ym ?_ ?_
 ·rintro _ _ _ _ ⟨_,_,_,_,_,_,_,_,_,_,_,_,_,rfl,_⟩
  rfl
 ·rintro cdv A outer s H _ Q E hr ⟨bad,be,nm,rw,ln,wd,L,h,N,xs,ps,rs,c,rfl,G,⟨z,rfl,rfl⟩,_,k⟩
  refine ⟨_,(ah (bj (D5 (zc (md hr) (aM (aB (K:=K)) (pv 1) ax (λ_ _=>rfl)) (ai (K:=K) (ai (K:=K) (pv 0) rfl) rfl))) (ao (aE (aT (aa (aO (by rfl) T.lu) aj)))) aQ)
   (ah (bj (bJ (b7 (ai (K:=K) (pv 0) rfl) T.bO T.nk (wO T) hr.lo T.oK .nil aG)) (ao (aE (aT (aa (aO (by rfl) T.xN) aj)))) aQ)
   (ah (aP (i:=3) ym.nd rfl (Or.inl rfl) (tP (md hr) (ai (K:=K) (ai (K:=K) (pv 0) rfl) rfl) (aM (aB (K:=K)) (pv 1) ax (λ_ _=>rfl)) (λ_ _=>rfl)))
   (ao (aE (aT (aa (aK (ai (K:=K) (pv 0) rfl) T.bO T.sC (yy T) hr.lo T.sG .nil aG (aa (rl T.ET (vW T) hr.lo rfl T.uU T.qj .nil aG (aa (ai (K:=K) (pv 3) rfl) (aa (ai (K:=K) (pv 3) rfl) (aa (ai (K:=K) (pv 3) rfl) (aa (ai (K:=K) (pv 3) rfl) aj))))) aj)) aj))))))),?_⟩
  have hN:=G.n
  obtain ⟨dx,hbe⟩:=G.at_.ins
  obtain ⟨⟨dl,hln⟩,kvs,hwd,hD⟩:=id G.at_.line
  refine ⟨_,rfl,nm,_,0,_,rfl,rfl,bf.of G.nums,at_of (j:=0) rfl rfl,_,rfl,be,a.aL,dx,_,_,rfl,hbe,T.aR,T.aX,rfl,ln,a.bh,dl,_,_,rfl,hln,T.bO,T.bp,rfl,wd,_,rfl,mw.k (k:=Sum.inl z) hwd,_,rfl,?_⟩
  have es:=Mv h z
  rcases AQ hD z with ⟨e1,e2⟩ | ⟨x,q,e1,e2,hq,ez,_,hx⟩
  ·rw [e1] at es
   rw [e2]
   exact bc ⟨nz,λc hc=>k _ _ _ _ c (G.refuse (az.refl H) hc es)⟩
  ·rw [e1] at es
   have es:UH h (.double z)=if Vbapaj.LINE<=h.line.length then UO h (-5) else ({ h with line:=h.line++[{ x with id:=h.next }],next:=h.next+1 },{ value:=(h.next:Int) }):=es
   rw [e2]
   refine bu ⟨_,rfl,be,a.aL,dx,_,_,rfl,hbe,T.aR,T.aX,rfl,ln,dl,_,rfl,hln,rfl,ln,wd,h.line,h.next,h.came,h.gone,rfl,G.at_.line,_,rfl,?_⟩
   by_cases cf:60<=h.line.length
   ·rw [decide_eq_true cf]
    rw [if_pos (show Vbapaj.LINE<=h.line.length from cf)] at es
    exact bc ⟨nz,λc' hc=>k _ _ _ _ c' (G.refuse (az.refl H) hc es)⟩
   ·rw [decide_eq_false cf]
    rw [if_neg (show ¬ Vbapaj.LINE<=h.line.length from cf)] at es
    obtain ⟨dq,sv,hq1,hq2⟩:=hq
    refine bu ⟨_,rfl,be,a.aL,dx,_,_,rfl,hbe,T.aR,T.aX,rfl,ln,a.bh,dl,_,_,rfl,hln,T.bO,T.bp,rfl,_,rfl,nm,_,0,_,rfl,rfl,bf.of G.nums,at_of (j:=0) rfl rfl,wd,_,rfl,(by have:=mw.k (k:=Sum.inl z) hwd;rw [e2] at this;exact this),?_⟩
    refine ⟨_,rfl,be,a.aL,dx,_,_,rfl,hbe,T.aR,T.aX,rfl,ln,dl,_,rfl,hln,rfl,_,rfl,q,a.bK,dq,_,_,rfl,hq1,T.dD,T.iY,rfl,_,rfl,q,a.bK,dq,_,_,rfl,hq1,T.dD,T.kZ,rfl,_,rfl,q,a.bK,dq,_,_,rfl,hq1,T.dD,T.kh,rfl,_,rfl,q,a.bK,dq,_,_,rfl,hq1,T.dD,T.lz,rfl,λy yd ny nyd nye=>⟨y,yd,x.dispute,x.host,x.turn,sv,rfl,ae,λH2 kp2 hy2=>⟨rfl,?_⟩⟩⟩
    have s2:az H H2:=az.made ny nyd λb o e q=>kp2 b o e λm=>q (UE.mp m)
    have B2:=G.at_.same s2
    have hll:=G.ok.ln
    refine ⟨ln,wd,y,h.line,h.next,h.came,h.gone,{ x with id:=h.next },rfl,B2.line,⟨yd,sv,hy2,hq2.qr λb xs e=>s2 _ _ e⟩,rfl,λy hy=>U7 (G.ok.ids y hy),by omega,λH3 kp3 Ln3=>⟨nz,λc' hc=>?_⟩⟩
    have B3:=B2.N4 kp3 Ln3
    refine k _ ln wd L c' ⟨?_,λb o e nO=>?_,B3.fresh hc,?_⟩
    ·rw [es];exact B3.same (az.laid hc)
    ·exact az.laid hc _ _ (kp3 _ _ (s2 _ _ e) (DK (λz=>nO (.inr (.inl z))) λz=>nO (.inr (.inr (.inl z)))))
    ·rw [es];exact ae
def Mr (h:UG) (A:Ux) (z i:Int):Int :=
 if C9 A z i≠0 then C9 A z i
 else if o6 A z.toNat i.toNat<=A.mayLose then -8
 else if h.line.any (oB z.toNat i.toNat (rQ A z.toNat))=true then -9 else 0
theorem LX {h:UG} {A:Ux} {N:Nat} {z i:Int} (eA:h.affair=some A) (oA:vT A N):(Mr h A z i≠0->UH h (.hush z i)=UO h (Mr h A z i))/\(Mr h A z i=0->∃ n j:Nat,z=(n:Int)/\i=(j:Int)/\j < A.hosts.length/\n<=A.disputes.length/\(Uz A j).out=false/\(n≠0->Vd (aN A (n - 1)) j=true)/\UH h (.hush z i)=(V5 h (oz A n j),{ value:=(j:Int) })):=by
 have e:=Pq h z i
 obtain ⟨r1,r2⟩:=Ql (h:=h) (A:=A) (z:=z) (i:=i) (X:=λa i=>if a.saidTo.getD i 0<=a.mayLose then UO h (-8) else if Vbapaj.underWay h 0 i a.turns=true then UO h (-9) else (V5 h (U6 (Vc a i none)),{ value:=(i:Int) }))
  (Y:=λa i e=>if (if e.x=i then e.saidX else e.saidY)<=a.mayLose then UO h (-8) else if Vbapaj.underWay h e.no i e.asked=true then UO h (-9) else (V5 h (Vr (Vw a { e with verdict:=some (.silent i) }) { e with verdict:=some (.silent i) }),{ value:=(i:Int) })) eA oA.num
 unfold Mr
 by_cases q:C9 A z i=0
 ·rw [if_neg (λw=>w q)]
  obtain ⟨j,rfl,hj,ho,_,c⟩:=r2 q
  rcases c with ⟨rfl,_,es⟩ | ⟨m,rfl,hm,_,hp,_,es⟩
  ·have es:=e.trans es
   show (_->_)/\_
   have a0:o6 A (0:Int).toNat (j:Int).toNat=A.saidTo.getD j 0:=rfl
   have t0:rQ A (0:Int).toNat=A.turns:=rfl
   rw [a0,t0]
   by_cases c1:A.saidTo.getD j 0<=A.mayLose
   ·rw [if_pos c1] at es ⊢
    exact ⟨λ_=>es,λz=>absurd z (by decide)⟩
   ·rw [if_neg c1] at es ⊢
    by_cases c2:Vbapaj.underWay h 0 j A.turns=true
    ·rw [if_pos c2] at es
     rw [if_pos (show h.line.any (oB (0:Int).toNat (j:Int).toNat A.turns)=true from c2)]
     exact ⟨λ_=>es,λz=>absurd z (by decide)⟩
    ·rw [if_neg c2] at es
     rw [if_neg (show ¬ h.line.any (oB (0:Int).toNat (j:Int).toNat A.turns)=true from c2)]
     exact ⟨λz=>absurd rfl z,λ_=>⟨0,j,rfl,rfl,hj,U9 _,ho,λz=>absurd rfl z,es⟩⟩
  ·have es:=e.trans es
   have en:=oA.num.at hm
   have a0:o6 A ((m+1:Nat):Int).toNat (j:Int).toNat=if (aN A m).x=j then (aN A m).saidX else (aN A m).saidY:=by
    show o6 A (m+1) j=_
    unfold o6
    rw [if_neg (by omega),Nat.add_sub_cancel]
   have t0:rQ A ((m+1:Nat):Int).toNat=(aN A m).asked:=by
    show rQ A (m+1)=_
    unfold rQ
    rw [if_neg (by omega),Nat.add_sub_cancel]
   rw [a0,t0]
   by_cases c1:(if (aN A m).x=j then (aN A m).saidX else (aN A m).saidY)<=A.mayLose
   ·rw [if_pos c1] at es ⊢
    exact ⟨λ_=>es,λz=>absurd z (by decide)⟩
   ·rw [if_neg c1] at es ⊢
    by_cases c2:Vbapaj.underWay h (aN A m).no j (aN A m).asked=true
    ·rw [if_pos c2] at es
     rw [en] at c2
     rw [if_pos (show h.line.any (oB ((m+1:Nat):Int).toNat (j:Int).toNat (aN A m).asked)=true from c2)]
     exact ⟨λ_=>es,λz=>absurd z (by decide)⟩
    ·rw [if_neg c2] at es
     rw [en] at c2
     rw [if_neg (show ¬ h.line.any (oB ((m+1:Nat):Int).toNat (j:Int).toNat (aN A m).asked)=true from c2)]
     refine ⟨λz=>absurd rfl z,λ_=>⟨m+1,j,rfl,rfl,hj,hm,ho,λ_=>hp,es.trans ?_⟩⟩
     rw [GB oA.num hm]
 ·rw [if_pos q]
  exact ⟨λ_=>e.trans (r1 q),λw=>absurd w q⟩
def C0 (K:Uy) (a:bI):Sp:=λvs H Q _=>∃ (bad:List Addr) (be ln wd:Addr) (L:Lay) (h:UG) (N:Nat) (A:Ux) (z i:Int),vs=[.ref be,.int z,.int i]/\bq a bad H be ln wd L h/\oS h N/\N<=400/\h.affair=some A/\∀ H',az H H'->Q (.int (Mr h A z i)) H'
theorem Dz (T:Txt K mg a):a8 P w K mg base eS 3 a.kn a.kz ["bench","number","host"] (C0 K a):=by
 refine T.nP.ok qT ?_ ?_
 ·rintro _ _ _ _ ⟨_,_,_,_,_,_,_,_,_,_,rfl,_⟩
  rfl
 ·rintro cdv A outer s H _ Q E hr ⟨bad,be,ln,wd,L,h,N,A,z,i,rfl,B,oH,hN,eA,k⟩
  refine ⟨_,(ah (aP (i:=3) qT.nd rfl (Or.inl rfl) (bE (rb T) hr.lo rfl T.jc T.fP.kp T.i5 .nil aG (aa (ai (K:=K) (pv 0) rfl) (aa (pv 1) (aa (pv 2) aj)))))
   (ah (bj (a9 D6 (pv 3) ax (bo _)) (ao (aE (pv 3))) aQ)
   (ah (aP (i:=4) qT.nd rfl (Or.inl rfl) (aK (ai (K:=K) (pv 0) rfl) T.au T.bG (bW T) hr.lo T.bF .nil aG (aa (pv 1) aj)))
   (ah (bj (a9 ku (tP (md hr) (ai (K:=K) (pv 4) rfl) (pv 2) (λ_ _=>rfl)) (ai (K:=K) (ai (K:=K) (pv 0) rfl) rfl) (bo _)) (ao (aE (aO (by rfl) T.Ac))) aQ)
   (ao (aE (ox (bJ (aK (ai (K:=K) (pv 0) rfl) T.bO T.jN (wJ T) hr.lo T.jP .nil aG (aa (pv 1) (aa (pv 2) (aa (ai (K:=K) (pv 4) rfl) aj))))) (aO (by rfl) T.C4) ax))))))),?_⟩
  have F:=B.j5 A eA
  have oA:=oH.j5 A eA
  obtain ⟨dx,hbe⟩:=B.ins
  unfold AB at hbe
  rw [eA] at hbe
  have hbe:H be=some (.ins a.aL dx (zX ln (.ref (L.ad .af)))):=hbe
  obtain ⟨⟨dl,hln⟩,_⟩:=id B.line
  obtain ⟨da,g1⟩:=F.af
  obtain ⟨_,r2⟩:=Jq (h:=h) (z:=z) (i:=i) eA oA
  unfold Mr at k
  refine ⟨_,rfl,be,a.aL,dx,_,_,rfl,hbe,T.aR,T.aI,rfl,_,rfl,_,rfl,bad,L,A,z,i,rfl,F,oA.good.base.once,λH0 s0=>?_⟩
  refine ⟨_,rfl,rfl,_,rfl,?_⟩
  refine Fc (λe=>?_) λe=>?_
  ·have:=k H0 s0
   rw [if_pos e] at this
   exact ⟨_,rfl,this⟩
  ·obtain ⟨n,j,rfl,rfl,hj,hn,hp,_⟩:=r2 e
   have F0:=F.same s0
   obtain ⟨p,C,dd,ask,fs,kvs,r,hpe,hr0,hpr,gp,tC,n1,n2,l1,l2,hask,hkl,hv,pne,_⟩:=Nn (n:=n) (j:=j) T F0 oA.good.xy oA.h2 hj hn hp
   have k2:∀ H',az H H'->Q (.int (if o6 A n j<=A.mayLose then -8 else if h.line.any (oB n j (rQ A n))=true then -9 else 0)) H':=λH' s'=>by
    have:=k H' s'
    rw [if_neg (λw=>w e)] at this
    exact this
   clear k
   refine ⟨_,rfl,be,a.aL,dx,_,_,rfl,s0 _ _ hbe,T.aR,T.aI,rfl,L.ad .af,da,_,rfl,s0 _ _ g1,rfl,_,rfl,bad,L,A,n,rfl,F0,hn,?_⟩
   rw [hpe]
   refine ⟨_,rfl,p,C,dd,_,_,rfl,gp,tC,n1,l1,_,rfl,ask,_,rfl,(by have:=mw.k (k:=Sum.inl (j:Int)) hask;rw [hv] at this;exact this),_,rfl,be,a.aL,dx,_,_,rfl,s0 _ _ hbe,T.aR,T.aI,rfl,L.ad .af,a.aw,da,_,_,rfl,s0 _ _ g1,T.au,T.eK,rfl,_,_,rfl,rfl,_,rfl,?_⟩
   refine OM (λc=>?_) λc=>?_
   ·have:=k2 H0 s0
    rw [if_pos (by omega)] at this
    exact this
   ·have hll:=oH.ln
    refine ⟨_,rfl,be,a.aL,dx,_,_,rfl,s0 _ _ hbe,T.aR,T.aX,rfl,ln,dl,_,rfl,s0 _ _ hln,rfl,_,rfl,_,rfl,_,rfl,p,C,dd,_,_,rfl,gp,tC,n2,l2,ln,wd,h.line,h.next,h.came,h.gone,n,j,rQ A n,rfl,(B.same s0).line,by omega,λH1 s1=>⟨_,rfl,?_⟩⟩
    have:=k2 H1 (s0.trans s1)
    rw [if_neg (by omega)] at this
    cases c2:h.line.any (oB n j (rQ A n)) with
    | true=>rw [if_pos c2] at this;exact bc this
    | false=>rw [if_neg (by rw [c2];decide)] at this;exact bu this
abbrev AE (K:Uy) (a:bI):Sp:=fA K a (λxs rs c=>∃ z i,xs=[z,i]/\c=.hush z i) vQ
theorem Hh (T:Txt K mg a):a8 P w K mg base eS 6 a.j6 a.mR ["bench","numbers","rows"] (AE K a):=by
 refine T.tX.ok Bd ?_ ?_
 ·rintro _ _ _ _ ⟨_,_,_,_,_,_,_,_,_,_,_,_,_,rfl,_⟩
  rfl
 ·rintro cdv A outer s H _ Q E hr ⟨bad,be,nm,rw,ln,wd,L,h,N,xs,ps,rs,c,rfl,G,⟨z,i,rfl,rfl⟩,⟨A,eA⟩,k⟩
  refine ⟨_,(ah (aP (i:=3) Bd.nd rfl (Or.inl rfl) (bE (Dz T) hr.lo rfl T.sL T.nP.kp T.sg .nil aG (aa (pv 0) (aa (aM (aB (K:=K)) (pv 1) ax (λ_ _=>rfl)) (aa (aM (aB (K:=K)) (pv 1) ax (λ_ _=>rfl)) aj)))))
   (ah (bj (a9 D6 (pv 3) ax (bo _)) (ao (aE (aT (aa (pv 3) aj)))) aQ)
   (ah (bU (aK (ai (K:=K) (pv 0) rfl) T.au T.iR (uE T) hr.lo T.iL .nil aG (aa (aM (aB (K:=K)) (pv 1) ax (λ_ _=>rfl)) (aa (aM (aB (K:=K)) (pv 1) ax (λ_ _=>rfl)) aj))))
   (ao (aE (aT (aa (aM (aB (K:=K)) (pv 1) ax (λ_ _=>rfl)) aj))))))),?_⟩
  obtain ⟨dx,hbe⟩:=G.Jd eA
  have F:=G.at_.j5 A eA
  have oA:=G.ok.j5 A eA
  obtain ⟨da,g1⟩:=F.af
  obtain ⟨r1,r2⟩:=LX (h:=h) (z:=z) (i:=i) eA oA
  refine ⟨_,rfl,_,rfl,nm,_,0,_,rfl,rfl,bf.of G.nums,at_of (j:=0) rfl rfl,_,rfl,nm,_,1,_,rfl,rfl,bf.of G.nums,at_of (j:=1) rfl rfl,bad,be,ln,wd,L,h,N,A,z,i,rfl,G.at_,G.ok,G.n,eA,λH0 s0=>?_⟩
  refine ⟨_,rfl,rfl,_,rfl,?_⟩
  refine Fc (λe=>?_) λe=>?_
  ·exact ⟨_,rfl,nz,λc' hc=>k _ _ _ _ c' (G.refuse s0 hc (r1 e))⟩
  ·obtain ⟨n,j,rfl,rfl,hj,hn,ho,hp,es⟩:=r2 e
   have F0:=F.same s0
   refine ⟨_,rfl,be,a.aL,dx,_,_,rfl,s0 _ _ hbe,T.aR,T.aI,rfl,L.ad .af,da,_,rfl,s0 _ _ g1,rfl,_,rfl,nm,_,0,_,rfl,rfl,bf.of (s0 _ _ G.nums),at_of (j:=0) rfl rfl,_,rfl,nm,_,1,_,rfl,rfl,bf.of (s0 _ _ G.nums),at_of (j:=1) rfl rfl,bad,L,A,n,j,rfl,F0,oA.good.xy,hn,hj,ho,λn0=>?_,λH1 L1 S1 F1=>?_⟩
   ·have:=hp n0
    unfold Vd at this
    rw [Wc,beq_iff_eq,beq_iff_eq] at this
    rcases this with q | q
    ·exact .inl q.symm
    ·exact .inr q.symm
   ·have hn1:=S1.keep _ _ (s0 _ _ G.nums) λr hr=>F0.Nh (s0 _ _ G.nums) hr
    refine ⟨_,rfl,nm,_,1,_,rfl,rfl,bf.of hn1,at_of (j:=1) rfl rfl,nz,λc' hc=>?_⟩
    have S2:=(Step.same (L:=L) (A:=A) s0).trans S1
    exact k _ _ _ _ c' (G.j5 eA (S2.trans (Step.same (az.laid hc))) (F1.same (az.laid hc)) (by rw [es];rfl) ((G.at_.yV eA S2 F1).fresh hc) (ns:=[(j:Int)]) (by rw [es];rfl) ae)
end
def vE:Option UB->PyData
 | none=>.none
 | some r=>jv (stI r)
theorem KG (x y:Option UB):PyData.eqv (vE x) (vE y)=decide (x=y):=by
 cases x with
 | none=>cases y with
  | none=>simp [vE,PyData.eqv]
  | some s=>simp [vE,jv,PyData.eqv]
 | some r=>cases y with
  | none=>simp [vE,jv,PyData.eqv]
  | some s =>
   show PyData.eqv (jv (stI r)) (jv (stI s))=_
   rw [sH,A4]
   by_cases e:r=s<;>simp [e]
theorem EO (x:Option UB):SeqAt.shaped (vE x)=true:=by
 cases x with
 | none=>rfl
 | some r=>exact shaped_ints _
theorem MS (x:Option UB):(vE x).depth<=3:=by
 cases x with
 | none=>decide
 | some r =>
  show (jv (stI r)).depth<=3
  unfold jv
  have:=zU (stI r)
  simp only [PyData.depth]
  omega
theorem Cq:∀ os:List (Option UB),PyData.canLayAll0 (os.map vE)=true
 | []=>by simp [PyData.canLayAll0]
 | o::r=>by
  have h:=EO o
  unfold SeqAt.shaped at h
  rw [UN] at h
  simp only [Vs,PyData.canLayAll0,h.1,Cq r,Bool.and_self]
theorem EU:∀ os:List (Option UB),PyData.depthAll (os.map vE)<=4
 | []=>by simp [PyData.depthAll]
 | o::r=>by
  have h1:=MS o
  have h2:=EU r
  simp only [Vs,PyData.depthAll]
  omega
theorem CD (os:List (Option UB)):SeqAt.shaped (.list (os.map vE))=true:=by
 unfold SeqAt.shaped
 rw [UN]
 refine ⟨by rw [PyData.canLay0];exact Cq os,decide_eq_true ?_⟩
 have:=EU os
 simp only [PyData.depth]
 omega
theorem NU {K:Uy} {H:Hp} {v:V} {o:Option UB} (h:kX H v o):Dp K H v (vE o):=by
 cases o with
 | none =>
  obtain rfl:v=.dH:=h
  exact .dH
 | some r =>
  obtain ⟨q,rfl,hq⟩:=h
  exact pI (gc.of (by rw [hq,fN]))
theorem GN {K:Uy} {H:Hp}:∀ {vs:List V} {os:List (Option UB)},Paired (kX H) vs os->zw K H vs (os.map vE)
 | _,_,.nil=>.nil
 | _,_,.cons h r=>.cons (NU h) (GN r)
theorem any_none (os:List (Option UB)):((os.map vE).any λz=>PyData.eqv z .none)=os.any λo=>o.isNone:=by
 rw [V1]
 congr 1
 funext o
 show PyData.eqv (vE o) (vE none)=_
 rw [KG]
 cases o<;>simp
theorem L8 (os:List (Option UB)) (o:Option UB):((os.map vE).countP λz=>PyData.eqv z (vE o))=os.countP λx=>decide (x=o):=by
 rw [List.countP_map]
 congr 1
 funext x
 exact KG x o
theorem NS (os:List (Option UB)) (o:Option UB):(os.countP λx=>decide (x=o)) < os.length ↔ (os.any λx=>x != o)=true:=by
 induction os with
 | nil=>simp
 | cons x r ih =>
  rw [List.countP_cons,U0,Vv,Wc]
  by_cases c:x=o
  ·have e1:decide (x=o)=true:=decide_eq_true c
   have e2:(x != o)=false:=by rw [c];simp
   rw [e1,e2,if_pos rfl]
   constructor
   ·intro h;exact .inr (ih.mp (by omega))
   ·rintro (h | h)
    ·cases h
    ·have:=ih.mpr h;omega
  ·have e1:decide (x=o)=false:=decide_eq_false c
   have e2:(x != o)=true:=by simpa using c
   rw [e1,e2,if_neg (by decide)]
   have:=List.countP_le_length (p:=λx=>decide (x=o)) (l:=r)
   exact ⟨λ_=>.inl rfl,λ_=>by omega⟩
def AR (A:Ux):List (Option UB):=(Ij A).map λi=>UD A i A.turns
theorem NP (A:Ux):(Vbapaj.ends A).map (·.2)=AR A:=by
 rw [Lk,VG]
 rfl
def Hn (A:Ux) (s:UB):Ux:={ A with found:=some s }
def Gu (h:UG) (A:Ux) (n:Int):Option UB->UG × Vn
 | none=>UO h (-4)
 | some s=>(V5 h (Hn A s),{ value:=n,rows:=[Wy s] })
theorem Kh {h:UG} {A:Ux} (eA:h.affair=some A):UH h .close =
  if A.found.isSome=true then UO h (-3)
  else match AR A with
  | []=>UO h (-10)
  | o::r=>if ((o::r).any λx=>x.isNone)=true then UO h (-4)
   else if ((o::r).any λx=>x != o)=true then UO h (-12)
   else Gu h A ((o::r).length:Int) o:=by
 rw [O0,hJ eA]
 split
 ·rfl
 ·rw [<- NP]
  cases q:Vbapaj.ends A with
  | nil=>rfl
  | cons e r =>
   obtain ⟨i,o⟩:=e
   cases o with
   | none=>rfl
   | some s =>
    show (if r.any (λx=>x.2.isNone)=true then _ else if r.any (λx=>x.2 != some s)=true then _ else _)=if ((some s::r.map (·.2)).any λx=>x.isNone)=true then _ else if ((some s::r.map (·.2)).any λx=>x != some s)=true then _ else _
    have e1:((some s::r.map (·.2)).any λx=>x.isNone)=r.any λx=>x.2.isNone:=by
     rw [Vv,V1]
     rfl
    have e2:((some s::r.map (·.2)).any λx=>x != some s)=r.any λx=>x.2 != some s:=by
     rw [Vv,V1,bne_self_eq_false,Bool.false_or]
     rfl
    rw [e1,e2]
    have e3:(((i,some s)::r).length:Int)=((some s::r.map (·.2)).length:Int):=by simp
    rw [e3]
    rfl
section
variable {P:Program} {w:World} {K:Uy} {mg:Str->Option Value} {base:Heap} {a:bI}
abbrev zA (K:Uy) (a:bI):Sp:=fA K a (λxs rs c=>c=.close) vQ
theorem FC (T:Txt K mg a):a8 P w K mg base eS 2 a.jj a.lB ["bench","numbers","rows"] (zA K a):=by
 refine T.rh.ok pV ?_ ?_
 ·rintro _ _ _ _ ⟨_,_,_,_,_,_,_,_,_,_,_,_,_,rfl,_⟩
  rfl
 ·rintro cdv A outer s H _ Q E hr ⟨bad,be,nm,rw,ln,wd,L,h,N,xs,ps,rs,c,rfl,G,rfl,⟨A,eA⟩,k⟩
  refine ⟨_,(ah (aP (i:=3) pV.nd rfl (Or.inr rfl) (ai (K:=K) (pv 0) rfl))
   (ah (bj (bJ (ai (K:=K) (pv 3) rfl)) (ao (aE (aT (aa (aO (by rfl) T.vH) aj)))) aQ)
   (ah (A5 (i:=4) rfl pV.nd rfl rfl (DJ rfl rfl rfl (by decide +kernel)) (kU (K:=K) (b7 (pv 3) T.au T.jX (rT T) hr.lo T.jW .nil aG)) (fc (own:=[("host",5)]) (by show w8 ["bench","numbers","rows","affair","ends","host"] (aq rG) _ _=true;decide +kernel)) (λ_ _ _ _ _=>fq (i:=5) pV.nd rfl (Or.inl rfl)) (λ_ _ _ _ _=>oy) (λ_ _ _ _ _=>(E8 (md hr) (ai (K:=K) (pv 5) rfl) (ai (K:=K) (pv 3) rfl) ⟨rfl,rfl,rfl,rfl⟩)))
   (ah (bj (ie (ze (K:=K) (pv 4) (λ_=>rfl))) (ao (aE (aT (aa (aO (by rfl) T.ve) aj)))) aQ)
   (ah (bj (a9 (PL (K:=K) (Sm hr)) ib (pv 4) rfl) (ao (aE (aT (aa (aO (by rfl) T.tm) aj)))) aQ)
   (ah (bj (a9 Jm (Ae (K:=K) Wu PySem.F.slot_list_count PySem.F.type_list_count (Ma (K:=K) (Sm hr)) (pv 4) (aa (aM (aB (K:=K)) (pv 4) ax (λ_ _=>rfl)) aj)) (aU (a7 (K:=K)) (by rfl) T.dO UU (aa (pv 4) aj)) (bo _)) (ao (aE (aT (aa (aO (by rfl) T.vB) aj)))) aQ)
   (ah (aS (K:=K) (pv 3) Fo rfl)
   (ao (aE (b8 lQ (aT (aa (aU (a7 (K:=K)) (by rfl) T.dO UU (aa (pv 4) aj)) aj)) (bE (eR T) hr.lo rfl T.dm T.cp.kp T.dk .nil aG (aa (aM (aB (K:=K)) (pv 4) ax (λ_ _=>rfl)) aj)))))))))))),?_⟩
  have hz:=sizeLine_eq
  obtain ⟨dx,hbe⟩:=G.Jd eA
  have F:=G.at_.j5 A eA
  have oA:=G.ok.j5 A eA
  have h6:=oA.h2
  obtain ⟨da,g1⟩:=F.af
  have es:=Kh eA
  refine ⟨_,rfl,be,a.aL,dx,_,_,rfl,hbe,T.aR,T.aI,rfl,?_⟩
  refine ⟨_,rfl,L.ad .af,a.aw,da,_,_,rfl,g1,T.au,T.cF,rfl,_,rfl,?_⟩
  cases c3:A.found.isSome with
  | true =>
   rw [if_pos c3] at es
   exact bc ⟨nz,λc' hc=>k _ _ _ _ c' (G.refuse (az.refl H) hc es)⟩
  | false =>
   rw [if_neg (by rw [c3];decide)] at es
   refine bu ?_
   have il:(Ij A).length<=6:=by
    have:=VA (λi=>!(Uz A i).out) (List.range A.hosts.length)
    rw [Vi] at this
    unfold Ij
    omega
   refine ⟨_,rfl,L.ad .af,da,_,rfl,g1,rfl,bad,L,A,rfl,F,by omega,λH1 c1 s1 hc1 h1=>?_⟩
   have F1:=F.same s1
   refine ⟨c1,rfl,⟨_,bf.of h1⟩,λD hD=>tO (K:=K) (xs:=(Ij A).map λi=>V.ref (L.ad (.host i))) (λi H2=>∃ vs,H2 D=some (.lst vs)/\Paired (kX H) vs (((Ij A).take i).map λi=>UD A i A.turns)/\az H1 H2) ⟨[],ae,.nil,az.laid hD⟩ (λi H2 _ ⟨_,_,_,q⟩=>bf.of (q _ _ h1)) ?_ ?_⟩
   ·rintro i x H2 hx ⟨vs,q1,q2,q3⟩
    obtain ⟨j,hj,rfl⟩:=sR hx
    have jl:j < A.hosts.length:=U8.mp (VM.mp (Vf hj)).1
    have s2:=s1.trans q3
    obtain ⟨dh,g2⟩:=F.host j jl
    obtain ⟨kvs,g3,hD3⟩:=F.pS j jl
    refine ⟨rfl,DT ⟨_,rfl,L.ad (.host j),a.bB,dh,_,_,rfl,s2 _ _ g2,T.bP,T.lK,rfl,L.ad (.pS j),rfl,.inl ⟨_,.inl (s2 _ _ g3)⟩,_,rfl,L.ad .af,a.aw,da,_,_,rfl,s2 _ _ g1,T.au,T.fW,rfl,_,mw.k (k:=Sum.inl (A.turns:Int)) (s2 _ _ g3),_,q1,?_,_,ae,?_,cS q3 hD⟩⟩
    ·rw [Paired.length q2,UA,Va];omega
    ·rw [take_snoc hj,U1]
     refine qf q2 ?_
     show kX H _ (UD A j A.turns)
     rw [<- y8 A j A.turns oA.good.base.once]
     rcases hD3.get A.turns with ⟨w1,w2⟩ | ⟨b,v,w1,w2,w3⟩
     ·rw [w1,w2];rfl
     ·rw [w1,w2];exact w3
   ·rintro H2 ⟨vs,q1,q2,q3⟩
    rw [UA,VB] at q2
    have q2:Paired (kX H) vs (AR A):=q2
    have s2:=s1.trans q3
    have q2':Paired (kX H2) vs (AR A):=ue (λb xs e=>s2 _ _ e) q2
    have vl:vs.length=(AR A).length:=Paired.length q2
    have ol:(AR A).length<=6:=by unfold AR;rw [UA];exact il
    refine ⟨_,rfl,_,.inl ⟨_,bf.of q1,rfl⟩,?_⟩
    clear q2
    have hsm:∀ s9,some s9∈AR A->s9.nums.length<=6:=λs9 hs9=>by
     obtain ⟨i,_,hi⟩:=UR.mp hs9
     obtain ⟨x,hx,rfl⟩:=qt hi
     exact xw oA (oA.good.cA x hx)
    generalize AR A=os at es q2' vl ol hsm
    cases q2' with
    | nil=>exact bc ⟨nz,λc' hc=>k _ _ _ _ c' (G.refuse s2 hc es)⟩
    | cons r0 rr =>
     rename_i v o vr orr
     have q2':Paired (kX H2) (v::vr) (o::orr):=.cons r0 rr
     have es:UH h .close=if ((o::orr).any λx=>x.isNone)=true then UO h (-4)
       else if ((o::orr).any λx=>x != o)=true then UO h (-12)
       else Gu h A ((o::orr).length:Int) o:=es
     refine bu ⟨_,rfl,D,_,(o::orr).map vE,.none,rfl,bf.of q1,GN q2',.dH,CD _,rfl,_,rfl,?_⟩
     rw [any_none]
     cases c4:((o::orr).any λx=>x.isNone) with
     | true =>
      rw [if_pos c4] at es
      exact bc ⟨nz,λc' hc=>k _ _ _ _ c' (G.refuse s2 hc es)⟩
     | false =>
      rw [if_neg (by rw [c4];decide)] at es
      refine bu ⟨_,rfl,.inl ⟨rfl,_,bf.of q1⟩,_,rfl,D,_,0,_,rfl,rfl,bf.of q1,at_of (j:=0) rfl rfl,D,_,v,(o::orr).map vE,vE o,rfl,rfl,bf.of q1,GN q2',NU r0,CD _,EO _,_,rfl,D,_,rfl,.inl (bf.of q1),_,_,rfl,rfl,_,rfl,?_⟩
      rw [L8]
      have cl:=NS (o::orr) o
      cases c5:((o::orr).any λx=>x != o) with
      | true =>
       rw [if_pos c5] at es
       have:=cl.mpr c5
       rw [decide_eq_true (show (((o::orr).countP λx=>decide (x=o):Nat):Int) < ((v::vr).length:Int) by omega)]
       exact bc ⟨nz,λc' hc=>k _ _ _ _ c' (G.refuse s2 hc es)⟩
      | false =>
       rw [if_neg (by rw [c5];decide)] at es
       have nl:¬ ((o::orr).countP λx=>decide (x=o)) < (o::orr).length:=λz=>by rw [cl.mp z] at c5;cases c5
       rw [decide_eq_false (show ¬ (((o::orr).countP λx=>decide (x=o):Nat):Int) < ((v::vr).length:Int) by omega)]
       cases o with
       | none=>rw [Vv] at c4;cases c4
       | some s9 =>
        obtain ⟨u,rfl,hu⟩:=r0
        have es:UH h .close=(V5 h (Hn A s9),{ value:=((some s9::orr).length:Int),rows:=[Wy s9] }):=es
        have F2:=F.same s2
        refine bu ⟨_,rfl,L.ad .af,a.aw,da,_,rfl,s2 _ _ g1,T.au,T.cF,by show 8 < 1000;decide,?_⟩
        have kp:∀ o,Keeps ((Role.af::(List.range A.hosts.length).map Role.host).map L.ad) H2 (upd H2 (L.ad .af) o):=λo=>Keeps.upd (UR.mpr ⟨.af,UZ ..,rfl⟩)
        have F3:aJ a bad (upd H2 (L.ad .af) (.ins a.aw da (a6 (Str.ofString "end_found") (.bl true) (Fp L A)))) L (Hn A s9):=F2.N1 (hs:=A.hosts) (pu:=A.purse) (fo:=some s9) rfl (λ_ _=>rfl) (kp _) ⟨da,ae⟩ λi hi=>by
         obtain ⟨dh,g2⟩:=F2.host i hi
         exact ⟨dh,by rw [ak (λz=>by have:=F2.inj (.host i) .af hi trivial z;cases this)];exact g2⟩
        have S3:Step H2 L A (upd H2 (L.ad .af) (.ins a.aw da (a6 (Str.ofString "end_found") (.bl true) (Fp L A)))) L (Hn A s9):=Step.N1 (kp _) rfl rfl
        have DA:D≠L.ad .af:=aV q1 (s2 _ _ g1) (by intro z;cases z)
        have uA:u≠L.ad .af:=aV hu (s2 _ _ g1) (by intro z;cases z)
        have q3':upd H2 (L.ad .af) (.ins a.aw da (a6 (Str.ofString "end_found") (.bl true) (Fp L A))) D=some (.lst (.ref u::vr)):=by rw [ak DA];exact q1
        have hu3:upd H2 (L.ad .af) (.ins a.aw da (a6 (Str.ofString "end_found") (.bl true) (Fp L A))) u=some (.tup (Fq s9)):=by rw [ak uA];exact hu
        have S3':=(Step.same (L:=L) (A:=A) s2).trans S3
        generalize upd H2 (L.ad .af) (.ins a.aw da (a6 (Str.ofString "end_found") (.bl true) (Fp L A)))=H3 at F3 S3' q3' hu3 ⊢
        have B3:=G.at_.yV eA S3' F3
        have sm:=hsm s9 (UZ ..)
        refine ⟨_,rfl,D,_,rfl,.inl (bf.of q3'),nz,λt ht=>?_⟩
        have s4:=az.laid (o:=.lst [.int ((V.ref u::vr).length:Int)]) ht
        refine ⟨_,rfl,D,_,0,_,rfl,rfl,bf.of (s4 _ _ q3'),at_of (j:=0) rfl rfl,u,stI s9,rfl,.inr (gc.of (by rw [<- fN];exact s4 _ _ hu3)),by rw [mz];omega,λH5 g s5 hg h5=>?_⟩
        refine ⟨t,g,_,_,rfl,rfl,s5 _ _ ae,h5,by show 1+(Vs V.int _).length<=sizeLine;rw [UA,U0,mz];omega,λe he=>?_⟩
        have s6:=(s4.trans s5).trans (az.laid (o:=.lst ([V.int ((V.ref u::vr).length:Int)]++Vs V.int (((stI s9).length:Int)::stI s9))) he)
        exact k _ _ _ _ e (G.j5 eA (S3'.trans (Step.same s6)) (F3.same s6) (by rw [es];rfl) ((B3.same (s4.trans s5)).fresh he) (ns:=((some s9::orr).length:Int)::(((stI s9).length:Int)::stI s9)) (by rw [es];exact (vq _ _).symm) (by rw [ae,vl];rfl))
end
def vz (A:Ux) (n:Nat):Nat:=if n=0 then A.lost else (aN A (n - 1)).lost
def Fe (A:Ux) (n:Nat):Ux:=if n=0 then Tj A A.saidTo (A.lost+1) else bD A (n - 1) { aN A (n - 1) with lost:=(aN A (n - 1)).lost+1 }
section
variable {P:Program} {w:World} {K:Uy} {mg:Str->Option Value} {base:Heap} {a:bI}
theorem PQ {bad:List Addr} {H:Hp} {L:Lay} {A:Ux} (T:Txt K mg a) (F:aJ a bad H L A) {n:Nat} (hn:n<=A.disputes.length) :
  ∃ (p C dd:Addr) (fs:List (Str × V)) (r:Role),(if n=0 then L.ad .op else L.ad (.aH (n - 1)))=p/\Lv A r/\p=L.ad r/\H p=some (.ins C dd fs)/\Fs K C/\bg K C "lost"/\fs.lookup (Str.ofString "lost")=some (.int ((vz A n:Nat):Int))/\fs.length<=9 /\
   ∃ L1,Step H L A (upd H p (.ins C dd (a6 (Str.ofString "lost") (.int (((vz A n:Nat):Int)+1)) fs))) L1 (Fe A n)/\aJ a bad (upd H p (.ins C dd (a6 (Str.ofString "lost") (.int (((vz A n:Nat):Int)+1)) fs))) L1 (Fe A n):=by
 by_cases n0:n=0
 ·subst n0
  obtain ⟨⟨dop,gop⟩,hot,kvs,hoa,hD⟩:=F.op
  have ne:L.ad .oa≠L.ad .op:=aV hoa gop (by intro z;cases z)
  have kp:∀ o,Keeps [L.ad .op,L.ad .oa] H (upd H (L.ad .op) o):=λo=>Keeps.upd (by simp)
  refine ⟨L.ad .op,a.bH,dop,_,.op,rfl,trivial,rfl,gop,T.eG,T.sk,rfl,by show 4<=9;decide,L,Step.setOp (kp _),F.setOp (kp _) rfl ⟨⟨dop,ae⟩,?_,kvs,by rw [ak ne];exact hoa,hD⟩⟩
  rw [ak (aV hot gop (by intro z;cases z))]
  exact hot
 ·have hm:n - 1 < A.disputes.length:=by omega
  have D:=F.aH (n - 1) _ (ba hm)
  obtain ⟨dd,gd⟩:=D.ins
  have kp:∀ o,Keeps [L.ad (.aH (n - 1)),L.ad (.bM (n - 1))] H (upd H (L.ad (.aH (n - 1))) o):=λo=>Keeps.upd (by simp)
  have ko:∀ o b u,H b=some u->(∀ C d f,u≠.ins C d f)->upd H (L.ad (.aH (n - 1))) o b=some u:=λo b u e q=>by
   rw [ak (aV e gd (λz=>q _ _ _ z))]
   exact e
  have e1:vz A n=(aN A (n - 1)).lost:=by unfold vz;rw [if_neg n0]
  have e2:Fe A n=bD A (n - 1) { aN A (n - 1) with lost:=(aN A (n - 1)).lost+1 }:=by unfold Fe;rw [if_neg n0]
  rw [e1,e2]
  refine ⟨L.ad (.aH (n - 1)),a.ay,dd,_,.aH (n - 1),by rw [if_neg n0],hm,rfl,gd,T.aA,T.sf,rfl,by show 9<=9;decide,L.rm (n - 1) (L.ad (.bM (n - 1))) (L.dt (n - 1)) (L.da (n - 1)) (L.de (n - 1)),Step.rm (ba hm) (kp _) (.inl rfl),F.rm (ba hm) (kp _) (.inl rfl) ⟨⟨dd,ae⟩,?_,?_,?_,?_⟩⟩
  ·obtain ⟨ob,q1,q2⟩:=D.hosts
   exact ⟨ob,ko _ _ _ q1 (by intro _ _ _ z;cases z),q2⟩
  ·exact ko _ _ _ D.FF (by intro _ _ _ z;cases z)
  ·exact ko _ _ _ D.ask (by intro _ _ _ z;cases z)
  ·exact ko _ _ _ D.fin (by intro _ _ _ z;cases z)
theorem MM {h:UG} {A:Ux} {N:Nat} {z:Int} {x:U4} (eA:h.affair=some A) (oA:vT A N) (e1:Wg h z=some x) (hx:x.dispute<=A.disputes.length):UH h (.lose z)=if A.mayLose<=vz A x.dispute then UO h (-7) else ({ Vl h x with affair:=some (Fe A x.dispute),gone:=h.gone+1 },{ value:=((Vl h x).line.length:Int) }):=by
 rw [KI,hJ eA,e1]
 show (if x.dispute=0 then _ else _)=_
 by_cases c:x.dispute=0
 ·rw [if_pos c,c]
  rfl
 ·rw [if_neg c]
  have hm:x.dispute - 1 < A.disputes.length:=by omega
  have hd:VY A x.dispute=some (aN A (x.dispute - 1)):=by
   have:=lD oA.num (x.dispute - 1)
   rw [show x.dispute - 1+1=x.dispute by omega] at this
   rw [this]
   exact ba hm
  have en:=oA.num.at hm
  have e3:vz A x.dispute=(aN A (x.dispute - 1)).lost:=by unfold vz;rw [if_neg c]
  have e2:Fe A x.dispute=Vw A { aN A (x.dispute - 1) with lost:=(aN A (x.dispute - 1)).lost+1 }:=by
   unfold Fe
   rw [if_neg c]
   exact (fw oA.num (j:=x.dispute - 1) (show ({ aN A (x.dispute - 1) with lost:=(aN A (x.dispute - 1)).lost+1 }:UC).no=x.dispute - 1+1 from en)).symm
  rw [hd,e2,e3]
abbrev AJ (K:Uy) (a:bI):Sp:=fA K a (λxs rs c=>∃ z,xs=[z]/\c=.lose z) vQ
theorem Hl (T:Txt K mg a):a8 P w K mg base eS 2 a.kT a.ni ["bench","numbers","rows"] (AJ K a):=by
 refine T.tW.ok AS ?_ ?_
 ·rintro _ _ _ _ ⟨_,_,_,_,_,_,_,_,_,_,_,_,_,rfl,_⟩
  rfl
 ·rintro cdv A outer s H _ Q E hr ⟨bad,be,nm,rw,ln,wd,L,h,N,xs,ps,rs,c,rfl,G,⟨z,rfl,rfl⟩,⟨A,eA⟩,k⟩
  refine ⟨_,(ah (bj (D5 (zc (md hr) (aM (aB (K:=K)) (pv 1) ax (λ_ _=>rfl)) (ai (K:=K) (ai (K:=K) (pv 0) rfl) rfl))) (ao (aE (aT (aa (aO (by rfl) T.lu) aj)))) aQ)
   (ah (aP (i:=3) AS.nd rfl (Or.inl rfl) (aK (ai (K:=K) (pv 0) rfl) T.au T.bG (bW T) hr.lo T.bF .nil aG (aa (ai (K:=K) (tP (md hr) (ai (K:=K) (ai (K:=K) (pv 0) rfl) rfl) (aM (aB (K:=K)) (pv 1) ax (λ_ _=>rfl)) (λ_ _=>rfl)) rfl) aj)))
   (ah (bj (a9 K5 (ai (K:=K) (pv 3) rfl) (ai (K:=K) (ai (K:=K) (pv 0) rfl) rfl) (bo _)) (ao (aE (aT (aa (aO (by rfl) T.FN) aj)))) aQ)
   (ah (gV (K:=K) (pv 3) ax uQ)
   (ah (bU (aK (ai (K:=K) (pv 0) rfl) T.bO T.u6 (EL T) hr.lo T.uV .nil aG (aa (aM (aB (K:=K)) (pv 1) ax (λ_ _=>rfl)) aj)))
   (ao (aE (aT (aa (aU vC (by rfl) T.dO UU (aa (ai (K:=K) (ai (K:=K) (pv 0) rfl) rfl) aj)) aj))))))))),?_⟩
  obtain ⟨dx,hbe⟩:=G.Jd eA
  have F:=G.at_.j5 A eA
  have oA:=G.ok.j5 A eA
  obtain ⟨da,g1⟩:=F.af
  obtain ⟨⟨dl,hln⟩,kvs,hwd,hD⟩:=id G.at_.line
  refine ⟨_,rfl,nm,_,0,_,rfl,rfl,bf.of G.nums,at_of (j:=0) rfl rfl,_,rfl,be,a.aL,dx,_,_,rfl,hbe,T.aR,T.aX,rfl,ln,a.bh,dl,_,_,rfl,hln,T.bO,T.bp,rfl,wd,_,rfl,mw.k (k:=Sum.inl z) hwd,_,rfl,?_⟩
  rcases AQ hD z with ⟨e1,e2⟩ | ⟨x,q,e1,e2,hq,ez,hfx,hx⟩
  ·have es:UH h (.lose z)=UO h (-6):=by rw [KI,hJ eA,e1]
   rw [e2]
   exact bc ⟨nz,λc hc=>k _ _ _ _ c (G.refuse (az.refl H) hc es)⟩
  ·subst ez
   obtain ⟨w1,w2,w3,w4⟩:=G.ok.wd A eA x hx
   have es:=MM eA oA e1 w3
   rw [e2]
   obtain ⟨dq,sv,hq1,hq2⟩:=hq
   obtain ⟨p,C,dd,fs,r,hpe,hr0,hpr,gp,tC,n1,l1,fl,L1,S1,F1⟩:=PQ T F w3
   refine bu ⟨_,rfl,be,a.aL,dx,_,_,rfl,hbe,T.aR,T.aI,rfl,L.ad .af,da,_,rfl,g1,rfl,_,rfl,be,a.aL,dx,_,_,rfl,hbe,T.aR,T.aX,rfl,ln,a.bh,dl,_,_,rfl,hln,T.bO,T.bp,rfl,_,rfl,nm,_,0,_,rfl,rfl,bf.of G.nums,at_of (j:=0) rfl rfl,wd,_,rfl,(by have:=mw.k (k:=Sum.inl (x.id:Int)) hwd;rw [e2] at this;exact this),q,a.bK,dq,_,_,rfl,hq1,T.dD,T.iY,rfl,bad,L,A,x.dispute,rfl,F,w3,?_⟩
   rw [hpe]
   refine ⟨_,rfl,p,C,dd,_,_,rfl,gp,tC,n1,l1,_,rfl,be,a.aL,dx,_,_,rfl,hbe,T.aR,T.aI,rfl,L.ad .af,a.aw,da,_,_,rfl,g1,T.au,T.eK,rfl,_,_,rfl,rfl,_,rfl,?_⟩
   by_cases cl:A.mayLose<=vz A x.dispute
   ·rw [if_pos cl] at es
    rw [decide_eq_true (show (A.mayLose:Int)<=(vz A x.dispute:Int) by omega)]
    exact bc ⟨nz,λc' hc=>k _ _ _ _ c' (G.refuse (az.refl H) hc es)⟩
   ·rw [if_neg cl] at es
    rw [decide_eq_false (show ¬ (A.mayLose:Int)<=(vz A x.dispute:Int) by omega)]
    refine bu ⟨_,rfl,p,C,dd,_,_,rfl,gp,tC,n1,l1,_,_,rfl,rfl,dd,_,gp,by omega,?_⟩
    have B1:=G.at_.yV eA S1 F1
    have nmp:nm≠p:=by rw [hpr];exact F.Nh G.nums hr0
    have hnm1:upd H p (.ins C dd (a6 (Str.ofString "lost") (.int (((vz A x.dispute:Nat):Int)+1)) fs)) nm=some (.lst [.int (x.id:Int)]):=by rw [ak nmp];exact G.nums
    generalize upd H p (.ins C dd (a6 (Str.ofString "lost") (.int (((vz A x.dispute:Nat):Int)+1)) fs))=H1 at S1 F1 B1 hnm1 ⊢
    obtain ⟨db1,hb1⟩:=B1.ins
    obtain ⟨⟨dl1,hln1⟩,_⟩:=id B1.line
    refine ⟨_,rfl,be,a.aL,db1,_,_,rfl,hb1,T.aR,T.aX,rfl,ln,dl1,_,rfl,hln1,rfl,_,rfl,nm,_,0,_,rfl,rfl,bf.of hnm1,at_of (j:=0) rfl rfl,ln,wd,h.line,h.next,h.came,h.gone,x.id,x,rfl,B1.line,hfx,λH2 q2 kp2 Ln2 _=>?_⟩
    have B2:=B1.N4 kp2 Ln2
    obtain ⟨db2,hb2⟩:=B2.ins
    obtain ⟨⟨dl2,hln2⟩,kvs2,hwd2,hD2⟩:=id B2.line
    refine ⟨_,rfl,be,a.aL,db2,_,_,rfl,hb2,T.aR,T.aX,rfl,ln,a.bh,dl2,_,_,rfl,hln2,T.bO,T.bp,rfl,wd,kvs2,rfl,hwd2,nz,λc' hc=>?_⟩
    have kl:kvs2.length=(Vl h x).line.length:=by rw [hD2.len];exact UA ..
    refine k _ ln wd L1 c' ⟨?_,λb o e nO=>?_,B2.fresh hc,?_⟩
    ·rw [es];exact B2.same (az.laid hc)
    ·exact az.laid hc _ _ (kp2 _ _ (S1.keep _ _ e λr hr z=>nO (.inr (.inr (.inr ⟨A,r,eA,hr,z⟩)))) (DK (λz=>nO (.inr (.inl z))) λz=>nO (.inr (.inr (.inl z)))))
    ·rw [es,ae,kl];rfl
def Qn (h:UG) (x:U4):Option UB->UG
 | none=>h
 | some s=>{ h with line:=h.line++[{ x with id:=h.next,answer:=some s }],next:=h.next+1 }
def Au (K:Uy) (a:bI):Sp:=λvs H Q _=>∃ (bad:List Addr) (be ln wd q:Addr) (L:Lay) (h:UG) (N:Nat) (A:Ux) (x:U4),vs=[.ref be,.ref q]/\bq a bad H be ln wd L h/\oS h N/\N<=400/\h.affair=some A/\vY a H q x/\x.host < A.hosts.length/\x.turn<=2000 /\
 ∀ (H':Hp) (L':Lay),bq a bad H' be ln wd L' (Qn h x (VL A x.host x.turn))->(∀ b o,H b=some o->¬ Own L be ln wd h b->H' b=some o)->Q .dH H'
theorem zF (T:Txt K mg a):a8 P w K mg base eS 6 a.gq a.gr ["bench","word"] (Au K a):=by
 refine T.jS.ok mM ?_ ?_
 ·rintro _ _ _ _ ⟨_,_,_,_,_,_,_,_,_,_,rfl,_⟩
  rfl
 ·rintro cdv A outer s H _ Q E hr ⟨bad,be,ln,wd,q,L,h,N,A,x,rfl,B,oH,hN,eA,⟨dq,sv,hq1,hq2⟩,hxh,hxt,k⟩
  refine ⟨_,(ah (aP (i:=2) mM.nd rfl (Or.inl rfl) (aM (aB (K:=K)) (ai (K:=K) (ai (K:=K) (pv 0) rfl) rfl) (ai (K:=K) (pv 1) rfl) (λ_ _=>rfl)))
   (ah (aP (i:=3) mM.nd rfl (Or.inl rfl) (aK (pv 2) T.bP T.tI (A7 T) hr.lo T.tZ .nil aG (aa (ai (K:=K) (pv 1) rfl) (aa (ai (K:=K) (ai (K:=K) (pv 0) rfl) rfl) aj))))
   (ao (bj (a9 LG (pv 3) ib (bo _)) (ao (bU (aK (ai (K:=K) (pv 0) rfl) T.bO T.sC (yy T) hr.lo T.sG .nil aG (aa (rl T.ET (vW T) hr.lo rfl T.uU T.qj .nil aG (aa (ai (K:=K) (pv 1) rfl) (aa (ai (K:=K) (pv 1) rfl) (aa (ai (K:=K) (pv 1) rfl) (aa (pv 3) aj))))) aj)))) aQ)))),?_⟩
  have F:=B.j5 A eA
  have oA:=oH.j5 A eA
  obtain ⟨dx,hbe⟩:=B.ins
  unfold AB at hbe
  rw [eA] at hbe
  have hbe:H be=some (.ins a.aL dx (zX ln (.ref (L.ad .af)))):=hbe
  obtain ⟨da,g1⟩:=F.af
  obtain ⟨dh,g2⟩:=F.host x.host hxh
  obtain ⟨ft,tb⟩:=F.tell x.host hxh
  refine ⟨_,rfl,be,a.aL,dx,_,_,rfl,hbe,T.aR,T.aI,rfl,L.ad .af,a.aw,da,_,_,rfl,g1,T.au,T.bw,rfl,_,rfl,q,a.bK,dq,_,_,rfl,hq1,T.dD,T.kZ,rfl,L.hl,_,_,_,rfl,rfl,bf.of F.hl,at_of (j:=x.host) rfl (kP hxh),?_⟩
  refine ⟨_,rfl,L.ad (.host x.host),dh,_,rfl,g2,rfl,_,rfl,q,a.bK,dq,_,_,rfl,hq1,T.dD,T.kh,rfl,_,rfl,be,a.aL,dx,_,_,rfl,hbe,T.aR,T.aI,rfl,L.ad .af,a.aw,da,_,_,rfl,g1,T.au,T.gM,rfl,?_⟩
  refine ⟨L.ad (.host x.host),L.ad (.tell x.host),L.ad (.pS x.host),L.r,L.lo,L.ad .ls,L.os,L.ts,_,_,x.turn,A.begin_.nums.length,_,L.tl x.host,A.program,A.begin_,rfl,⟨dh,g2⟩,ft,λl hl=>(tb.is x.turn l hl).1,F.run,oA.good.base.prog,oA.good.base.n6,oA.good.base.vM,hxt,F.M6,λH1 v ts' bt R1 hl1 hv=>?_⟩
  rw [Jh tb] at hv
  have F1:=F.v5 bt R1 hl1
  have S1:Step H L A H1 { L with ts:=ts' } A:=Step.v5 bt
  have B1:=B.yV eA S1 F1
  rw [zY eA] at B1
  have kp1:∀ b o,H b=some o->¬ Own L be ln wd h b->H1 b=some o:=λb o e nO=>S1.keep b o e λr hr z=>nO (.inr (.inr (.inr ⟨A,r,eA,hr,z⟩)))
  refine ⟨_,rfl,rfl,_,rfl,?_⟩
  cases es:VL A x.host x.turn with
  | none =>
   rw [es] at hv k
   obtain rfl:v=.dH:=hv
   exact bu (k H1 _ B1 kp1)
  | some s0 =>
   rw [es] at hv k
   obtain ⟨u,rfl,hu⟩:=hv
   obtain ⟨db1,hb1⟩:=B1.ins
   obtain ⟨⟨dl1,hln1⟩,_⟩:=id B1.line
   have hq3:H1 q=some (.ins a.bK dq (LI x.dispute x.host x.turn sv)):=bt _ _ hq1 (F.Er (r:=.ls) trivial hq1 (by decide) (by decide) (by decide))
   refine bc ⟨_,rfl,be,a.aL,db1,_,_,rfl,hb1,T.aR,T.aX,rfl,ln,dl1,_,rfl,hln1,rfl,_,rfl,q,a.bK,dq,_,_,rfl,hq3,T.dD,T.iY,rfl,_,rfl,q,a.bK,dq,_,_,rfl,hq3,T.dD,T.kZ,rfl,_,rfl,q,a.bK,dq,_,_,rfl,hq3,T.dD,T.kh,rfl,_,rfl,λy yd ny nyd nye=>⟨y,yd,x.dispute,x.host,x.turn,.ref u,rfl,ae,λH2 kp2 hy2=>⟨rfl,?_⟩⟩⟩
   have s2:az H1 H2:=az.made ny nyd λb o e q=>kp2 b o e λm=>q (UE.mp m)
   have B2:=B1.same s2
   have hll:=oH.ln
   refine ⟨ln,wd,y,h.line,h.next,h.came,h.gone,{ x with id:=h.next,answer:=some s0 },rfl,B2.line,⟨yd,.ref u,hy2,⟨u,rfl,s2 _ _ hu⟩⟩,rfl,λy hy=>U7 (oH.ids y hy),by omega,λH3 kp3 Ln3=>?_⟩
   refine k H3 _ (B2.N4 kp3 Ln3) λb o e nO=>kp3 _ _ (s2 _ _ (kp1 b o e nO)) (DK (λz=>nO (.inr (.inl z))) λz=>nO (.inr (.inr (.inl z))))
abbrev wQ (K:Uy) (a:bI):Sp:=fA K a (λxs rs c=>∃ z,xs=[z]/\c=.deliver z) vQ
theorem C6 (T:Txt K mg a):a8 P w K mg base eS 7 a.fL a.iO ["bench","numbers","rows"] (wQ K a):=by
 refine T.ou.ok wY ?_ ?_
 ·rintro _ _ _ _ ⟨_,_,_,_,_,_,_,_,_,_,_,_,_,rfl,_⟩
  rfl
 ·rintro cdv A outer s H _ Q E hr ⟨bad,be,nm,rw,ln,wd,L,h,N,xs,ps,rs,c,rfl,G,⟨z,rfl,rfl⟩,⟨A,eA⟩,k⟩
  refine ⟨_,(ah (bj (D5 (zc (md hr) (aM (aB (K:=K)) (pv 1) ax (λ_ _=>rfl)) (ai (K:=K) (ai (K:=K) (pv 0) rfl) rfl))) (ao (aE (aT (aa (aO (by rfl) T.lu) aj)))) aQ)
   (ah (aP (i:=3) wY.nd rfl (Or.inl rfl) (aK (ai (K:=K) (pv 0) rfl) T.bO T.qz (BE T) hr.lo T.qJ .nil aG (aa (aM (aB (K:=K)) (pv 1) ax (λ_ _=>rfl)) aj)))
   (ah (bj (a9 uq (ai (K:=K) (pv 3) rfl) ib (bo _)) (ao (bU (bE (zF T) hr.lo rfl T.oE T.jS.kp T.oP .nil aG (aa (pv 0) (aa (pv 3) aj))))) (ao (bU (aK (ai (K:=K) (pv 0) rfl) T.au T.uo (DX T) hr.lo T.vc .nil aG (aa (ai (K:=K) (pv 3) rfl) (aa (ai (K:=K) (pv 3) rfl) (aa (ai (K:=K) (pv 3) rfl) aj)))))))
   (ao (aE (aT (aa (aU vC (by rfl) T.dO UU (aa (ai (K:=K) (ai (K:=K) (pv 0) rfl) rfl) aj)) aj))))))),?_⟩
  have hN:=G.n
  obtain ⟨dx,hbe⟩:=G.Jd eA
  have F:=G.at_.j5 A eA
  have oA:=G.ok.j5 A eA
  obtain ⟨⟨dl,hln⟩,kvs,hwd,hD⟩:=id G.at_.line
  refine ⟨_,rfl,nm,_,0,_,rfl,rfl,bf.of G.nums,at_of (j:=0) rfl rfl,_,rfl,be,a.aL,dx,_,_,rfl,hbe,T.aR,T.aX,rfl,ln,a.bh,dl,_,_,rfl,hln,T.bO,T.bp,rfl,wd,_,rfl,mw.k (k:=Sum.inl z) hwd,_,rfl,?_⟩
  rcases AQ hD z with ⟨e1,e2⟩ | ⟨x,q,e1,e2,hq,ez,hfx,hx⟩
  ·have es:UH h (.deliver z)=UO h (-6):=by rw [Eb,hJ eA,e1]
   rw [e2]
   exact bc ⟨nz,λc hc=>k _ _ _ _ c (G.refuse (az.refl H) hc es)⟩
  ·subst ez
   obtain ⟨w1,w2,w3,w4⟩:=G.ok.wd A eA x hx
   have es:UH h (.deliver (x.id:Int))=(VC (Vl h x) A x,{ value:=((VC (Vl h x) A x).line.length:Int) }):=by rw [Eb,hJ eA,e1]
   rw [e2]
   refine bu ⟨_,rfl,be,a.aL,dx,_,_,rfl,hbe,T.aR,T.aX,rfl,ln,dl,_,rfl,hln,rfl,_,rfl,nm,_,0,_,rfl,rfl,bf.of G.nums,at_of (j:=0) rfl rfl,ln,wd,h.line,h.next,h.came,h.gone,x.id,x,rfl,G.at_.line,hfx,λH1 q1 kp1 Ln1 hq1=>?_⟩
   have B1:=G.at_.N4 kp1 Ln1
   have oH1:oS { h with line:=h.line.filter λy=>y.id != x.id,came:=h.came+1 } N:=G.ok.take (c:=h.came+1) (g:=h.gone) (x:=x)
   have nO1:∀ b,¬ Own L be ln wd h b->¬ b∈[ln,wd]:=λb nO=>DK (λz=>nO (.inr (.inl z))) λz=>nO (.inr (.inr (.inl z)))
   have fin:∀ (H2:Hp) (L2':Lay),bq a bad H2 be ln wd L2' (VC (Vl h x) A x)->(∀ b o,H1 b=some o->¬ Own L be ln wd h b->H2 b=some o) ->
     ∃ db dl2 kvs2,H2 be=some (.ins a.aL db (zX ln (AB L2' (VC (Vl h x) A x))))/\H2 ln=some (.ins a.bh dl2 (Ge wd (VC (Vl h x) A x).next (VC (Vl h x) A x).came (VC (Vl h x) A x).gone))/\H2 wd=some (.dK kvs2)/\∀ c',H2 c'=none->Q (.ref c') (upd H2 c' (.lst [.int (kvs2.length:Int)])):=λH2 L2' B2 kp2=>by
    obtain ⟨db2,hb2⟩:=B2.ins
    obtain ⟨⟨dl2,hln2⟩,kvs2,hwd2,hD2⟩:=id B2.line
    refine ⟨db2,dl2,kvs2,hb2,hln2,hwd2,λc' hc=>?_⟩
    have kl:kvs2.length=(VC (Vl h x) A x).line.length:=by rw [hD2.len];exact UA ..
    refine k _ ln wd L2' c' ⟨?_,λb o e nO=>az.laid hc _ _ (kp2 _ _ (kp1 _ _ e (nO1 b nO)) nO),B2.fresh hc,?_⟩
    ·rw [es];exact B2.same (az.laid hc)
    ·rw [es,ae,kl];rfl
   obtain ⟨dq,sv,hq2,hq3⟩:=id hq1
   refine ⟨_,rfl,q1,a.bK,dq,_,_,rfl,hq2,T.dD,T.lz,rfl,rfl,_,rfl,?_⟩
   cases ea:x.answer with
   | none =>
    rw [ea] at hq3
    obtain rfl:sv=.dH:=hq3
    refine bc ⟨_,rfl,_,rfl,bad,be,ln,wd,q1,L,_,N,A,x,rfl,B1,oH1,hN,eA,hq1,w1,w2,λH2 L2' B2 kp2=>?_⟩
    have ec:VC (Vl h x) A x=Qn { h with line:=h.line.filter λy=>y.id != x.id,came:=h.came+1 } x (VL A x.host x.turn):=by
     unfold VC
     rw [ea]
     show (match VL A x.host x.turn with | none=>_ | some s=>_)=_
     cases VL A x.host x.turn<;>rfl
    obtain ⟨db2,dl2,kvs2,hb2,hln2,hwd2,fk⟩:=fin H2 L2' (by rw [ec];exact B2) λb o e nO=>kp2 b o e nO
    exact ⟨_,rfl,be,a.aL,db2,_,_,rfl,hb2,T.aR,T.aX,rfl,ln,a.bh,dl2,_,_,rfl,hln2,T.bO,T.bp,rfl,wd,kvs2,rfl,hwd2,nz,fk⟩
   | some s0 =>
    rw [ea] at hq3
    obtain ⟨u,rfl,hu⟩:=hq3
    have F1:=B1.j5 A eA
    obtain ⟨da,g1⟩:=F1.af
    obtain ⟨db1,hb1⟩:=B1.ins
    have hb1:H1 be=some (.ins a.aL db1 (zX ln (.ref (L.ad .af)))):=by
     have e:AB L { h with line:=h.line.filter λy=>y.id != x.id,came:=h.came+1 }=.ref (L.ad .af):=by unfold AB;show (match h.affair with | none=>_ | some _=>_)=_;rw [eA]
     rw [<- e];exact hb1
    have g:=oA.good
    have hdl:=oA.dl
    have hhl:=oA.hl
    refine bu ⟨_,rfl,be,a.aL,db1,_,_,rfl,hb1,T.aR,T.aI,rfl,L.ad .af,da,_,rfl,g1,rfl,_,rfl,q1,a.bK,dq,_,_,rfl,hq2,T.dD,T.kZ,rfl,_,rfl,q1,a.bK,dq,_,_,rfl,hq2,T.dD,T.kh,rfl,_,rfl,q1,a.bK,dq,_,_,rfl,hq2,T.dD,T.lz,rfl,bad,L,A,x.host,x.turn,A.begin_.nums.length,u,s0,rfl,F1,g.xy,g.base.once,by omega,by omega,w1,hu,λ_ _ hn m hm=>mL (EG g hn (w4 s0 ea)) m hm,λH2 L2' S2 F2=>?_⟩
    have B2:=B1.yV eA S2 F2
    have ec:VC (Vl h x) A x={ h with line:=h.line.filter λy=>y.id != x.id,came:=h.came+1,affair:=some (vS A x.host x.turn s0) }:=by
     unfold VC
     rw [ea]
     show ({ Vl h x with affair:=some (Vbapaj.hears A x.host x.turn s0),came:=h.came+1 }:UG)=_
     rw [JD oA.num]
     rfl
    obtain ⟨db2,dl2,kvs2,hb2,hln2,hwd2,fk⟩:=fin H2 L2' (by rw [ec];exact B2) λb o e nO=>S2.keep b o e λr hr z=>nO (.inr (.inr (.inr ⟨A,r,eA,hr,z⟩)))
    exact ⟨_,rfl,be,a.aL,db2,_,_,rfl,hb2,T.aR,T.aX,rfl,ln,a.bh,dl2,_,_,rfl,hln2,T.bO,T.bp,rfl,wd,kvs2,rfl,hwd2,nz,fk⟩
end
theorem PR {σ:St} {H:Hp} {Q:VK} {a z c:Int} (h:Q (.bl (decide (a<=z)&&decide (z<=c))) H) :
  NK (λi j=>.bl (decide (i<=j))) (.int a) (.int z) H (λw H3=>∃ k,w=.bl k/\if k=true then tC (.int c) σ H3 (λw' H4=>NK (λi j=>.bl (decide (i<=j))) (.int z) w' H4 Q) else Q (.bl false) H3):=by
 refine ⟨a,z,rfl,rfl,_,rfl,?_⟩
 by_cases e:a<=z
 ·rw [decide_eq_true e] at h ⊢
  rw [if_pos rfl]
  exact ⟨z,c,rfl,rfl,h⟩
 ·rw [decide_eq_false e] at h ⊢
  rw [if_neg (by decide)]
  exact h
theorem rX.same {a:bI} {H H':Hp} {r lo ls:Addr} {os ts:List Addr} {prog:List UP} {b:UB} (R:rX a H r lo ls os ts prog b) (s:az H H'):rX a H' r lo ls os ts prog b:=by
 obtain ⟨⟨dx,h1⟩,h2,h3,h4,h5,h6,h7,h8⟩:=R
 exact ⟨⟨dx,s _ _ h1⟩,s _ _ h2,h3,λi q o hq ho=>s _ _ (h4 i q o hq ho),s _ _ h5,h6,h7,λi u hu=>s _ _ (h8 i u hu)⟩
def newOk (t k n st:Int):Bool:=(decide (1<=t)&&decide (t<=2000))&&((decide (0<=k)&&decide (k<=5))&&((decide (2<=n)&&decide (n<=6))&&(decide (0<=st)&&decide (st<=1000))))
def xW (b:List Int):Bool:=(decide (1<=b.length)&&decide (b.length<=6))&&b.all Il
theorem Nj (h:UG) (t k n st:Int) (p b:List Int):UH h (.new t k n st p b) =
  if newOk t k n st=false then UO h (-1)
  else if h.line.isEmpty=false then UO h (-3)
  else if (nL p&&xW b)=false then UO h (-1)
  else match Vx 20 p with
  | none=>UO h (-1)
  | some o=>(V5 h (Ax o { at_:=0,nums:=b.map VI } t.toNat k.toNat n.toNat st.toNat),{ value:=n }):=by
 rw [QG]
 have e1:(Vj t 1 2000&&(Vj k 0 5&&(Vj n 2 6&&Vj st 0 1000)))=newOk t k n st:=rfl
 rw [e1]
 split
 ·rfl
 ·split
  ·rfl
  ·have e2:(decide (1<=b.length)&&(decide (b.length<=6)&&Vbapaj.isNums b))=xW b:=by
    unfold xW
    rw [By,Bool.and_assoc]
   cases c:nL p with
   | true =>
    obtain ⟨o,q1,q2,q3⟩:=CQ c
    rw [q1]
    show (if (!o.isEmpty&&(decide (1<=b.length)&&(decide (b.length<=6)&&Vbapaj.isNums b)))=false then _ else _)=if (true&&xW b)=false then _ else _
    have oe:o.isEmpty=false:=by
     cases o with
     | nil=>exact absurd q3.pos (Vz _)
     | cons x r=>rfl
    rw [e2,oe]
    rfl
   | false =>
    rw [if_pos (show (false&&xW b)=false by rfl)]
    rcases Hg c with q | q
    ·rw [q]
    ·rw [q]
     rfl
section
variable {P:Program} {w:World} {K:Uy} {mg:Str->Option Value} {base:Heap} {a:bI}
abbrev CW (K:Uy) (a:bI):Sp:=fA K a (λxs rs c=>∃ t k n st p b,xs=[t,k,n,st]/\rs=[p,b]/\c=.new t k n st p b) Any
theorem Js (T:Txt K mg a):a8 P w K mg base eS 6 a.mI a.pH ["bench","numbers","rows"] (CW K a):=by
 refine T.wG.ok qk ?_ ?_
 ·rintro _ _ _ _ ⟨_,_,_,_,_,_,_,_,_,_,_,_,_,rfl,_⟩
  rfl
 ·rintro cdv A outer s H _ Q E hr ⟨bad,be,nm,rw,ln,wd,L,h,N,xs,ps,rs,c,rfl,G,⟨t,kk,n,st,pg,fb,rfl,rfl,rfl⟩,_,k⟩
  refine ⟨_,(ah (aP (i:=3) qk.nd rfl (Or.inl rfl) (aM (aB (K:=K)) (pv 1) ax (λ_ _=>rfl)))
   (ah (aP (i:=4) qk.nd rfl (Or.inl rfl) (aM (aB (K:=K)) (pv 1) ax (λ_ _=>rfl)))
   (ah (aP (i:=5) qk.nd rfl (Or.inl rfl) (aM (aB (K:=K)) (pv 1) ax (λ_ _=>rfl)))
   (ah (aP (i:=6) qk.nd rfl (Or.inl rfl) (aM (aB (K:=K)) (pv 1) ax (λ_ _=>rfl)))
   (ah (bj (ie (PW.pt (ya (xM ku ku ax (pv 3) ax) (ya (xM ku ku ax (pv 4) ax) (ya (xM ku ku ax (pv 5) ax) (zf (xM ku ku ax (pv 6) ax))))))) (ao (aE (aT (aa (aO (by rfl) T.bZ) aj)))) aQ)
   (ah (bj (ze (K:=K) (ai (K:=K) (ai (K:=K) (pv 0) rfl) rfl) (λ_=>rfl)) (ao (aE (aT (aa (aO (by rfl) T.vH) aj)))) aQ)
   (ah (bj (ie (PW.pt (ya (bJ (bE (Fx T) hr.lo rfl T.vX T.rB.kp T.wg .nil aG (aa (aM (aB (K:=K)) (pv 2) ax (λ_ _=>rfl)) aj))) (zf (bJ (bE (xU T) hr.lo rfl T.lU T.ir.kp T.lO .nil aG (aa (aM (aB (K:=K)) (pv 2) ax (λ_ _=>rfl)) aj))))))) (ao (aE (aT (aa (aO (by rfl) T.bZ) aj)))) aQ)
   (ah (aS (K:=K) (pv 0) (rl T.EM (DQ T) hr.lo rfl T.bb T.uW .nil aG (aa (rl T.OH (IK T) hr.lo rfl T.AX T.Aq .nil aG (aa (aM (aB (K:=K)) (pv 2) ax (λ_ _=>rfl)) (aa (aM (aB (K:=K)) (pv 2) ax (λ_ _=>rfl)) aj))) (aa (pv 3) (aa (pv 4) (aa (pv 5) (aa (pv 6) aj)))))) rfl)
   (ao (aE (aT (aa (pv 5) aj)))))))))))),?_⟩
  have hz:=sizeLine_eq
  obtain ⟨dx,hbe⟩:=G.at_.ins
  obtain ⟨⟨dl,hln⟩,kvs,hwd,hD⟩:=id G.at_.line
  have hrow:=G.row
  have hrows:=G.rows
  have hl1:=G.O6 pg (UZ ..)
  have hl2:=G.O6 fb (U2 _ (UE.mpr rfl))
  have es:=Nj h t kk n st pg fb
  cases hrow with
  | cons hp0 hrow =>
   rename_i p0 pr
   cases hrow with
   | cons hp1 hnil =>
    rename_i p1 pr
    cases hnil
    refine ⟨_,rfl,nm,_,0,_,rfl,rfl,bf.of G.nums,at_of (j:=0) rfl rfl,?_⟩
    refine ⟨_,rfl,nm,_,1,_,rfl,rfl,bf.of G.nums,at_of (j:=1) rfl rfl,?_⟩
    refine ⟨_,rfl,nm,_,2,_,rfl,rfl,bf.of G.nums,at_of (j:=2) rfl rfl,?_⟩
    refine ⟨_,rfl,nm,_,3,_,rfl,rfl,bf.of G.nums,at_of (j:=3) rfl rfl,?_⟩
    have Jl:newOk t kk n st=false->∀ c',H c'=none->Q (.ref c') (upd H c' (.lst [.int (-1)])):=λe c' hc=>by
     rw [if_pos e] at es
     exact k _ _ _ _ c' (G.refuse (az.refl H) hc es)
    refine ⟨_,rfl,PR ⟨_,rfl,?_⟩⟩
    cases c1:(decide (1<=t)&&decide (t<=2000)) with
    | false=>exact bu (bc ⟨nz,Jl (by unfold newOk;rw [c1];rfl)⟩)
    | true =>
     refine bc ⟨_,rfl,PR ⟨_,rfl,?_⟩⟩
     cases c2:(decide (0<=kk)&&decide (kk<=5)) with
     | false=>exact bu (bc ⟨nz,Jl (by unfold newOk;rw [c1,c2];rfl)⟩)
     | true =>
      refine bc ⟨_,rfl,PR ⟨_,rfl,?_⟩⟩
      cases c3:(decide (2<=n)&&decide (n<=6)) with
      | false=>exact bu (bc ⟨nz,Jl (by unfold newOk;rw [c1,c2,c3];rfl)⟩)
      | true =>
       refine bc ⟨_,rfl,PR ⟨_,rfl,?_⟩⟩
       cases c4:(decide (0<=st)&&decide (st<=1000)) with
       | false=>exact bc ⟨nz,Jl (by unfold newOk;rw [c1,c2,c3,c4];rfl)⟩
       | true =>
        have cN:newOk t kk n st=true:=by unfold newOk;rw [c1,c2,c3,c4];rfl
        rw [if_neg (by rw [cN];decide)] at es
        rw [UN,decide_eq_true_eq,decide_eq_true_eq] at c1 c2 c3 c4
        refine bu ⟨_,rfl,be,a.aL,dx,_,_,rfl,hbe,T.aR,T.aX,rfl,ln,a.bh,dl,_,_,rfl,hln,T.bO,T.bp,rfl,_,.inr (.inr ⟨kvs,hwd,rfl⟩),?_⟩
        have ke:kvs.isEmpty=h.line.isEmpty:=by
         have e:kvs.length=h.line.length:=by rw [hD.len];exact UA ..
         cases kvs<;>cases hq:h.line<;>rw [hq] at e<;>first | rfl | (simp at e)
        rw [ke]
        cases c5:h.line.isEmpty with
        | false =>
         rw [if_pos c5] at es
         exact bc ⟨nz,λc' hc=>k _ _ _ _ c' (G.refuse (az.refl H) hc es)⟩
        | true =>
         rw [if_neg (by rw [c5];decide)] at es
         refine bu ⟨_,rfl,rw,_,0,_,rfl,rfl,bf.of hrows,at_of (j:=0) rfl rfl,p0,pg,rfl,bf.of hp0,hl1,λH1 s1=>⟨_,rfl,?_⟩⟩
         cases c6:nL pg with
         | false =>
          rw [if_pos (by rw [c6];rfl)] at es
          exact bu (bc ⟨nz,λc' hc=>k _ _ _ _ c' (G.refuse s1 hc es)⟩)
         | true =>
          refine bc ⟨_,rfl,rw,_,1,_,rfl,rfl,bf.of (s1 _ _ hrows),at_of (j:=1) rfl rfl,p1,fb,rfl,bf.of (s1 _ _ hp1),by omega,λH2 s2=>⟨_,rfl,?_⟩⟩
          show if (!xW fb)=true then _ else _
          have s12:=s1.trans s2
          cases c7:xW fb with
          | false =>
           rw [if_pos (by rw [c6,c7];rfl)] at es
           exact bc ⟨nz,λc' hc=>k _ _ _ _ c' (G.refuse s12 hc es)⟩
          | true =>
           rw [if_neg (by rw [c6,c7];decide)] at es
           obtain ⟨prog,q1,q2,q3⟩:=CQ c6
           rw [q1] at es
           have es:UH h (.new t kk n st pg fb)=(V5 h (Ax prog { at_:=0,nums:=fb.map VI } t.toNat kk.toNat n.toNat st.toNat),{ value:=n }):=es
           obtain ⟨T0,rfl⟩:∃ T0:Nat,t=(T0:Int):=⟨t.toNat,by omega⟩
           obtain ⟨k0,rfl⟩:∃ k0:Nat,kk=(k0:Int):=⟨kk.toNat,by omega⟩
           obtain ⟨n0,rfl⟩:∃ n0:Nat,n=(n0:Int):=⟨n.toNat,by omega⟩
           obtain ⟨st0,rfl⟩:∃ st0:Nat,st=(st0:Int):=⟨st.toNat,by omega⟩
           unfold xW at c7
           rw [UN,UN,decide_eq_true_eq,decide_eq_true_eq] at c7
           obtain ⟨m1,m2⟩:=Et c7.2
           refine bu ⟨_,rfl,rw,_,0,_,rfl,rfl,bf.of (s12 _ _ hrows),at_of (j:=0) rfl rfl,_,rfl,rw,_,1,_,rfl,rfl,bf.of (s12 _ _ hrows),at_of (j:=1) rfl rfl,λr rd nr nrd nerd=>?_⟩
           have sr:az H2 (upd (upd H2 rd (.own r)) r (.ins a.jz rd [])):=(az.laid nrd).trans (az.laid (by rw [ak nerd.symm];exact nr))
           refine ⟨r,rd,p0,p1,prog,fb.map VI,rfl,ae,by rw [<- q2];exact sr _ _ (s12 _ _ hp0),by rw [<- m1];exact sr _ _ (s12 _ _ hp1),q3.le,by rw [UA];exact c7.1.2,λH3 lo ls os ts kp3 hlo hls R3 htl=>⟨rfl,?_⟩⟩
           have s3:az H2 H3:=az.made nr nrd kp3
           have s13:=s12.trans s3
           refine ⟨_,rfl,_,rfl,_,rfl,_,rfl,λaf ad naf nad nead=>?_⟩
           have sa:az H3 (upd (upd H3 ad (.own af)) af (.ins a.aw ad [])):=(az.laid nad).trans (az.laid (by rw [ak nead.symm];exact naf))
           have bt:=G.at_.zj
           refine ⟨af,ad,r,lo,ls,os,ts,T0,k0,n0,st0,prog,{ at_:=0,nums:=fb.map VI },bad,rfl,ae,R3.same sa,by omega,by omega,λm=>?_,λx hx=>?_,λH4 L4 kp4 ea els hro er F4=>⟨rfl,?_⟩⟩
           ·obtain ⟨ys,e⟩:=bt lo m
            rw [sr _ _ (s12 _ _ e)] at hlo
            cases hlo
           ·obtain ⟨ys,e⟩:=bt x hx
            rw [sa _ _ (s13 _ _ e)]
            intro z;cases z
           ·have s4:az H3 H4:=az.made naf nad λb o e n=>kp4 b o e λm=>n (UE.mp m)
            have s14:=s13.trans s4
            have off:∀ b o rr,H b=some o->Lv (Ax prog { at_:=0,nums:=fb.map VI } T0 k0 n0 st0) rr->b≠L4.ad rr:=λb o rr e hr z=>by
             rcases hro rr hr with rfl | rfl | q
             ·rw [ea] at z
              rw [z] at e
              rw [s13 _ _ e] at naf;cases naf
             ·rw [els] at z
              rw [z] at e
              rw [sr _ _ (s12 _ _ e)] at hls;cases hls
             ·rw [<- z,sa _ _ (s13 _ _ e)] at q;cases q
            refine ⟨_,rfl,be,a.aL,dx,_,rfl,s14 _ _ hbe,T.aR,T.aI,by show 2 < 1000;decide,?_⟩
            refine ⟨_,rfl,nz,λc' hc=>?_⟩
            have hb4:=s14 _ _ hbe
            have cb:c'≠be:=λz=>by rw [z,ae] at hc;cases hc
            have hc4:H4 c'=none:=by rw [ak cb] at hc;exact hc
            have kk:∀ o1 o2 b o,H4 b=some o->b≠be->upd (upd H4 be o1) c' o2 b=some o:=λo1 o2 b o e n=>by rw [ak (aF e hc4),ak n];exact e
            refine k _ ln wd L4 c' ⟨?_,λb o e nO=>kk _ _ _ _ (s14 _ _ e) λz=>nO (.inl z),G.fresh (s14.free hc4),?_⟩
            ·rw [es]
             refine ⟨⟨dx,?_⟩,?_,λC e=>?_,λC rr e hr=>?_,λC rr e hr m=>?_,λx hx=>?_⟩
             ·rw [ak cb.symm,ae,<- ea]
              rfl
             ·refine (G.at_.line.OQ (H':=upd (upd H4 be _) c' _) λb o e q=>kk _ _ _ _ (s14 _ _ e) ?_)
              obtain ⟨n1,n2,_⟩:=G.at_.ne
              rcases q with rfl | rfl | ⟨ys,rfl⟩ | ⟨C,d,v,rest,rfl⟩
              ·exact n1.symm
              ·exact n2.symm
              ·exact aV e hbe (by intro z;cases z)
              ·exact kL e hbe (by decide)
             ·cases e
              refine aJ.same ?_ (az.laid hc)
              refine F4.OQ λb o e q=>?_
              rw [ak]
              ·exact e
              ·rintro rfl
               rw [hb4] at e
               cases e
               rcases q with ⟨rr,hr,z⟩ | z | ⟨ys,z⟩ | ⟨ob,u,z⟩ | ⟨⟨ys,z⟩,_⟩
               ·exact F4.Er hr hb4 (by decide) (by decide) (by decide) z
               ·obtain ⟨d4,h4⟩:=F4.run.run
                exact kL hb4 h4 (by decide) z
               ·cases z
               ·cases z
               ·cases z
             ·cases e
              exact off _ _ rr hwd hr
             ·cases e
              obtain ⟨ys,e⟩:=bt _ m
              exact off _ _ rr e hr rfl
             ·obtain ⟨ys,e⟩:=bt x hx
              exact ⟨ys,kk _ _ _ _ (s14 _ _ e) (aV e hbe (by intro z;cases z))⟩
            ·rw [es]
             exact ae
end
inductive cz:Nat->List Int->List (List Int)->Vy->Prop
 | clear:cz 0 [] [] (.clear)
 | new (t k n st:Int) (p b:List Int):cz 1 [t,k,n,st] [p,b] (.new t k n st p b)
 | lie (i t:Int) (l:List Int):cz 2 [i,t] [l] (.lie i t l)
 | mute (i t:Int):cz 3 [i,t] [] (.mute i t)
 | honest (i t:Int):cz 4 [i,t] [] (.honest i t)
 | pair (x y:Int):cz 5 [x,y] [] (.pair x y)
 | say (d i:Int):cz 6 [d,i] [] (.say d i)
 | deliver (x:Int):cz 7 [x] [] (.deliver x)
 | lose (x:Int):cz 8 [x] [] (.lose x)
 | double (x:Int):cz 9 [x] [] (.double x)
 | hush (d i:Int):cz 10 [d,i] [] (.hush d i)
 | close:cz 11 [] [] (.close)
 | line:cz 12 [] [] (.line)
 | word (x:Int):cz 13 [x] [] (.word x)
 | dispute (d:Int):cz 14 [d] [] (.dispute d)
 | agreed (d:Int):cz 15 [d] [] (.agreed d)
 | truth (t:Int):cz 16 [t] [] (.truth t)
 | heard (i t:Int):cz 17 [i,t] [] (.heard i t)
 | says (i t:Int):cz 18 [i,t] [] (.says i t)
 | host (i:Int):cz 19 [i] [] (.host i)
 | affair:cz 20 [] [] (.affair)
 | counts:cz 21 [] [] (.counts)
 | work (l:List Int):cz 22 [] [l] (.work l)
def Aa:List (Nat × Nat):=[(0,0),(4,2),(2,1),(2,0),(2,0),(2,0),(2,0),(1,0),(1,0),(1,0),(2,0),(0,0),(0,0),(1,0),(1,0),(1,0),(1,0),(2,0),(2,0),(1,0),(0,0),(0,0),(0,1)]
def free:List Nat:=[0,1,9,12,13,21]
def Fh (a:bI):List (Key × Value):=[(Sum.inl 0,.ref a.jn),(Sum.inl 1,.ref a.mI),(Sum.inl 2,.ref a.mE),(Sum.inl 3,.ref a.kK),(Sum.inl 4,.ref a.ia),(Sum.inl 5,.ref a.k9),(Sum.inl 6,.ref a.mD),(Sum.inl 7,.ref a.fL),(Sum.inl 8,.ref a.kT),(Sum.inl 9,.ref a.gT),(Sum.inl 10,.ref a.j6),(Sum.inl 11,.ref a.jj)]
def Ig (a:bI):List (Key × Value):=[(Sum.inl 12,.ref a.kf),(Sum.inl 13,.ref a.k8),(Sum.inl 14,.ref a.fC),(Sum.inl 15,.ref a.gX),(Sum.inl 16,.ref a.jh),(Sum.inl 17,.ref a.ji),(Sum.inl 18,.ref a.kI),(Sum.inl 19,.ref a.kO),(Sum.inl 20,.ref a.gZ),(Sum.inl 21,.ref a.gW),(Sum.inl 22,.ref a.kR)]
structure To (P:Program) (w:World) (K:Uy) (a:bI):Prop where
 calls:∀ h:Heap,K.In h->h.DictOf (aZ P w) a.rF (Fh a)
 reads:∀ h:Heap,K.In h->h.DictOf (aZ P w) a.dA (Ig a)
 shapes:∃ sp:Nat->Addr,(∀ h:Heap,K.In h->h.DictOf (aZ P w) a.qa ((List.range 23).map λ(i:Nat)=>((Sum.inl (i:Int):Key),Value.ref (sp i))))/\∀ (i:Nat) (s:Nat × Nat),Aa[i]?=some s->∀ H,gc K H (sp i) [.int (s.1:Int),.int (s.2:Int)]
 none_:∀ H,gc K H a.bQ (mf free)
section
variable {P:Program} {w:World} {K:Uy} {mg:Str->Option Value} {base:Heap} {a:bI}
def P2 (a:bI) (i:Nat):Sp:=λvs H Q _=>∃ (bad:List Addr) (be nm rw ln wd:Addr) (L:Lay) (h:UG) (N:Nat) (xs:List Int) (ps:List Addr) (rs:List (List Int)) (c:Vy),
 vs=[.ref be,.ref nm,.ref rw]/\Given a bad H be nm rw ln wd L h N xs ps rs/\cz i xs rs c/\(¬ i∈free->vQ h) /\
 ∀ (H':Hp) (ln' wd':Addr) (L':Lay) (cc:Addr),Done a bad H be ln wd L h H' ln' wd' L' (UH h c) cc->Q (.ref cc) H'
structure qK (P:Program) (w:World) (K:Uy) (mg:Str->Option Value) (base:Heap) (a:bI) (i:Nat) (f:Addr) (fd:FuncData) (k:Nat) (sp:Sp):Prop where
 ok:a8 P w K mg base eS k f fd ["bench","numbers","rows"] sp
 kp:VS K (.ref f)=true
 bi:Binds K fd ["bench","numbers","rows"] []
 to:∀ vs H Q E,P2 a i vs H Q E->sp vs H Q E
theorem J7 (T:Txt K mg a):qK P w K mg base a 0 a.jn a.lH 3 (zy K a):=⟨FH T,T.rD.kp,T.wu,λvs H Q E ⟨bad,be,nm,rw,ln,wd,L,h,N,xs,ps,rs,c,e,G,hc,hA,k⟩=>by cases hc;exact ⟨bad,be,nm,rw,ln,wd,L,h,N,_,ps,_,_,e,G,rfl,trivial,k⟩⟩
theorem Nv (T:Txt K mg a):qK P w K mg base a 1 a.mI a.pH 6 (CW K a):=⟨Js T,T.wG.kp,T.Aj,λvs H Q E ⟨bad,be,nm,rw,ln,wd,L,h,N,xs,ps,rs,c,e,G,hc,hA,k⟩=>by cases hc;exact ⟨bad,be,nm,rw,ln,wd,L,h,N,_,ps,_,_,e,G,⟨_,_,_,_,_,_,rfl,rfl,rfl⟩,trivial,k⟩⟩
theorem ON (T:Txt K mg a):qK P w K mg base a 2 a.mE a.o8 3 (CJ K a):=⟨IS T,T.v7.kp,T.Ai,λvs H Q E ⟨bad,be,nm,rw,ln,wd,L,h,N,xs,ps,rs,c,e,G,hc,hA,k⟩=>by cases hc;exact ⟨bad,be,nm,rw,ln,wd,L,h,N,_,ps,_,_,e,G,⟨_,_,_,rfl,rfl,rfl⟩,hA (by decide),k⟩⟩
theorem MH (T:Txt K mg a):qK P w K mg base a 3 a.kK a.m8 3 (AV K a):=⟨Hy T,T.tF.kp,T.x8,λvs H Q E ⟨bad,be,nm,rw,ln,wd,L,h,N,xs,ps,rs,c,e,G,hc,hA,k⟩=>by cases hc;exact ⟨bad,be,nm,rw,ln,wd,L,h,N,_,ps,_,_,e,G,⟨_,_,rfl,rfl⟩,hA (by decide),k⟩⟩
theorem JR (T:Txt K mg a):qK P w K mg base a 4 a.ia a.jH 3 (yr K a):=⟨Fl T,T.pZ.kp,T.vf,λvs H Q E ⟨bad,be,nm,rw,ln,wd,L,h,N,xs,ps,rs,c,e,G,hc,hA,k⟩=>by cases hc;exact ⟨bad,be,nm,rw,ln,wd,L,h,N,_,ps,_,_,e,G,⟨_,_,rfl,rfl⟩,hA (by decide),k⟩⟩
theorem LO (T:Txt K mg a):qK P w K mg base a 5 a.k9 a.m9 7 (AY K a):=⟨Hq T,T.uj.kp,T.yG,λvs H Q E ⟨bad,be,nm,rw,ln,wd,L,h,N,xs,ps,rs,c,e,G,hc,hA,k⟩=>by cases hc;exact ⟨bad,be,nm,rw,ln,wd,L,h,N,_,ps,_,_,e,G,⟨_,_,rfl,rfl⟩,hA (by decide),k⟩⟩
theorem OX (T:Txt K mg a):qK P w K mg base a 6 a.mD a.o9 3 (Cy K a):=⟨IH T,T.wM.kp,T.zS,λvs H Q E ⟨bad,be,nm,rw,ln,wd,L,h,N,xs,ps,rs,c,e,G,hc,hA,k⟩=>by cases hc;exact ⟨bad,be,nm,rw,ln,wd,L,h,N,_,ps,_,_,e,G,⟨_,_,rfl,rfl⟩,hA (by decide),k⟩⟩
theorem GG (T:Txt K mg a):qK P w K mg base a 7 a.fL a.iO 7 (wQ K a):=⟨C6 T,T.ou.kp,T.rS,λvs H Q E ⟨bad,be,nm,rw,ln,wd,L,h,N,xs,ps,rs,c,e,G,hc,hA,k⟩=>by cases hc;exact ⟨bad,be,nm,rw,ln,wd,L,h,N,_,ps,_,_,e,G,⟨_,rfl,rfl⟩,hA (by decide),k⟩⟩
theorem MX (T:Txt K mg a):qK P w K mg base a 8 a.kT a.ni 2 (AJ K a):=⟨Hl T,T.tW.kp,T.xn,λvs H Q E ⟨bad,be,nm,rw,ln,wd,L,h,N,xs,ps,rs,c,e,G,hc,hA,k⟩=>by cases hc;exact ⟨bad,be,nm,rw,ln,wd,L,h,N,_,ps,_,_,e,G,⟨_,rfl,rfl⟩,hA (by decide),k⟩⟩
theorem I0 (T:Txt K mg a):qK P w K mg base a 9 a.gT a.jI 3 (yj K a):=⟨EA T,T.p3.kp,T.vh,λvs H Q E ⟨bad,be,nm,rw,ln,wd,L,h,N,xs,ps,rs,c,e,G,hc,hA,k⟩=>by cases hc;exact ⟨bad,be,nm,rw,ln,wd,L,h,N,_,ps,_,_,e,G,⟨_,rfl,rfl⟩,trivial,k⟩⟩
theorem Ms (T:Txt K mg a):qK P w K mg base a 10 a.j6 a.mR 6 (AE K a):=⟨Hh T,T.tX.kp,T.yZ,λvs H Q E ⟨bad,be,nm,rw,ln,wd,L,h,N,xs,ps,rs,c,e,G,hc,hA,k⟩=>by cases hc;exact ⟨bad,be,nm,rw,ln,wd,L,h,N,_,ps,_,_,e,G,⟨_,_,rfl,rfl⟩,hA (by decide),k⟩⟩
theorem J9 (T:Txt K mg a):qK P w K mg base a 11 a.jj a.lB 2 (zA K a):=⟨FC T,T.rh.kp,T.wy,λvs H Q E ⟨bad,be,nm,rw,ln,wd,L,h,N,xs,ps,rs,c,e,G,hc,hA,k⟩=>by cases hc;exact ⟨bad,be,nm,rw,ln,wd,L,h,N,_,ps,_,_,e,G,rfl,hA (by decide),k⟩⟩
theorem MJ (T:Txt K mg a):qK P w K mg base a 12 a.kf a.mX 2 (Bu K a):=⟨G7 T,T.ub.kp,T.yM,λvs H Q E ⟨bad,be,nm,rw,ln,wd,L,h,N,xs,ps,rs,c,e,G,hc,hA,k⟩=>by cases hc;exact ⟨bad,be,nm,rw,ln,wd,L,h,N,_,ps,_,_,e,G,rfl,trivial,k⟩⟩
theorem LQ (T:Txt K mg a):qK P w K mg base a 13 a.k8 a.mU 2 (Bk K a):=⟨HG T,T.tG.kp,T.yJ,λvs H Q E ⟨bad,be,nm,rw,ln,wd,L,h,N,xs,ps,rs,c,e,G,hc,hA,k⟩=>by cases hc;exact ⟨bad,be,nm,rw,ln,wd,L,h,N,_,ps,_,_,e,G,⟨_,rfl,rfl⟩,trivial,k⟩⟩
theorem Hm (T:Txt K mg a):qK P w K mg base a 14 a.fC a.i0 3 (wZ K a):=⟨C2 T,T.nu.kp,T.sQ,λvs H Q E ⟨bad,be,nm,rw,ln,wd,L,h,N,xs,ps,rs,c,e,G,hc,hA,k⟩=>by cases hc;exact ⟨bad,be,nm,rw,ln,wd,L,h,N,_,ps,_,_,e,G,⟨_,rfl,rfl⟩,hA (by decide),k⟩⟩
theorem IY (T:Txt K mg a):qK P w K mg base a 15 a.gX a.jL 3 (yX K a):=⟨ER T,T.pP.kp,T.uG,λvs H Q E ⟨bad,be,nm,rw,ln,wd,L,h,N,xs,ps,rs,c,e,G,hc,hA,k⟩=>by cases hc;exact ⟨bad,be,nm,rw,ln,wd,L,h,N,_,ps,_,_,e,G,⟨_,rfl,rfl⟩,hA (by decide),k⟩⟩
theorem Ks (T:Txt K mg a):qK P w K mg base a 16 a.jh a.lJ 5 (zp K a):=⟨FA T,T.rk.kp,T.wq,λvs H Q E ⟨bad,be,nm,rw,ln,wd,L,h,N,xs,ps,rs,c,e,G,hc,hA,k⟩=>by cases hc;exact ⟨bad,be,nm,rw,ln,wd,L,h,N,_,ps,_,_,e,G,⟨_,rfl,rfl⟩,hA (by decide),k⟩⟩
theorem JY (T:Txt K mg a):qK P w K mg base a 17 a.ji a.lI 3 (zt K a):=⟨Fw T,T.rj.kp,T.wx,λvs H Q E ⟨bad,be,nm,rw,ln,wd,L,h,N,xs,ps,rs,c,e,G,hc,hA,k⟩=>by cases hc;exact ⟨bad,be,nm,rw,ln,wd,L,h,N,_,ps,_,_,e,G,⟨_,_,rfl,rfl⟩,hA (by decide),k⟩⟩
theorem M0 (T:Txt K mg a):qK P w K mg base a 18 a.kI a.nj 6 (Ba K a):=⟨HU T,T.ud.kp,T.xK,λvs H Q E ⟨bad,be,nm,rw,ln,wd,L,h,N,xs,ps,rs,c,e,G,hc,hA,k⟩=>by cases hc;exact ⟨bad,be,nm,rw,ln,wd,L,h,N,_,ps,_,_,e,G,⟨_,_,rfl,rfl⟩,hA (by decide),k⟩⟩
theorem LW (T:Txt K mg a):qK P w K mg base a 19 a.kO a.mS 4 (A6 K a):=⟨GW T,T.tM.kp,T.yA,λvs H Q E ⟨bad,be,nm,rw,ln,wd,L,h,N,xs,ps,rs,c,e,G,hc,hA,k⟩=>by cases hc;exact ⟨bad,be,nm,rw,ln,wd,L,h,N,_,ps,_,_,e,G,⟨_,rfl,rfl⟩,hA (by decide),k⟩⟩
theorem IE (T:Txt K mg a):qK P w K mg base a 20 a.gZ a.jJ 3 (yn K a):=⟨Ew T,T.pQ.kp,T.u7,λvs H Q E ⟨bad,be,nm,rw,ln,wd,L,h,N,xs,ps,rs,c,e,G,hc,hA,k⟩=>by cases hc;exact ⟨bad,be,nm,rw,ln,wd,L,h,N,_,ps,_,_,e,G,rfl,hA (by decide),k⟩⟩
theorem JF (T:Txt K mg a):qK P w K mg base a 21 a.gW a.jM 1 (yP K a):=⟨El T,T.pO.kp,T.uL,λvs H Q E ⟨bad,be,nm,rw,ln,wd,L,h,N,xs,ps,rs,c,e,G,hc,hA,k⟩=>by cases hc;exact ⟨bad,be,nm,rw,ln,wd,L,h,N,_,ps,_,_,e,G,rfl,trivial,k⟩⟩
theorem Mx (T:Txt K mg a):qK P w K mg base a 22 a.kR a.mV 4 (A9 K a):=⟨Ib T,T.ui.kp,T.yS,λvs H Q E ⟨bad,be,nm,rw,ln,wd,L,h,N,xs,ps,rs,c,e,G,hc,hA,k⟩=>by cases hc;exact ⟨bad,be,nm,rw,ln,wd,L,h,N,_,ps,_,_,e,G,⟨_,rfl,rfl⟩,hA (by decide),k⟩⟩
theorem Gw (T:Txt K mg a):∀ i,i < 12->∃ f fd k sp,k<=9/\valueAt (Fh a) (Sum.inl ((i:Nat):Int))=some (.ref f)/\qK P w K mg base a i f fd k sp
 | 0,_=>⟨_,_,_,_,by decide,rfl,J7 T⟩
 | 1,_=>⟨_,_,_,_,by decide,rfl,Nv T⟩
 | 2,_=>⟨_,_,_,_,by decide,rfl,ON T⟩
 | 3,_=>⟨_,_,_,_,by decide,rfl,MH T⟩
 | 4,_=>⟨_,_,_,_,by decide,rfl,JR T⟩
 | 5,_=>⟨_,_,_,_,by decide,rfl,LO T⟩
 | 6,_=>⟨_,_,_,_,by decide,rfl,OX T⟩
 | 7,_=>⟨_,_,_,_,by decide,rfl,GG T⟩
 | 8,_=>⟨_,_,_,_,by decide,rfl,MX T⟩
 | 9,_=>⟨_,_,_,_,by decide,rfl,I0 T⟩
 | 10,_=>⟨_,_,_,_,by decide,rfl,Ms T⟩
 | 11,_=>⟨_,_,_,_,by decide,rfl,J9 T⟩
 | n+12,h=>absurd h (by omega)
theorem MY (T:Txt K mg a):∀ i,i < 11->∃ f fd k sp,k<=7/\valueAt (Ig a) (Sum.inl ((i+12:Nat):Int))=some (.ref f)/\qK P w K mg base a (i+12) f fd k sp
 | 0,_=>⟨_,_,_,_,by decide,rfl,MJ T⟩
 | 1,_=>⟨_,_,_,_,by decide,rfl,LQ T⟩
 | 2,_=>⟨_,_,_,_,by decide,rfl,Hm T⟩
 | 3,_=>⟨_,_,_,_,by decide,rfl,IY T⟩
 | 4,_=>⟨_,_,_,_,by decide,rfl,Ks T⟩
 | 5,_=>⟨_,_,_,_,by decide,rfl,JY T⟩
 | 6,_=>⟨_,_,_,_,by decide,rfl,M0 T⟩
 | 7,_=>⟨_,_,_,_,by decide,rfl,LW T⟩
 | 8,_=>⟨_,_,_,_,by decide,rfl,IE T⟩
 | 9,_=>⟨_,_,_,_,by decide,rfl,JF T⟩
 | 10,_=>⟨_,_,_,_,by decide,rfl,Mx T⟩
 | n+11,h=>absurd h (by omega)
theorem FX {i:Nat} {xs:List Int} {rs:List (List Int)} {c:Vy} (h:cz i xs rs c):i < 23:=by cases h<;>decide
theorem JK {i:Nat} {xs:List Int} {rs:List (List Int)} {c:Vy} {h:UG} (hc:cz i xs rs c) (hf:¬ i∈free) (hn:h.affair=none):UH h c=UO h (-2):=by
 have oA:∀ f,VV h f=UO h (-2):=λf=>by unfold VV;rw [hn]
 have oH:∀ i f,VJ h i f=UO h (-2):=λi f=>by unfold VJ;exact oA _
 cases hc<;>first | (exact absurd (by decide) hf) | (unfold UH;first | exact oA _ | exact oH _ _)
def AI (K:Uy) (a:bI):Sp:=λvs H Q E=>∃ (i:Nat) (be nm rw:Addr),vs=[.ref be,.int ((i+12:Nat):Int),.ref nm,.ref rw]/\i < 11/\P2 a (i+12) [.ref be,.ref nm,.ref rw] H Q E
theorem Bh (T:Txt K mg a) (Dc:To P w K a):a8 P w K mg base eS 8 a.iB a.iE ["bench","call","numbers","rows"] (AI K a):=by
 refine T.lC.ok tK ?_ ?_
 ·rintro _ _ _ _ ⟨_,_,_,_,rfl,_⟩
  rfl
 ·rintro cdv A outer s H _ Q E hr ⟨i,be,nm,rw,rfl,hi,k⟩
  refine ⟨_,(ah (aP (i:=4) tK.nd rfl (Or.inl rfl) (Ef (AW (by rfl) T.qQ (show RelV (V.ref a.dA) (Value.ref a.dA) from rfl)) (pv 1) (λ_ _=>rfl)))
   (ao (aE (Jk 4 rfl (Or.inl rfl) (aa (pv 0) (aa (pv 2) (aa (pv 3) aj))))))),?_⟩
  obtain ⟨f,fd,kk,sp,hk,hv,pf⟩:=MY (P:=P) (w:=w) (base:=base) T i hi
  refine ⟨_,rfl,a.dA,((i+12:Nat):Int),Ig a,.ref f,_,rfl,rfl,Dc.reads,hv,rfl,?_⟩
  exact ⟨f,fd,_,sp,kk,rfl,pf.ok,hr.mono hk,pf.kp,pf.bi,_,rfl,_,rfl,_,rfl,pf.to _ _ _ _ k⟩
def MG (K:Uy) (a:bI):Sp:=λvs H Q _=>∃ (bad:List Addr) (be nm rw ln wd:Addr) (L:Lay) (h:UG) (N:Nat) (xs:List Int) (ps:List Addr) (rs:List (List Int)) (c:Vy) (i:Nat),
 vs=[.ref be,.int (i:Int),.ref nm,.ref rw]/\Given a bad H be nm rw ln wd L h N xs ps rs/\cz i xs rs c /\
 ∀ (H':Hp) (ln' wd':Addr) (L':Lay) (cc:Addr),Done a bad H be ln wd L h H' ln' wd' L' (UH h c) cc->Q (.ref cc) H'
theorem PV (i:Nat):Lw (.int (i:Int)) (mf free)=decide (i∈free):=by
 have h:∀ u:Nat,((u:Int) == (i:Int))=decide (u=i):=λu=>by
  by_cases e:u=i
  ·rw [e];simp
  ·rw [decide_eq_false e,beq_eq_false_iff_ne.mpr (by omega)]
 unfold Lw mf free
 simp only [UT,Wb,Vv,List.any_nil,N2,Bool.or_false,h]
 by_cases c:i∈[0,1,9,12,13,21]
 ·rw [decide_eq_true c]
  simp only [UL,List.not_mem_nil,or_false] at c
  simp only [Wc,decide_eq_true_eq]
  omega
 ·rw [decide_eq_false c]
  simp only [UL,List.not_mem_nil,or_false] at c
  simp only [Bool.or_eq_false_iff,decide_eq_false_iff_not]
  omega
theorem MP (T:Txt K mg a) (Dc:To P w K a):a8 P w K mg base eS 10 a.yt a.yR ["bench","call","numbers","rows"] (MG K a):=by
 refine T.AN.ok Gi ?_ ?_
 ·rintro _ _ _ _ ⟨_,_,_,_,_,_,_,_,_,_,_,_,_,_,rfl,_⟩
  rfl
 ·rintro cdv A outer s H _ Q E hr ⟨bad,be,nm,rw,ln,wd,L,h,N,xs,ps,rs,c,i,rfl,G,hc,k⟩
  refine ⟨_,(ah (bj (PW.pt (ya (a9 uq (ai (K:=K) (pv 0) rfl) ib (bo _)) (zf (a9 (Gy (K:=K)) (pv 1) (AW (by rfl) T.jb (show RelV (V.ref a.bQ) (Value.ref a.bQ) from rfl)) rfl)))) (ao (aE (aT (aa (aO (by rfl) T.JI) aj)))) aQ)
   (ah (bj (a9 K5 (pv 1) (aO (by rfl) T.Dq) (bo _)) (ao (aE (bE (Bh T Dc) hr.lo rfl T.pF T.lC.kp T.pz .nil aG (aa (pv 0) (aa (pv 1) (aa (pv 2) (aa (pv 3) aj))))))) aQ)
   (ah (aP (i:=4) Gi.nd rfl (Or.inl rfl) (Ef (AW (by rfl) T.GV (show RelV (V.ref a.rF) (Value.ref a.rF) from rfl)) (pv 1) (λ_ _=>rfl)))
   (ao (aE (Jk 4 rfl (Or.inl rfl) (aa (pv 0) (aa (pv 2) (aa (pv 3) aj))))))))),?_⟩
  obtain ⟨dx,hbe⟩:=G.at_.ins
  have hi:=FX hc
  refine ⟨_,rfl,be,a.aL,dx,_,_,rfl,hbe,T.aR,T.aI,rfl,rfl,_,rfl,?_⟩
  cases eA:h.affair with
  | some A =>
   have ev:AB L h=.ref (L.ad .af):=by unfold AB;rw [eA]
   rw [ev]
   have hA:¬ i∈free->vQ h:=λ_=>⟨A,eA⟩
   refine bu (bu ?_)
   refine ⟨_,rfl,_,_,rfl,rfl,_,rfl,?_⟩
   by_cases c12:12<=i
   ·rw [decide_eq_true (show (12:Int)<=(i:Int) by omega)]
    obtain ⟨j,rfl⟩:∃ j,i=j+12:=⟨i - 12,by omega⟩
    exact bc ⟨_,rfl,_,rfl,_,rfl,_,rfl,j,be,nm,rw,rfl,by omega,bad,be,nm,rw,ln,wd,L,h,N,xs,ps,rs,c,rfl,G,hc,hA,k⟩
   ·rw [decide_eq_false (show ¬ (12:Int)<=(i:Int) by omega)]
    obtain ⟨f,fd,kk,sp,hk,hv,pf⟩:=Gw (P:=P) (w:=w) (base:=base) T i (by omega)
    refine bu ⟨_,rfl,a.rF,(i:Int),Fh a,.ref f,_,rfl,rfl,Dc.calls,hv,rfl,?_⟩
    exact ⟨f,fd,_,sp,kk,rfl,pf.ok,hr.mono hk,pf.kp,pf.bi,_,rfl,_,rfl,_,rfl,pf.to _ _ _ _ ⟨bad,be,nm,rw,ln,wd,L,h,N,xs,ps,rs,c,rfl,G,hc,hA,k⟩⟩
  | none =>
   have ev:AB L h=.dH:=by unfold AB;rw [eA]
   rw [ev]
   refine bc ⟨_,rfl,_,_,rfl,.inr (Dc.none_ H),rfl,IA _,_,rfl,?_⟩
   show if (!Lw (.int (i:Int)) (mf free))=true then _ else _
   rw [PV]
   by_cases hf:i∈free
   ·rw [decide_eq_true hf]
    have hA:¬ i∈free->vQ h:=λz=>absurd hf z
    refine bu ?_
    refine ⟨_,rfl,_,_,rfl,rfl,_,rfl,?_⟩
    by_cases c12:12<=i
    ·rw [decide_eq_true (show (12:Int)<=(i:Int) by omega)]
     obtain ⟨j,rfl⟩:∃ j,i=j+12:=⟨i - 12,by omega⟩
     exact bc ⟨_,rfl,_,rfl,_,rfl,_,rfl,j,be,nm,rw,rfl,by omega,bad,be,nm,rw,ln,wd,L,h,N,xs,ps,rs,c,rfl,G,hc,hA,k⟩
    ·rw [decide_eq_false (show ¬ (12:Int)<=(i:Int) by omega)]
     obtain ⟨f,fd,kk,sp,hk,hv,pf⟩:=Gw (P:=P) (w:=w) (base:=base) T i (by omega)
     refine bu ⟨_,rfl,a.rF,(i:Int),Fh a,.ref f,_,rfl,rfl,Dc.calls,hv,rfl,?_⟩
     exact ⟨f,fd,_,sp,kk,rfl,pf.ok,hr.mono hk,pf.kp,pf.bi,_,rfl,_,rfl,_,rfl,pf.to _ _ _ _ ⟨bad,be,nm,rw,ln,wd,L,h,N,xs,ps,rs,c,rfl,G,hc,hA,k⟩⟩
   ·rw [decide_eq_false hf]
    exact bc ⟨nz,λc' hc'=>k _ _ _ _ c' (G.refuse (az.refl H) hc' (JK hc hf eA))⟩
end
end HR
namespace HR
def Fj (rs:List (List Int)):List Int:=rs.flatMap λr=>(r.length:Int)::r
theorem RJ {l x t:List Int} (h:PyFlat.row l=some (x,t)):l=(x.length:Int)::(x++t):=by
 cases l with
 | nil=>cases h
 | cons n r =>
  unfold PyFlat.row at h
  simp only [] at h
  split at h
  ·rename_i c
   cases h
   rw [List.take_append_drop,Va,Ww c.2]
   congr 1
   omega
  ·cases h
theorem LA:∀ (k:Nat) (l:List Int) (xs:List (List Int)) (t:List Int),PyFlat.rows k l=some (xs,t)->xs.length=k/\l=Fj xs++t
 | 0,l,xs,t,h=>by
  unfold PyFlat.rows at h
  cases h
  exact ⟨rfl,rfl⟩
 | k+1,l,xs,t,h=>by
  unfold PyFlat.rows at h
  split at h
  ·cases h
  ·rename_i x s hx
   split at h
   ·cases h
   ·rename_i ys t' hy
    cases h
    obtain ⟨e1,e2⟩:=LA k s ys t hy
    refine ⟨by rw [U0,e1],?_⟩
    rw [RJ hx,e2]
    unfold Fj
    simp
theorem Oo {p:Int} {n k:Nat} {xs:List Int} {rs:List (List Int)} (h:WM p=some (n,k)) (hn:xs.length=n) (hk:rs.length=k) :
  ∃ (i:Nat) (v:Vy),p=(i:Int)/\Aa[i]?=some (n,k)/\cz i xs rs v/\VbapajNeutral.callOf (Wi ((p::xs)::rs))=some v:=by
 unfold WM at h
 by_cases c0:p=0
 ·subst c0
  rw [if_pos rfl] at h
  cases h
  match xs,rs,hn,hk with
  | [],[],_,_=>exact ⟨0,_,rfl,rfl,.clear,rfl⟩
 rw [if_neg c0] at h
 by_cases c1:p=1
 ·subst c1
  rw [if_pos rfl] at h
  cases h
  match xs,rs,hn,hk with
  | [x0,x1,x2,x3],[r0,r1],_,_=>exact ⟨1,_,rfl,rfl,.new _ _ _ _ _ _,rfl⟩
 rw [if_neg c1] at h
 by_cases c2:p=2
 ·subst c2
  rw [if_pos rfl] at h
  cases h
  match xs,rs,hn,hk with
  | [x0,x1],[r0],_,_=>exact ⟨2,_,rfl,rfl,.lie _ _ _,rfl⟩
 rw [if_neg c2] at h
 by_cases c3:p=3
 ·subst c3
  rw [if_pos rfl] at h
  cases h
  match xs,rs,hn,hk with
  | [x0,x1],[],_,_=>exact ⟨3,_,rfl,rfl,.mute _ _,rfl⟩
 rw [if_neg c3] at h
 by_cases c4:p=4
 ·subst c4
  rw [if_pos rfl] at h
  cases h
  match xs,rs,hn,hk with
  | [x0,x1],[],_,_=>exact ⟨4,_,rfl,rfl,.honest _ _,rfl⟩
 rw [if_neg c4] at h
 by_cases c5:p=5
 ·subst c5
  rw [if_pos rfl] at h
  cases h
  match xs,rs,hn,hk with
  | [x0,x1],[],_,_=>exact ⟨5,_,rfl,rfl,.pair _ _,rfl⟩
 rw [if_neg c5] at h
 by_cases c6:p=6
 ·subst c6
  rw [if_pos rfl] at h
  cases h
  match xs,rs,hn,hk with
  | [x0,x1],[],_,_=>exact ⟨6,_,rfl,rfl,.say _ _,rfl⟩
 rw [if_neg c6] at h
 by_cases c7:p=7
 ·subst c7
  rw [if_pos rfl] at h
  cases h
  match xs,rs,hn,hk with
  | [x0],[],_,_=>exact ⟨7,_,rfl,rfl,.deliver _,rfl⟩
 rw [if_neg c7] at h
 by_cases c8:p=8
 ·subst c8
  rw [if_pos rfl] at h
  cases h
  match xs,rs,hn,hk with
  | [x0],[],_,_=>exact ⟨8,_,rfl,rfl,.lose _,rfl⟩
 rw [if_neg c8] at h
 by_cases c9:p=9
 ·subst c9
  rw [if_pos rfl] at h
  cases h
  match xs,rs,hn,hk with
  | [x0],[],_,_=>exact ⟨9,_,rfl,rfl,.double _,rfl⟩
 rw [if_neg c9] at h
 by_cases c10:p=10
 ·subst c10
  rw [if_pos rfl] at h
  cases h
  match xs,rs,hn,hk with
  | [x0,x1],[],_,_=>exact ⟨10,_,rfl,rfl,.hush _ _,rfl⟩
 rw [if_neg c10] at h
 by_cases c11:p=11
 ·subst c11
  rw [if_pos rfl] at h
  cases h
  match xs,rs,hn,hk with
  | [],[],_,_=>exact ⟨11,_,rfl,rfl,.close,rfl⟩
 rw [if_neg c11] at h
 by_cases c12:p=12
 ·subst c12
  rw [if_pos rfl] at h
  cases h
  match xs,rs,hn,hk with
  | [],[],_,_=>exact ⟨12,_,rfl,rfl,.line,rfl⟩
 rw [if_neg c12] at h
 by_cases c13:p=13
 ·subst c13
  rw [if_pos rfl] at h
  cases h
  match xs,rs,hn,hk with
  | [x0],[],_,_=>exact ⟨13,_,rfl,rfl,.word _,rfl⟩
 rw [if_neg c13] at h
 by_cases c14:p=14
 ·subst c14
  rw [if_pos rfl] at h
  cases h
  match xs,rs,hn,hk with
  | [x0],[],_,_=>exact ⟨14,_,rfl,rfl,.dispute _,rfl⟩
 rw [if_neg c14] at h
 by_cases c15:p=15
 ·subst c15
  rw [if_pos rfl] at h
  cases h
  match xs,rs,hn,hk with
  | [x0],[],_,_=>exact ⟨15,_,rfl,rfl,.agreed _,rfl⟩
 rw [if_neg c15] at h
 by_cases c16:p=16
 ·subst c16
  rw [if_pos rfl] at h
  cases h
  match xs,rs,hn,hk with
  | [x0],[],_,_=>exact ⟨16,_,rfl,rfl,.truth _,rfl⟩
 rw [if_neg c16] at h
 by_cases c17:p=17
 ·subst c17
  rw [if_pos rfl] at h
  cases h
  match xs,rs,hn,hk with
  | [x0,x1],[],_,_=>exact ⟨17,_,rfl,rfl,.heard _ _,rfl⟩
 rw [if_neg c17] at h
 by_cases c18:p=18
 ·subst c18
  rw [if_pos rfl] at h
  cases h
  match xs,rs,hn,hk with
  | [x0,x1],[],_,_=>exact ⟨18,_,rfl,rfl,.says _ _,rfl⟩
 rw [if_neg c18] at h
 by_cases c19:p=19
 ·subst c19
  rw [if_pos rfl] at h
  cases h
  match xs,rs,hn,hk with
  | [x0],[],_,_=>exact ⟨19,_,rfl,rfl,.host _,rfl⟩
 rw [if_neg c19] at h
 by_cases c20:p=20
 ·subst c20
  rw [if_pos rfl] at h
  cases h
  match xs,rs,hn,hk with
  | [],[],_,_=>exact ⟨20,_,rfl,rfl,.affair,rfl⟩
 rw [if_neg c20] at h
 by_cases c21:p=21
 ·subst c21
  rw [if_pos rfl] at h
  cases h
  match xs,rs,hn,hk with
  | [],[],_,_=>exact ⟨21,_,rfl,rfl,.counts,rfl⟩
 rw [if_neg c21] at h
 by_cases c22:p=22
 ·subst c22
  rw [if_pos rfl] at h
  cases h
  match xs,rs,hn,hk with
  | [],[r0],_,_=>exact ⟨22,_,rfl,rfl,.work _,rfl⟩
 rw [if_neg c22] at h
 cases h
theorem Kv {f:Nat} {l:List Int} {cs:List (List (List Int))} (h:Wz WM f l=some cs) (hl:l≠[]) :
  ∃ (i:Nat) (xs:List Int) (rs:List (List Int)) (s:Nat × Nat) (v:Vy) (t:List Int) (f':Nat) (cs':List (List (List Int))),l=(i:Int)::(xs++(Fj rs++t))/\Aa[i]?=some s/\xs.length=s.1/\rs.length=s.2/\cz i xs rs v/\cs=(((i:Int)::xs)::rs)::cs' /\
   VbapajNeutral.callOf (Wi (((i:Int)::xs)::rs))=some v/\Wz WM f' t=some cs':=by
 cases l with
 | nil=>exact absurd rfl hl
 | cons p r =>
  cases f with
  | zero=>unfold Wz at h;cases h
  | succ f =>
   unfold Wz at h
   split at h
   ·cases h
   ·rename_i c t hc
    split at h
    ·cases h
    ·rename_i cs' hcs
     cases h
     unfold PyFlat.call at hc
     simp only [] at hc
     split at hc
     ·cases hc
     ·rename_i n k hs
      split at hc
      ·cases hc
      ·rename_i hn
       split at hc
       ·cases hc
       ·rename_i rs t' hr
        cases hc
        obtain ⟨e1,e2⟩:=LA k (r.drop n) rs t hr
        have hx:(r.take n).length=n:=by rw [Va];omega
        obtain ⟨i,v,rfl,q1,q2,q3⟩:=Oo (xs:=r.take n) (rs:=rs) hs hx e1
        refine ⟨i,r.take n,rs,(n,k),v,t,f,cs',?_,q1,hx,e1,q2,rfl,q3,hcs⟩
        rw [<- e2,List.take_append_drop]
theorem J6 {c:List (List Int)} {i:Nat} {xs:List Int} {rs:List (List Int)} {v:Vy} (hc:cz i xs rs v) (h:PyInside.call PyVbapaj.bound (((i:Int)::xs)::rs)=true):∀ r∈rs,r.length<=100:=by
 have key1:∀ lo hi (n m:Nat) (l:List Int),m<=100->WA [(lo,hi,n,m)] [l]=true->l.length<=100:=λlo hi n m l hm q=>by
  unfold WA at q
  simp only [UN,decide_eq_true_eq] at q
  omega
 have key2:∀ lo hi (n m:Nat) lo' hi' (n' m':Nat) (l l':List Int),m<=100->m'<=100->WA [(lo,hi,n,m),(lo',hi',n',m')] [l,l']=true->l.length<=100/\l'.length<=100:=λlo hi n m lo' hi' n' m' l l' hm hm' q=>by
  unfold WA at q
  simp only [UN,decide_eq_true_eq] at q
  have q2:=key1 lo' hi' n' m' l' hm' q.2
  exact ⟨by omega,q2⟩
 intro r hr
 cases hc<;>first | (cases hr;done) | skip
 ·rename_i t k n st p b
  have h2:WA [(-1000000000000000000,1000000000000000000,0,100),(-1000000000000000000,1000000000000000000,0,20)] [p,b]=true:=(UN _ _ ▸ h:_/\_).2
  obtain ⟨q1,q2⟩:=key2 _ _ _ _ _ _ _ _ _ _ (by decide) (by decide) h2
  rcases UL.mp hr with rfl | hr
  ·exact q1
  ·rw [UE.mp hr];exact q2
 ·rename_i i t l
  have h2:WA [(-1000000000000000000,1000000000000000000,0,20)] [l]=true:=(UN _ _ ▸ h:_/\_).2
  rw [UE.mp hr]
  exact key1 _ _ _ _ _ (by decide) h2
 ·rename_i l
  have h2:WA [(-1000000000000000000,1000000000000000000,0,20)] [l]=true:=h
  rw [UE.mp hr]
  exact key1 _ _ _ _ _ (by decide) h2
end HR
namespace HR
open PySem PySem.Spec L2
open PyProof.Rows hiding St
def Q0 (K:Uy) (H:Hp) (cl:Addr) (xs:List V):Prop:=(∃ o,H cl=some (.frz o (.lst xs))) ∨
 ∃ (o:Obj) (its:Array Value) (n:Nat),K.lookup cl=some o/\o.cls=.type "list"/\o.dict=none/\o.data=.seq its n/\its.size<=sizeLine/\Vals xs its.toList
theorem Q0.sq {K:Uy} {H:Hp} {cl:Addr} {xs:List V} (h:Q0 K H cl xs):bf K H cl xs:=by
 rcases h with ⟨o,h⟩ | h
 ·exact .inl (.inr ⟨o,h⟩)
 ·exact .inr h
theorem Q0.keep {K:Uy} {H H':Hp} {cl:Addr} {xs:List V} (h:Q0 K H cl xs) (k:∀ o u,H cl=some (.frz o u)->H' cl=some (.frz o u)):Q0 K H' cl xs:=by
 rcases h with ⟨o,h⟩ | h
 ·exact .inl ⟨o,k _ _ h⟩
 ·exact .inr h
structure zD (a:bI) (K:Uy) (H:Hp) (rd cl:Addr) (pl:Nat) (ns:List Int):Prop where
 is:l0 a H rd cl pl
 fz:Q0 K H cl (ns.map V.int)
section
variable {a:bI} {K:Uy} {H H':Hp} {rd cl:Addr} {pl:Nat} {ns:List Int}
theorem zD.up (R:zD a K H rd cl pl ns) (o:HO):bf K (upd H rd o) cl (ns.map V.int):=by
 obtain ⟨dx,h⟩:=R.is
 refine (R.fz.keep (H':=upd H rd o) λob u e=>?_).sq
 rw [ak (aV e h (by intro z;cases z))]
 exact e
theorem zD.moved {pl':Nat} (R:zD a K H rd cl pl ns) (k:Keeps [rd] H H') (h:l0 a H' rd cl pl'):zD a K H' rd cl pl' ns:=by
 obtain ⟨dx,h1⟩:=R.is
 exact ⟨h,R.fz.keep λob u e=>k _ _ e λm=>by rw [UE.mp m,h1] at e;cases e⟩
theorem zD.same (R:zD a K H rd cl pl ns) (s:az H H'):zD a K H' rd cl pl ns:=by
 obtain ⟨dx,h1⟩:=R.is
 exact ⟨⟨dx,s _ _ h1⟩,R.fz.keep λob u e=>s _ _ e⟩
theorem bq.RK {bad:List Addr} {be ln wd:Addr} {L:Lay} {h:UG} (B:bq a bad H be ln wd L h) (R:l0 a H rd cl pl) (k:Keeps [rd] H H'):bq a bad H' be ln wd L h:=by
 obtain ⟨dr,hr⟩:=R
 obtain ⟨dx,h1⟩:=B.ins
 have kk:∀ b o,H b=some o->(∀ C d v rest,o≠.ins C d (("calls",v)::rest))->H' b=some o:=λb o e n=>k b o e λm=>by
  rw [UE.mp m,hr] at e
  cases e
  exact n _ _ _ _ rfl
 obtain ⟨⟨dl,h2⟩,kvs,h3,_⟩:=id B.line
 refine ⟨⟨dx,kk _ _ h1 (by intro _ _ _ _ z;cases z)⟩,B.line.OQ λb o e c=>kk _ _ e ?_,λA eA=>(B.j5 A eA).OQ λb o e c=>kk _ _ e ?_,B.Qe,B.Iy,λx hx=>?_⟩
 ·rcases c with rfl | rfl | ⟨ys,rfl⟩ | ⟨C,d,v,rest,rfl⟩
  ·rw [h2] at e;cases e;intro _ _ _ _ z;cases z
  ·rw [h3] at e;cases e;intro _ _ _ _ z;cases z
  ·intro _ _ _ _ z;cases z
  ·intro _ _ _ _ z;injection z with _ _ z;injection z with z _;injection z with z _;exact absurd z (by decide)
 ·have F:=B.j5 A eA
  rcases c with ⟨r,hr',rfl⟩ | rfl | ⟨ys,rfl⟩ | ⟨ob,u,rfl⟩ | ⟨⟨ys,rfl⟩,n⟩
  ·intro C d v rest z
   subst z
   exact F.Er hr' e (by decide) (by decide) (by decide) rfl
  ·obtain ⟨d4,h4⟩:=F.run.run
   rw [h4] at e
   cases e
   intro _ _ _ _ z;cases z
  ·intro _ _ _ _ z;cases z
  ·intro _ _ _ _ z;cases z
  ·intro _ _ _ _ z;cases z
 ·obtain ⟨ys,e⟩:=B.zj x hx
  exact ⟨ys,kk _ _ e (by intro _ _ _ _ z;cases z)⟩
theorem bq.T8 {bad:List Addr} {be ln wd:Addr} {L:Lay} {h:UG} (B:bq a bad H be ln wd L h) (R:zD a K H rd cl pl ns):¬ Own L be ln wd h rd/\∀ o u,H cl=some (.frz o u)->¬ Own L be ln wd h cl:=by
 obtain ⟨dr,hr⟩:=R.is
 obtain ⟨dx,h1⟩:=B.ins
 obtain ⟨⟨dl,h2⟩,kvs,h3,_⟩:=B.line
 refine ⟨?_,λo u e=>?_⟩
 ·rintro (rfl | rfl | rfl | ⟨A,r,eA,hr',rfl⟩)
  ·exact kL h1 hr (by decide) rfl
  ·exact kL h2 hr (by decide) rfl
  ·rw [h3] at hr;cases hr
  ·exact (B.j5 A eA).Er hr' hr (by decide) (by decide) (by decide) rfl
 ·rintro (rfl | rfl | rfl | ⟨A,r,eA,hr',rfl⟩)
  ·rw [h1] at e;cases e
  ·rw [h2] at e;cases e
  ·rw [h3] at e;cases e
  ·exact (B.j5 A eA).RT hr' e rfl
end
theorem drop_cons {l t:List Int} {p:Nat} {z:Int} (h:l.drop p=z::t):l[p]?=some z/\l.drop (p+1)=t:=by
 have h1:(l.drop p)[0]?=some z:=by rw [h];rfl
 rw [List.getElem?_drop,Nat.add_zero] at h1
 refine ⟨h1,?_⟩
 rw [<- List.drop_drop,h]
 rfl
theorem IV {l x t:List Int} {p:Nat} (hp:p<=l.length) (h:l.drop p=x++t):p+x.length<=l.length/\(l.drop p).take x.length=x/\l.drop (p+x.length)=t:=by
 have hl:=congrArg List.length h
 rw [WD,Vk] at hl
 exact ⟨by omega,by rw [h,List.take_left],by rw [<- List.drop_drop,h,List.drop_left]⟩
theorem Kk {n j:Nat} {p:Nat->Bool} (hj:j < n) (hp:∀ i,p i=decide (i=j)):(List.range n).find? p=some j:=by
 rw [List.find?_eq_some_iff_append]
 refine ⟨by rw [hp];simp,List.range j,(Wd (j+1) (n - j - 1)),?_,λb hb=>?_⟩
 ·rw [WY,WY,show j::Wd (j+1) (n - j - 1)=Wd j (n - j - 1+1) from (List.range'_succ ..).symm]
  rw [show n=j+(n - j - 1+1) by omega]
  have:=(List.range'_append (s:=0) (m:=j) (n:=n - j - 1+1) (step:=1)).symm
  simp only [Nat.one_mul,Wr] at this
  rw [this]
  congr 2
  omega
 ·have:=U8.mp hb
  rw [hp]
  simp
  omega
theorem Mo {n i:Nat} (f:Nat->Value) (hi:i < n):valueAt ((List.range n).map λ(i:Nat)=>((Sum.inl (i:Int):Key),f i)) (Sum.inl (i:Int))=some (f i):=by
 unfold valueAt
 rw [List.find?_map,Kk hi (p:=(λkv:Key × Value=>decide (kv.1=Sum.inl (i:Int))) ∘ λ(i:Nat)=>((Sum.inl (i:Int):Key),f i)) λj=>BJ j i]
 rfl
theorem JG {i:Nat} {xs:List Int} {rs:List (List Int)} {c:Vy} (h:cz i xs rs c):rs.length<=2:=by cases h<;>simp
theorem OT {rs:List (List Int)} {m:Nat} {r:List Int} (h:rs[m]?=some r):Fj (rs.drop m)=(r.length:Int)::(r++Fj (rs.drop (m+1))):=by
 obtain ⟨h1,h2⟩:=U5.mp h
 rw [List.drop_eq_getElem_cons h1,h2]
 rfl
section
variable {P:Program} {w:World} {K:Uy} {mg:Str->Option Value} {base:Heap} {a:bI}
def Em (K:Uy) (a:bI):Sp:=λvs H Q _=>∃ (bad:List Addr) (be ln wd rd cl:Addr) (L:Lay) (h:UG) (N pl:Nat) (ns xs t:List Int) (rs:List (List Int)) (i:Nat) (s:Nat × Nat) (c:Vy),
 vs=[.ref be,.ref rd]/\bq a bad H be ln wd L h/\oS h N/\N<=400/\zD a K H rd cl pl ns/\pl<=ns.length/\ns.drop pl=(i:Int)::(xs++(Fj rs++t))/\Aa[i]?=some s/\xs.length=s.1/\rs.length=s.2/\cz i xs rs c/\(∀ r∈rs,r.length<=100) /\
 ∀ (H':Hp) (ln' wd':Addr) (L':Lay) (cc:Addr) (pl':Nat),bq a bad H' be ln' wd' L' (UH h c).1->zD a K H' rd cl pl' ns->pl'<=ns.length->pl < pl'->ns.drop pl'=t->(∀ x∈bad,∀ o,H x=some o->H' x=some o)->¬ cc∈bad->H' cc=some (.lst ((u9 (UH h c).2).map V.int))->Q (.ref cc) H'
theorem D9 (T:Txt K mg a) (Dc:To P w K a):a8 P w K mg base eS 11 a.mv a.mj ["bench","reader"] (Em K a):=by
 refine T.pM.ok iJ ?_ ?_
 ·rintro _ _ _ _ ⟨_,_,_,_,_,_,_,_,_,_,_,_,_,_,_,_,_,rfl,_⟩
  rfl
 ·rintro cdv A outer s H _ Q E hr ⟨bad,be,ln,wd,rd,cl,L,h,N,pl,ns,xs,t,rs,i,sh,c,rfl,B,oH,hN,R,hpl,hns,hsh,hx,hrs,hc,hfew,k⟩
  refine ⟨_,(ah (aP (i:=2) iJ.nd rfl (Or.inl rfl) (b7 (pv 1) T.dF T.gG (oV T) hr.lo T.gx .nil aG))
   (ah (aP (i:=3) iJ.nd rfl (Or.inl rfl) (Ef (AW (by rfl) T.Ej (show RelV (V.ref a.qa) (Value.ref a.qa) from rfl)) (pv 2) (λ_ _=>rfl)))
   (ah (aP (i:=4) iJ.nd rfl (Or.inl rfl) (aK (pv 1) T.dF T.jV (rW T) hr.lo T.j0 .nil aG (aa (aM (bR (K:=K)) (pv 3) ax (λ_ _=>rfl)) aj)))
   (ah (A5 (i:=5) rfl iJ.nd rfl rfl (DJ rfl rfl rfl (by decide +kernel)) (FV rfl T.DL (aa (aM (bR (K:=K)) (pv 3) ax (λ_ _=>rfl)) aj)) (fc (own:=[("row",6)]) (by show w8 ["bench","reader","call","shape","numbers","rows","row"] (aq pN) _ _=true;decide +kernel)) (λ_ _ _ _ _=>fq (i:=6) iJ.nd rfl (Or.inl rfl)) (λ_ _ _ _ _=>oy) (λ_ _ _ _ _=>(aK (pv 1) T.dF T.jV (rW T) hr.lo T.j0 .nil aG (aa (b7 (pv 1) T.dF T.gG (oV T) hr.lo T.gx .nil aG) aj))))
   (ao (aE (bE (MP T Dc) hr.lo rfl T.EB T.AN.kp T.E5 .nil aG (aa (pv 0) (aa (pv 2) (aa (pv 4) (aa (pv 5) aj))))))))))),?_⟩
  have hz:=sizeLine_eq
  obtain ⟨d0,q0⟩:=R.is
  obtain ⟨e1,e2⟩:=drop_cons hns
  have hp1:pl+1<=ns.length:=(U5.mp e1).1
  refine ⟨_,rfl,rd,d0,_,rfl,q0,rfl,rd,cl,pl,ns,(i:Int),rfl,R.is,R.fz.sq,R.up,e1,λH1 k1 R1'=>?_⟩
  have R1:=R.moved k1 R1'
  have B1:=B.RK R.is k1
  obtain ⟨sp,hD,hT⟩:=Dc.shapes
  have hi:=FX hc
  refine ⟨_,rfl,a.qa,(i:Int),_,.ref (sp i),_,rfl,rfl,hD,Mo (λi=>Value.ref (sp i)) hi,rfl,?_⟩
  obtain ⟨d1,q1⟩:=R1.is
  obtain ⟨f1,f2,f3⟩:=IV hp1 e2
  refine ⟨_,rfl,rd,d1,_,rfl,q1,rfl,_,rfl,sp i,_,0,_,rfl,rfl,hT i sh hsh H1,at_of (j:=0) rfl rfl,rd,cl,pl+1,sh.1,ns,rfl,R1.is,R1.fz.sq,R1.up,by rw [<- hx];exact f1,λH2 nm k2 hnm R2' h2=>?_⟩
  have R2:=R1.moved k2 R2'
  have B2:=B1.RK R1.is k2
  rw [<- hx,f2] at h2
  rw [<- hx] at R2
  have hr2:=JG hc
  have k12:=k1.trans k2
  refine ⟨_,rfl,sp i,_,1,_,rfl,rfl,hT i sh hsh H2,at_of (j:=1) rfl rfl,(sh.2:Int),rfl,by omega,by omega,λD hDn=>Je (lo:=0) (n:=sh.2) (λm H'=>∃ (ps:List Addr) (pl':Nat),H' D=some (.lst (ps.map V.ref))/\Paired (λp (r:List Int)=>p≠D/\H' p=some (.lst (r.map V.int))) ps (rs.take m)/\zD a K H' rd cl pl' ns/\ns.drop pl'=Fj (rs.drop m)++t/\pl'<=ns.length/\pl < pl'/\Keeps [rd] H2 H') ?_ ?_ ?_⟩
  ·exact ⟨[],pl+1+xs.length,ae,.nil,R2.same (az.laid hDn),f3,f1,by omega,Keeps.same (az.laid hDn)⟩
  ·rintro m H3 hm ⟨ps,pl',g1,g2,R3,g3,g4,g5,k3⟩
   obtain ⟨r,hr⟩:∃ r,rs[m]?=some r:=⟨_,Vo (by omega)⟩
   obtain ⟨d3,q3⟩:=R3.is
   rw [OT hr,List.cons_append,WJ] at g3
   obtain ⟨w1,w2⟩:=drop_cons g3
   have hp3:pl'+1<=ns.length:=(U5.mp w1).1
   obtain ⟨w3,w4,w5⟩:=IV hp3 w2
   refine ⟨rfl,DT ⟨_,rfl,rd,d3,_,rfl,q3,rfl,_,rfl,rd,d3,_,rfl,q3,rfl,rd,cl,pl',ns,(r.length:Int),rfl,R3.is,R3.fz.sq,R3.up,w1,λH4 k4 R4'=>?_⟩⟩
   have R4:=R3.moved k4 R4'
   refine ⟨rd,cl,pl'+1,r.length,ns,rfl,R4.is,R4.fz.sq,R4.up,w3,λH5 c5 k5 hc5 R5' h5=>?_⟩
   have R5:=R4.moved k5 R5'
   rw [w4] at h5
   have off:∀ {b:Addr} {ys:List V},H3 b=some (.lst ys)->H5 b=some (.lst ys):=λ{b ys} e=>(k4.trans k5) _ _ e λz=>by rw [UE.mp z,q3] at e;cases e
   have gD:=off g1
   have pl2:ps.length<=2:=by rw [Paired.length g2,Va];omega
   have cD:c5≠D:=λz=>by
    have e4:H4 D=some (.lst (ps.map V.ref)):=k4 _ _ g1 λz=>by rw [UE.mp z,q3] at g1;cases g1
    rw [z,e4] at hc5;cases hc5
   refine ⟨_,gD,by rw [UA];omega,ps++[c5],pl'+1+r.length,by rw [ae,U1];rfl,?_,⟨?_,?_⟩,w5,w3,by omega,?_⟩
   ·rw [take_snoc hr]
    refine qf (Paired.J8 g2 λp r ⟨n1,e⟩=>⟨n1,by rw [ak n1];exact off e⟩) ⟨cD,by rw [ak cD];exact h5⟩
   ·obtain ⟨d5,q5⟩:=R5.is
    exact ⟨d5,by rw [ak (aV q5 gD (by intro z;cases z))];exact q5⟩
   ·exact R5.fz.keep λob u e=>by rw [ak (aV e gD (by intro z;cases z))];exact e
   ·intro b o e n
    have e5:=(k3.trans (k4.trans k5)) _ _ e n
    rw [ak (λz=>by rw [z,hDn] at e;cases e)]
    exact e5
  ·rintro H3 ⟨ps,pl',g1,g2,R3,g3,g4,g5,k3⟩
   rw [<- hrs,VB] at g2
   rw [<- hrs,List.drop_length] at g3
   have B3:=B2.RK R2.is k3
   obtain ⟨d2,q2⟩:=R2.is
   have nmr:nm≠rd:=aV h2 q2 (by intro z;cases z)
   have hnm3:H3 nm=some (.lst (xs.map V.int)):=k3 _ _ h2 λz=>nmr (UE.mp z)
   have G:Given a bad H3 be nm D ln wd L h N xs ps rs:=⟨B3,oH,hN,hnm3,g1,Paired.J8 g2 λp r q=>q.2,hfew⟩
   refine ⟨_,rfl,_,rfl,_,rfl,_,rfl,bad,be,nm,D,ln,wd,L,h,N,xs,ps,rs,c,i,rfl,G,hc,λH' ln' wd' L' cc Dn=>?_⟩
   obtain ⟨n1,n2⟩:=B3.T8 R3
   obtain ⟨d3,q3⟩:=R3.is
   refine k H' ln' wd' L' cc pl' Dn.at_ ⟨⟨d3,Dn.keep _ _ q3 n1⟩,R3.fz.keep λob u e=>Dn.keep _ _ e (n2 _ _ e)⟩ g4 g5 g3 (λx hx o e=>?_) Dn.new Dn.told
   obtain ⟨ys,ey⟩:=B.zj x hx
   rw [e] at ey
   cases ey
   have xr:¬ x∈[rd]:=λz=>by rw [UE.mp z,q0] at e;cases e
   exact Dn.keep _ _ ((k12.trans k3) _ _ e xr) (B3.Qi hx)
end
def Bg (h:UG) (cs:List (List (List Int))):List Int:=PyFlat.told (PyFlat.played WN h (cs.map Wi))
theorem IX {h:UG} {c:List (List Int)} {cs:List (List (List Int))} {v:Vy} (hc:VbapajNeutral.callOf (Wi c)=some v):Bg h (c::cs)=(((u9 (UH h v).2).length:Int)::u9 (UH h v).2)++Bg (UH h v).1 cs:=by
 have e:WN h (Wi c)=((UH h v).1,u9 (UH h v).2):=by
  unfold WN
  rw [hc]
  rfl
 show PyFlat.told ((WN h (Wi c)).2::PyFlat.played WN (WN h (Wi c)).1 (cs.map Wi))=_
 rw [e]
 rfl
def placeOf (rd:Addr) (H:Hp):Nat:=match H rd with
 | some (.ins _ _ [_,(_,.int z)])=>z.toNat
 | _=>0
theorem EK {a:bI} {H:Hp} {rd cl:Addr} {pl:Nat} (h:l0 a H rd cl pl):placeOf rd H=pl:=by
 obtain ⟨dx,e⟩:=h
 unfold placeOf
 rw [e]
 rfl
structure Loop (a:bI) (K:Uy) (H:Hp) (be rd cl gv:Addr) (ns:List Int):Prop where
 ex:∃ (ln wd:Addr) (L:Lay) (h:UG) (N pl f:Nat) (acc:List Int) (cs:List (List (List Int))),bq a [gv] H be ln wd L h/\oS h N/\zD a K H rd cl pl ns/\pl<=ns.length/\Wz WM f (ns.drop pl)=some cs/\N+cs.length<=400/\PyInside.calls PyVbapaj.bound cs=true /\
  H gv=some (.lst (acc.map V.int))/\WQ ns=acc++Bg h cs
theorem IT {ns:List Int} (h:PyVbapaj.answers_asked ns=true):∃ cs,Wz WM ns.length ns=some cs/\cs.length<=400/\PyInside.calls PyVbapaj.bound cs=true/\WQ ns=Bg Vbapaj.empty cs/\(WQ ns).length<=10000000:=by
 unfold PyVbapaj.answers_asked at h
 split at h
 ·cases h
 ·rename_i cs hcs
  simp only [UN] at h
  obtain ⟨⟨⟨⟨_,h2⟩,h3⟩,_⟩,h5⟩:=h
  unfold PyFlat.atMost at h2
  unfold PyFlat.short at h5
  refine ⟨cs,hcs,of_decide_eq_true h2,h3,?_,of_decide_eq_true h5⟩
  unfold WQ PyVbapaj.calls
  rw [hcs]
  rfl
section
variable {P:Program} {w:World} {K:Uy} {mg:Str->Option Value} {base:Heap} {a:bI}
def Ol (K:Uy):Sp:=λvs H Q _=>∃ (cl:Addr) (ns:List Int),vs=[.ref cl]/\Q0 K H cl (ns.map V.int)/\PyVbapaj.answers_asked ns=true /\
 ∀ (H':Hp) (g:Addr),H' g=some (.lst ((WQ ns).map V.int))->Q (.ref g) H'
abbrev Ke (K:Uy) (a:bI):Sp:=Ol K
theorem Ki (T:Txt K mg a) (Dc:To P w K a):a8 P w K mg base eS 12 a.vx a.pA ["calls"] (Ke K a):=by
 refine T.B9.ok sy ?_ ?_
 ·rintro _ _ _ _ ⟨_,_,rfl,_⟩
  rfl
 ·rintro cdv A outer s H _ Q E hr ⟨cl,ns,rfl,hS,hask,k⟩
  refine ⟨_,(ah (aP (i:=1) sy.nd rfl (Or.inl rfl) (rl T.E4 (DS T) hr.lo rfl T.oM T.uO .nil aG (aa (pv 0) aj)))
   (ah (aP (i:=2) sy.nd rfl (Or.inl rfl) (Ek T.Hi (FP T) hr.lo rfl T.y3 T.wH .nil aG))
   (ah (aP (i:=3) sy.nd rfl (Or.inl rfl) (aT aj))
   (ah (EJ PassesOwn.never (ie (bJ (b7 (pv 1) T.dF T.pK (AL T) hr.lo T.oZ .nil aG))) (ah (aP (i:=4) sy.nd rfl (Or.inl rfl) (bE (D9 T Dc) hr.lo rfl T.ux T.pM.kp T.vk .nil aG (aa (pv 2) (aa (pv 1) aj))))
   (ah (bU (Ae (K:=K) Wu PySem.F.slot_list_append PySem.F.type_list_append BO (pv 3) (aa (aU (a7 (K:=K)) (by rfl) T.dO UU (aa (pv 4) aj)) aj)))
   (ao (bU (Ae (K:=K) Wu PySem.F.slot_list_extend PySem.F.type_list_extend BY (pv 3) (aa (pv 4) aj)))))))
   (ao (aE (pv 3))))))),?_⟩
  have hz:=sizeLine_eq
  obtain ⟨cs0,hcs,hcl,hin,hans,hlen⟩:=IT hask
  refine ⟨_,rfl,λrd rdd nrd nrdd nerd=>⟨rd,rdd,cl,rfl,ae,λH1 k1 R1'=>⟨rfl,?_⟩⟩⟩
  have s1:az H H1:=az.made nrd nrdd λb o e n=>k1 b o e λm=>n (UE.mp m)
  have R1:zD a K H1 rd cl 0 ns:=⟨R1',hS.keep λo u e=>s1 _ _ e⟩
  refine λbe bd nbe nbd nebd=>⟨be,bd,rfl,ae,λH2 ln wd L k2 B2'=>⟨rfl,?_⟩⟩
  have s2:az H1 H2:=az.made nbe nbd λb o e n=>k2 b o e λm=>n (UE.mp m)
  have B2:=B2' [] λx hx=>(by cases hx)
  refine ⟨Uj,λgv hgv=>?_⟩
  have s3:=az.laid (o:=.lst []) hgv
  have B3:=B2.same s3
  have B4:bq a [gv] (upd H2 gv (.lst [])) be ln wd L Vbapaj.empty:=⟨B3.ins,B3.line,λA e=>(by cases e),λA r e=>(by cases e),λA r e=>(by cases e),λx hx=>by rw [UE.mp hx];exact ⟨[],ae⟩⟩
  have R4:=(R1.same s2).same s3
  refine Iv (λσ H'=>(∃ v,σ=[some (.ref cl),some (.ref rd),some (.ref be),some (.ref gv),v])/\Loop a K H' be rd cl gv ns) (λσ H'=>ns.length - placeOf rd H') ⟨⟨none,rfl⟩,⟨ln,wd,L,Vbapaj.empty,0,0,ns.length,[],cs0,B4,oS.empty,R4,U9 _,hcs,by omega,hin,ae,hans⟩⟩ ?_ ?_
  ·rintro σ H5 ⟨⟨v,rfl⟩,⟨ln5,wd5,L5,h,N,pl,f,acc,cs,B5,oH,R5,hpl,hcs5,hN,hin5,hg5,ha5⟩⟩
   obtain ⟨d5,q5⟩:=R5.is
   refine ⟨_,rfl,rd,d5,_,rfl,q5,rfl,rd,cl,pl,ns,rfl,R5.is,R5.fz.sq,_,rfl,?_⟩
   by_cases hd:ns.length<=pl
   ·rw [decide_eq_true hd]
    refine bu ⟨_,rfl,k H5 gv ?_⟩
    have e0:ns.drop pl=[]:=WW hd
    rw [e0] at hcs5
    have:cs=[]:=by
     cases f<;>(unfold Wz at hcs5;cases hcs5;rfl)
    rw [this] at ha5
    have e1:Bg h []=[]:=rfl
    rw [e1,Wa] at ha5
    rw [ha5]
    exact hg5
   ·rw [decide_eq_false hd]
    have hne:ns.drop pl≠[]:=λz=>hd (by have:=congrArg List.length z;rw [WD] at this;simp at this;omega)
    obtain ⟨i,xs,rs,sh,c,t,f',cs',e1,e2,e3,e4,e5,e6,e7,e8⟩:=Kv hcs5 hne
    subst e6
    have hN1:N+1+cs'.length<=400:=by rw [U0] at hN;omega
    have hin2:PyInside.call PyVbapaj.bound (((i:Int)::xs)::rs)=true/\PyInside.calls PyVbapaj.bound cs'=true:=by
     unfold PyInside.calls at hin5 ⊢
     rw [WE,UN] at hin5
     exact hin5
    rw [IX e7,<- WJ] at ha5
    have hl6:acc.length+1+(u9 (UH h c).2).length<=10000000:=by
     rw [ha5,Vk,Vk,U0] at hlen
     omega
    refine bc ⟨_,rfl,_,rfl,[gv],be,ln5,wd5,rd,cl,L5,h,N,pl,ns,xs,t,rs,i,sh,c,rfl,B5,oH,by omega,R5,hpl,e1,e2,e3,e4,e5,J6 (c:=[]) e5 hin2.1,λH6 ln6 wd6 L6 cc pl6 B6 R6 hpl6 hlt hdr hbad hcc hcv=>?_⟩
    have hg6:H6 gv=some (.lst (acc.map V.int)):=hbad gv (UE.mpr rfl) _ hg5
    have ncg:cc≠gv:=λz=>hcc (by rw [z];exact UE.mpr rfl)
    refine ⟨_,rfl,.inl ⟨rfl,_,bf.of hg6⟩,_,rfl,cc,_,rfl,.inl (bf.of hcv),gv,_,_,rfl,rfl,hg6,by rw [UA];omega,?_⟩
    have g7:∀ o,upd H6 gv o cc=some (.lst ((u9 (UH h c).2).map V.int)):=λo=>by rw [ak ncg];exact hcv
    refine ⟨_,rfl,.inl ⟨rfl,_,bf.of ae⟩,_,rfl,gv,cc,_,_,rfl,rfl,ae,g7 _,?_,?_⟩
    ·rw [Vk,UA,UA]
     show acc.length+1+_<=_
     omega
    have B7:=(B6.given (g:=gv) (ys:=acc.map V.int++[.int (((u9 (UH h c).2).map V.int).length:Int)]) (UE.mpr rfl)).given (g:=gv) (ys:=(acc.map V.int++[.int (((u9 (UH h c).2).map V.int).length:Int)])++(u9 (UH h c).2).map V.int) (UE.mpr rfl)
    obtain ⟨d6,q6⟩:=R6.is
    have ng:rd≠gv:=aV q6 hg6 (by intro z;cases z)
    have R7:∀ o1 o2,zD a K (upd (upd H6 gv o1) gv o2) rd cl pl6 ns:=λo1 o2=>⟨⟨d6,by rw [ak ng,ak ng];exact q6⟩,R6.fz.keep λob u e=>by
     have nc:cl≠gv:=aV e hg6 (by intro z;cases z)
     rw [ak nc,ak nc];exact e⟩
    refine ⟨⟨⟨_,rfl⟩,⟨ln6,wd6,L6,(UH h c).1,N+1,pl6,f',acc++(((u9 (UH h c).2).length:Int)::u9 (UH h c).2),cs',B7,Nw oH c,R7 _ _,hpl6,by rw [hdr];exact e8,hN1,hin2.2,?_,ha5⟩⟩,?_⟩
    ·rw [ae,U1,UA,WJ]
     rfl
    ·rw [EK (R7 _ _).is,EK R5.is]
     omega
  ·rintro σ H5 Q1 Q2 hq ⟨v,e1,a1,dx1,fs,e2,h1,l1,rd',cl',pl',ns',e3,r1,s9,c1,e4,q⟩
   exact ⟨v,e1,a1,dx1,fs,e2,h1,l1,rd',cl',pl',ns',e3,r1,s9,c1,e4,hq _ _ q⟩
end
theorem cC {K:Uy} {h:Heap} {mg:Str->Option Value} (X:K.In h) (G:h.Ns mainGlobals mg) (x:Str) (st:Stmt) (ps:List Str) (hb:∀ (kV doc pm:Value) (an:Option Addr) (cdv ct:Value) (us:List Value),us.length=ps.length->bindArgs (VP x x (pY st) (oJ st) (aq st) .none kV doc pm an cdv ct) ⟨us,[]⟩=pure (ps.zip us)) {f:Addr} {od an:Option Addr} {sl:Array (Option Value)} {oc kV dc pm cd ct:Value} (e:UY K mainGlobals x=some (some (.ref f)):=by k_is) (l:K.lookup f=some ⟨oc,od,.func (VP x x (pY st) (oJ st) (aq st) .none kV dc pm an cd ct),sl⟩:=by k_is) (c:WC K cd x=true:=by k_is) (k:VS K (.ref f)=true:=by k_is):∃ (f:Addr) (fd:FuncData),mg x=some (.ref f)/\eO K x x st f fd/\Binds K fd ps []/\∀ (s:Shared) (us:List Value),us.length=ps.length->BindsTo s fd ⟨us,[]⟩ (ps.zip us):=by
 have F:=J3 (st:=st) l c k
 exact ⟨f,_,UM X G e,F,F.binds hb,λs us hu=>.of_eq (hb _ _ _ _ _ _ us hu)⟩
theorem HL {K:Uy} {h:Heap} {mg:Str->Option Value} (X:K.In h) (G:h.Ns mainGlobals mg) (n:Str) {C:Addr} (e:UY K mainGlobals n=some (some (.ref C)):=by k_is) (pg:WO K C Str.empty=true:=by k_is) (hd:PySem.W.hasDictIn K C=true:=by k_is) (po:PySem.W.plainOver K C=true:=by k_is) (sa:VD K (.ref C) "__setattr__"=some (some (.builtin "object.__setattr__")):=by k_is):∃ C,mg n=some (.ref C)/\Fs K C:=⟨C,UM X G e,⟨pg,hd,po,sa⟩⟩
theorem ja {K:Uy} {h:Heap} {mg:Str->Option Value} (X:K.In h) (G:h.Ns mainGlobals mg) {n t:Str} {D:Addr} (q:mg n=some (.ref D)) {C:Addr} (e:UY K mainGlobals n=some (some (.ref C)):=by k_is) (na:VD K (.ref C) t=some none:=by k_is):bg K D t:=by
 cases q.symm.trans (UM X G e)
 exact na
theorem gS {K:Uy} {h:Heap} {mg:Str->Option Value} (X:K.In h) (G:h.Ns mainGlobals mg) {n:Str} {D:Addr} (q:mg n=some (.ref D)) (m qn:Str) (st:Stmt) (ps:List Str) (hb:∀ (kV doc pm:Value) (an:Option Addr) (cdv ct:Value) (us:List Value),us.length=ps.length->bindArgs (VP m qn (pY st) (oJ st) (aq st) .none kV doc pm an cdv ct) ⟨us,[]⟩=pure (ps.zip us)) {C:Addr} {f:Addr} {od an:Option Addr} {sl:Array (Option Value)} {oc kV dc pm cd ct:Value} (e:UY K mainGlobals n=some (some (.ref C)):=by k_is) (a:VD K (.ref C) m=some (some (.ref f)):=by k_is) (i:PySem.W.isFn K (.ref f)=true:=by k_is) (l:K.lookup f=some ⟨oc,od,.func (VP m qn (pY st) (oJ st) (aq st) .none kV dc pm an cd ct),sl⟩:=by k_is) (c:WC K cd qn=true:=by k_is) (k:VS K (.ref f)=true:=by k_is):∃ (f:Addr) (fd:FuncData),Meth K D m f/\eO K m qn st f fd/\Binds K fd ps []:=by
 cases q.symm.trans (UM X G e)
 have F:=J3 (st:=st) l c k
 exact ⟨f,_,⟨a,i,k⟩,F,F.binds hb⟩
theorem HD {K:Uy} {h:Heap} {mg:Str->Option Value} (X:K.In h) (G:h.Ns mainGlobals mg) {n:Str} {D:Addr} (q:mg n=some (.ref D)) (qn:Str) (st:Stmt) (ps:List Str) (hb:∀ (kV doc pm:Value) (an:Option Addr) (cdv ct:Value) (us:List Value),us.length=ps.length->bindArgs (VP "__init__" qn (pY st) (oJ st) (aq st) .none kV doc pm an cdv ct) ⟨us,[]⟩=pure (ps.zip us)) {C:Addr} {f:Addr} {od an:Option Addr} {sl:Array (Option Value)} {oc kV dc pm cd ct:Value} (e:UY K mainGlobals n=some (some (.ref C)):=by k_is) (a:VD K (.ref C) "__init__"=some (some (.ref f)):=by k_is) (i:PySem.W.isFn K (.ref f)=true:=by k_is) (l:K.lookup f=some ⟨oc,od,.func (VP "__init__" qn (pY st) (oJ st) (aq st) .none kV dc pm an cd ct),sl⟩:=by k_is) (c:WC K cd qn=true:=by k_is) (k:VS K (.ref f)=true:=by k_is) (mk:PySem.W.makesIn K C=true:=by k_is) (kc:VS K (.ref C)=true:=by k_is):∃ (f:Addr) (fd:FuncData),Mk K D f/\eO K "__init__" qn st f fd/\Binds K fd ps []:=by
 cases q.symm.trans (UM X G e)
 have F:=J3 (st:=st) l c k
 exact ⟨f,_,⟨mk,a,i,kc⟩,F,F.binds hb⟩
def JE:List DictEntry->Option (List (Int × Value))
 | []=>some []
 | e::r=>match e.key with
  | .int k _=>if e.hash=hashInt k then (JE r).map λl=>(k,e.val)::l else none
  | _=>none
def OA (l:List (Int × Value)):List (Key × Value):=l.map λp=>(Sum.inl p.1,p.2)
theorem P8 {P:Program} {w:World}:∀ {es:List DictEntry} {l:List (Int × Value)},JE es=some l->(∀ e∈es,∃ k,(aZ P w).is k e.key=true/\e.hash=(aZ P w).hash k)/\Pairs (aZ P w) es (OA l)
 | [],l,h=>by
  cases h
  exact ⟨λe he=>(by cases he),.nil⟩
 | e::r,l,h=>by
  unfold JE at h
  split at h
  ·rename_i k t hk
   split at h
   ·rename_i hh
    cases q:JE r with
    | none=>rw [q] at h;cases h
    | some l' =>
     rw [q] at h
     cases h
     obtain ⟨h1,h2⟩:=P8 (P:=P) (w:=w) q
     have hi:(aZ P w).is (Sum.inl k) e.key=true:=by rw [hk];exact CV P w k t
     refine ⟨λe' he=>?_,.cons hi rfl h2⟩
     rcases UL.mp he with rfl | he
     ·exact ⟨Sum.inl k,hi,hh⟩
     ·exact h1 e' he
   ·cases h
  ·cases h
theorem Kw {P:Program} {w:World} {K:Uy} {p:Addr} {es:Array DictEntry} {ep:Nat} {l:List (Int × Value)} (lk:K.lookup p=some ⟨.type "dict",none,.dict es ep,#[]⟩) (hl:JE es.toList=some l) (hn:((OA l).map (·.1)).Nodup):∀ h:Heap,K.In h->h.DictOf (aZ P w) p (OA l):=λh X=>by
 obtain ⟨h1,h2⟩:=P8 (P:=P) (w:=w) hl
 exact ⟨_,es,ep,X _ _ lk,⟨rfl,rfl,rfl⟩,rfl,λe he=>h1 e (Array.mem_toList_iff.mpr he),h2,hn⟩
def Ey:List Value->Option (List Nat)
 | []=>some []
 | .int (.ofNat n) _::r=>(Ey r).map λl=>n::l
 | _=>none
theorem Gr:∀ {vs:List Value} {l:List Nat},Ey vs=some l->Vals (mf l) vs
 | [],l,h=>by
  cases h
  exact .nil
 | .int (.ofNat n) t::r,l,h=>by
  unfold Ey at h
  cases q:Ey r with
  | none=>rw [q] at h;cases h
  | some l' =>
   rw [q] at h
   cases h
   exact .cons ⟨t,rfl⟩ (Gr q)
theorem Nl {K:Uy} {p:Addr} {od:Option Addr} {sl:Array (Option Value)} {its:Array Value} {n:Nat} {l:List Nat} (lk:K.lookup p=some ⟨.type "tuple",od,.seq its n,sl⟩) (hl:Ey its.toList=some l) (hz:its.size<=sizeLine):∀ H,gc K H p (mf l):=λH=>.inr ⟨_,its,n,lk,rfl,rfl,hz,Gr hl⟩
theorem OJ {P:Program} {w:World} {K:Uy} {h:Heap} {mg:Str->Option Value} (X:K.In h) (G:h.Ns mainGlobals mg) {p f0 f1 f2 f3 f4 f5 f6 f7 f8 f9 f10 f11:Addr} {es:Array DictEntry} {ep:Nat} (e:UY K mainGlobals "CALLS"=some (some (.ref p)):=by k_is) (lk:K.lookup p=some ⟨.type "dict",none,.dict es ep,#[]⟩:=by k_is) (hl:JE es.toList=some [(0,.ref f0),(1,.ref f1),(2,.ref f2),(3,.ref f3),(4,.ref f4),(5,.ref f5),(6,.ref f6),(7,.ref f7),(8,.ref f8),(9,.ref f9),(10,.ref f10),(11,.ref f11)]:=by rfl) (n0:UY K mainGlobals "call_clear"=some (some (.ref f0)):=by k_is) (n1:UY K mainGlobals "call_new"=some (some (.ref f1)):=by k_is) (n2:UY K mainGlobals "call_lie"=some (some (.ref f2)):=by k_is) (n3:UY K mainGlobals "call_mute"=some (some (.ref f3)):=by k_is) (n4:UY K mainGlobals "call_honest"=some (some (.ref f4)):=by k_is) (n5:UY K mainGlobals "call_pair"=some (some (.ref f5)):=by k_is) (n6:UY K mainGlobals "call_say"=some (some (.ref f6)):=by k_is) (n7:UY K mainGlobals "call_deliver"=some (some (.ref f7)):=by k_is) (n8:UY K mainGlobals "call_lose"=some (some (.ref f8)):=by k_is) (n9:UY K mainGlobals "call_double"=some (some (.ref f9)):=by k_is) (n10:UY K mainGlobals "call_hush"=some (some (.ref f10)):=by k_is) (n11:UY K mainGlobals "call_close"=some (some (.ref f11)):=by k_is):∃ p,mg "CALLS"=some (.ref p)/\∀ g0 g1 g2 g3 g4 g5 g6 g7 g8 g9 g10 g11:Addr,mg "call_clear"=some (.ref g0)->mg "call_new"=some (.ref g1)->mg "call_lie"=some (.ref g2)->mg "call_mute"=some (.ref g3)->mg "call_honest"=some (.ref g4)->mg "call_pair"=some (.ref g5)->mg "call_say"=some (.ref g6)->mg "call_deliver"=some (.ref g7)->mg "call_lose"=some (.ref g8)->mg "call_double"=some (.ref g9)->mg "call_hush"=some (.ref g10)->mg "call_close"=some (.ref g11)->∀ h:Heap,K.In h->h.DictOf (aZ P w) p [(Sum.inl 0,.ref g0),(Sum.inl 1,.ref g1),(Sum.inl 2,.ref g2),(Sum.inl 3,.ref g3),(Sum.inl 4,.ref g4),(Sum.inl 5,.ref g5),(Sum.inl 6,.ref g6),(Sum.inl 7,.ref g7),(Sum.inl 8,.ref g8),(Sum.inl 9,.ref g9),(Sum.inl 10,.ref g10),(Sum.inl 11,.ref g11)]:=by
 refine ⟨p,UM X G e,λg0 g1 g2 g3 g4 g5 g6 g7 g8 g9 g10 g11 h0 h1 h2 h3 h4 h5 h6 h7 h8 h9 h10 h11=>?_⟩
 cases h0.symm.trans (UM X G n0)
 cases h1.symm.trans (UM X G n1)
 cases h2.symm.trans (UM X G n2)
 cases h3.symm.trans (UM X G n3)
 cases h4.symm.trans (UM X G n4)
 cases h5.symm.trans (UM X G n5)
 cases h6.symm.trans (UM X G n6)
 cases h7.symm.trans (UM X G n7)
 cases h8.symm.trans (UM X G n8)
 cases h9.symm.trans (UM X G n9)
 cases h10.symm.trans (UM X G n10)
 cases h11.symm.trans (UM X G n11)
 exact Kw lk hl (show (([0,1,2,3,4,5,6,7,8,9,10,11]:List Int).map λk=>(Sum.inl k:Key)).Nodup by decide)
theorem NI {P:Program} {w:World} {K:Uy} {h:Heap} {mg:Str->Option Value} (X:K.In h) (G:h.Ns mainGlobals mg) {p f12 f13 f14 f15 f16 f17 f18 f19 f20 f21 f22:Addr} {es:Array DictEntry} {ep:Nat} (e:UY K mainGlobals "READING_CALLS"=some (some (.ref p)):=by k_is) (lk:K.lookup p=some ⟨.type "dict",none,.dict es ep,#[]⟩:=by k_is) (hl:JE es.toList=some [(12,.ref f12),(13,.ref f13),(14,.ref f14),(15,.ref f15),(16,.ref f16),(17,.ref f17),(18,.ref f18),(19,.ref f19),(20,.ref f20),(21,.ref f21),(22,.ref f22)]:=by rfl) (n12:UY K mainGlobals "call_line"=some (some (.ref f12)):=by k_is) (n13:UY K mainGlobals "call_word"=some (some (.ref f13)):=by k_is) (n14:UY K mainGlobals "call_dispute"=some (some (.ref f14)):=by k_is) (n15:UY K mainGlobals "call_agreed"=some (some (.ref f15)):=by k_is) (n16:UY K mainGlobals "call_truth"=some (some (.ref f16)):=by k_is) (n17:UY K mainGlobals "call_heard"=some (some (.ref f17)):=by k_is) (n18:UY K mainGlobals "call_says"=some (some (.ref f18)):=by k_is) (n19:UY K mainGlobals "call_host"=some (some (.ref f19)):=by k_is) (n20:UY K mainGlobals "call_affair"=some (some (.ref f20)):=by k_is) (n21:UY K mainGlobals "call_counts"=some (some (.ref f21)):=by k_is) (n22:UY K mainGlobals "call_work"=some (some (.ref f22)):=by k_is):∃ p,mg "READING_CALLS"=some (.ref p)/\∀ g12 g13 g14 g15 g16 g17 g18 g19 g20 g21 g22:Addr,mg "call_line"=some (.ref g12)->mg "call_word"=some (.ref g13)->mg "call_dispute"=some (.ref g14)->mg "call_agreed"=some (.ref g15)->mg "call_truth"=some (.ref g16)->mg "call_heard"=some (.ref g17)->mg "call_says"=some (.ref g18)->mg "call_host"=some (.ref g19)->mg "call_affair"=some (.ref g20)->mg "call_counts"=some (.ref g21)->mg "call_work"=some (.ref g22)->∀ h:Heap,K.In h->h.DictOf (aZ P w) p [(Sum.inl 12,.ref g12),(Sum.inl 13,.ref g13),(Sum.inl 14,.ref g14),(Sum.inl 15,.ref g15),(Sum.inl 16,.ref g16),(Sum.inl 17,.ref g17),(Sum.inl 18,.ref g18),(Sum.inl 19,.ref g19),(Sum.inl 20,.ref g20),(Sum.inl 21,.ref g21),(Sum.inl 22,.ref g22)]:=by
 refine ⟨p,UM X G e,λg12 g13 g14 g15 g16 g17 g18 g19 g20 g21 g22 h12 h13 h14 h15 h16 h17 h18 h19 h20 h21 h22=>?_⟩
 cases h12.symm.trans (UM X G n12)
 cases h13.symm.trans (UM X G n13)
 cases h14.symm.trans (UM X G n14)
 cases h15.symm.trans (UM X G n15)
 cases h16.symm.trans (UM X G n16)
 cases h17.symm.trans (UM X G n17)
 cases h18.symm.trans (UM X G n18)
 cases h19.symm.trans (UM X G n19)
 cases h20.symm.trans (UM X G n20)
 cases h21.symm.trans (UM X G n21)
 cases h22.symm.trans (UM X G n22)
 exact Kw lk hl (show (([12,13,14,15,16,17,18,19,20,21,22]:List Int).map λk=>(Sum.inl k:Key)).Nodup by decide)
structure DB (K:Uy) (p:Addr) (m n:Nat):Prop where
 sq:∀ H,gc K H p (mf [m,n])
theorem fI {K:Uy} {p:Addr} {m n:Nat} {od:Option Addr} {sl:Array (Option Value)} {its:Array Value} {c:Nat} (lk:K.lookup p=some ⟨.type "tuple",od,.seq its c,sl⟩:=by k_is) (hl:Ey its.toList=some [m,n]:=by rfl) (hz:its.size<=sizeLine:=by decide):DB K p m n:=⟨Nl lk hl hz⟩
theorem Mc {P:Program} {w:World} {K:Uy} {h:Heap} {mg:Str->Option Value} (X:K.In h) (G:h.Ns mainGlobals mg) {p s0 s1 s2 s3 s4 s5 s6 s7 s8 s9 s10 s11 s12 s13 s14 s15 s16 s17 s18 s19 s20 s21 s22:Addr} {es:Array DictEntry} {ep:Nat} (e:UY K mainGlobals "SHAPES"=some (some (.ref p)):=by k_is) (lk:K.lookup p=some ⟨.type "dict",none,.dict es ep,#[]⟩:=by k_is) (hl:JE es.toList=some [(0,.ref s0),(1,.ref s1),(2,.ref s2),(3,.ref s3),(4,.ref s4),(5,.ref s5),(6,.ref s6),(7,.ref s7),(8,.ref s8),(9,.ref s9),(10,.ref s10),(11,.ref s11),(12,.ref s12),(13,.ref s13),(14,.ref s14),(15,.ref s15),(16,.ref s16),(17,.ref s17),(18,.ref s18),(19,.ref s19),(20,.ref s20),(21,.ref s21),(22,.ref s22)]:=by rfl) (t0:DB K s0 0 0:=by exact HR.fI) (t1:DB K s1 4 2:=by exact HR.fI) (t2:DB K s2 2 1:=by exact HR.fI) (t3:DB K s3 2 0:=by exact HR.fI) (t4:DB K s4 2 0:=by exact HR.fI) (t5:DB K s5 2 0:=by exact HR.fI) (t6:DB K s6 2 0:=by exact HR.fI) (t7:DB K s7 1 0:=by exact HR.fI) (t8:DB K s8 1 0:=by exact HR.fI) (t9:DB K s9 1 0:=by exact HR.fI) (t10:DB K s10 2 0:=by exact HR.fI) (t11:DB K s11 0 0:=by exact HR.fI) (t12:DB K s12 0 0:=by exact HR.fI) (t13:DB K s13 1 0:=by exact HR.fI) (t14:DB K s14 1 0:=by exact HR.fI) (t15:DB K s15 1 0:=by exact HR.fI) (t16:DB K s16 1 0:=by exact HR.fI) (t17:DB K s17 2 0:=by exact HR.fI) (t18:DB K s18 2 0:=by exact HR.fI) (t19:DB K s19 1 0:=by exact HR.fI) (t20:DB K s20 0 0:=by exact HR.fI) (t21:DB K s21 0 0:=by exact HR.fI) (t22:DB K s22 0 1:=by exact HR.fI):∃ p,mg "SHAPES"=some (.ref p)/\∃ sp:Nat->Addr,(∀ h:Heap,K.In h->h.DictOf (aZ P w) p ((List.range 23).map λ(i:Nat)=>((Sum.inl (i:Int):Key),Value.ref (sp i))))/\∀ (i:Nat) (s:Nat × Nat),Aa[i]?=some s->∀ H,gc K H (sp i) [.int (s.1:Int),.int (s.2:Int)]:=by
 refine ⟨p,UM X G e,λi=>[s0,s1,s2,s3,s4,s5,s6,s7,s8,s9,s10,s11,s12,s13,s14,s15,s16,s17,s18,s19,s20,s21,s22].getD i 0,Kw lk hl (show (([0,1,2,3,4,5,6,7,8,9,10,11,12,13,14,15,16,17,18,19,20,21,22]:List Int).map λk=>(Sum.inl k:Key)).Nodup by decide),λi s hs H=>?_⟩
 match i,hs with
 | 0,hs=>cases hs;exact t0.sq H
 | 1,hs=>cases hs;exact t1.sq H
 | 2,hs=>cases hs;exact t2.sq H
 | 3,hs=>cases hs;exact t3.sq H
 | 4,hs=>cases hs;exact t4.sq H
 | 5,hs=>cases hs;exact t5.sq H
 | 6,hs=>cases hs;exact t6.sq H
 | 7,hs=>cases hs;exact t7.sq H
 | 8,hs=>cases hs;exact t8.sq H
 | 9,hs=>cases hs;exact t9.sq H
 | 10,hs=>cases hs;exact t10.sq H
 | 11,hs=>cases hs;exact t11.sq H
 | 12,hs=>cases hs;exact t12.sq H
 | 13,hs=>cases hs;exact t13.sq H
 | 14,hs=>cases hs;exact t14.sq H
 | 15,hs=>cases hs;exact t15.sq H
 | 16,hs=>cases hs;exact t16.sq H
 | 17,hs=>cases hs;exact t17.sq H
 | 18,hs=>cases hs;exact t18.sq H
 | 19,hs=>cases hs;exact t19.sq H
 | 20,hs=>cases hs;exact t20.sq H
 | 21,hs=>cases hs;exact t21.sq H
 | 22,hs=>cases hs;exact t22.sq H
 | n+23,hs=>exact absurd hs (by simp [Aa])
theorem O9 {K:Uy} {h:Heap} {mg:Str->Option Value} (X:K.In h) (G:h.Ns mainGlobals mg) {p:Addr} {od:Option Addr} {sl:Array (Option Value)} {its:Array Value} {n:Nat} (e:UY K mainGlobals "CALLS_WITHOUT_AFFAIR"=some (some (.ref p)):=by k_is) (lk:K.lookup p=some ⟨.type "tuple",od,.seq its n,sl⟩:=by k_is) (hl:Ey its.toList=some [0,1,9,12,13,21]:=by rfl) (hz:its.size<=sizeLine:=by decide):∃ p,mg "CALLS_WITHOUT_AFFAIR"=some (.ref p)/\∀ H,gc K H p (mf free):=⟨p,UM X G e,Nl lk hl hz⟩
theorem Rw {P:Program} {w:World} {K:Uy} {mg:Str->Option Value} {base:Heap} {a:bI} (T:Txt K mg a) (d1:∀ h:Heap,K.In h->h.DictOf (aZ P w) a.rF (Fh a)) (d2:∀ h:Heap,K.In h->h.DictOf (aZ P w) a.dA (Ig a)) (d3:∃ sp:Nat->Addr,(∀ h:Heap,K.In h->h.DictOf (aZ P w) a.qa ((List.range 23).map λ(i:Nat)=>((Sum.inl (i:Int):Key),Value.ref (sp i))))/\∀ (i:Nat) (s:Nat × Nat),Aa[i]?=some s->∀ H,gc K H (sp i) [.int (s.1:Int),.int (s.2:Int)]) (d4:∀ H,gc K H a.bQ (mf free)):a8 P w K mg base eS 12 a.vx a.pA ["calls"] (Ol K):=Ki T ⟨d1,d2,d3,d4⟩
end HR
open PySem PySem.W PyProof.Rows
set_option maxRecDepth 100000 in
set_option maxHeartbeats 0 in
theorem PySem.Challenge.cw_halvedruns_s01_answers_holds : PySem.Challenge.rw_halvedruns_s01_answers.Holds := by
  w_on; k_headS; (case hw => exact ⟨[.list [.int 0]], by decide +kernel, by decide +kernel⟩)
  k_fillS
  refine L2.Kp (r := PySem.Challenge.rw_halvedruns_s01_answers) (k := 12) (CX := L2.eS) (ps := ["calls"]) (sp := HR.Ol) (by decide +kernel) rfl rfl ⟨rfl, by decide, by decide⟩ (fun w h Y => PySem.W.kIn_of Y) ?F ?S (fun _ _ _ _ z => z)
  case F =>
    intro w mg fa h Y KX G hmg
    obtain ⟨bH, ly, eG⟩ := HR.HL KX G "Opening"
    obtain ⟨km, kG, BC, rO, sD⟩ := HR.HD KX G ly "Opening.__init__" HR.tf ["self", "turns", "n"] (fun _ _ _ _ _ _ us hl => match us, hl with | [_, _, _], _ => rfl)
    obtain ⟨gm, gO, nF, nq, nR⟩ := HR.gS KX G ly "is_open" "Opening.is_open" HR.oI ["self"] (fun _ _ _ _ _ _ us hl => match us, hl with | [_], _ => rfl)
    obtain ⟨ay, cn, aA⟩ := HR.HL KX G "Dispute"
    obtain ⟨kJ, kj, Cg, sJ, sN⟩ := HR.HD KX G cn "Dispute.__init__" HR.rN ["self", "first", "second", "beginning", "turns"] (fun _ _ _ _ _ _ us hl => match us, hl with | [_, _, _, _, _], _ => rfl)
    obtain ⟨gE, gi, eI, nN, eE⟩ := HR.gS KX G cn "is_open" "Dispute.is_open" HR.oo ["self"] (fun _ _ _ _ _ _ us hl => match us, hl with | [_], _ => rfl)
    obtain ⟨bL, bN, ck, ee, cg⟩ := HR.gS KX G cn "is_down_to_one_turn" "Dispute.is_down_to_one_turn" HR.eh ["self"] (fun _ _ _ _ _ _ us hl => match us, hl with | [_], _ => rfl)
    obtain ⟨jw, jE, mC, qM, mB⟩ := HR.gS KX G cn "other" "Dispute.other" HR.qV ["self", "host"] (fun _ _ _ _ _ _ us hl => match us, hl with | [_, _], _ => rfl)
    obtain ⟨jC, jD, qE, qU, qy⟩ := HR.gS KX G cn "halve" "Dispute.halve" HR.qF ["self", "first_said", "second_said"] (fun _ _ _ _ _ _ us hl => match us, hl with | [_, _, _], _ => rfl)
    obtain ⟨cu, cB, gU, gY, gR⟩ := HR.gS KX G cn "ask_for_middle" "Dispute.ask_for_middle" HR.ic ["self"] (fun _ _ _ _ _ _ us hl => match us, hl with | [_], _ => rfl)
    obtain ⟨bB, qA, bP⟩ := HR.HL KX G "Host"
    obtain ⟨p8, p6, J4, xO, xD⟩ := HR.HD KX G qA "Host.__init__" HR.yw ["self", "stake"] (fun _ _ _ _ _ _ us hl => match us, hl with | [_, _], _ => rfl)
    obtain ⟨qb, p4, yC, xP, x9⟩ := HR.gS KX G qA "tell" "Host.tell" HR.xZ ["self", "turn", "state"] (fun _ _ _ _ _ _ us hl => match us, hl with | [_, _, _], _ => rfl)
    obtain ⟨i3, iS, pb, pB, pq⟩ := HR.gS KX G qA "take_back" "Host.take_back" HR.pw ["self", "turn"] (fun _ _ _ _ _ _ us hl => match us, hl with | [_, _], _ => rfl)
    obtain ⟨ed, d8, eg, kd, dZ⟩ := HR.gS KX G qA "how_much_told" "Host.how_much_told" HR.gk ["self"] (fun _ _ _ _ _ _ us hl => match us, hl with | [_], _ => rfl)
    obtain ⟨qp, qh, tI, yu, tZ⟩ := HR.gS KX G qA "says" "Host.says" HR.yb ["self", "turn", "run"] (fun _ _ _ _ _ _ us hl => match us, hl with | [_, _, _], _ => rfl)
    obtain ⟨aw, bb, au⟩ := HR.HL KX G "Affair"
    obtain ⟨l7, l5, EM, vm, uW⟩ := HR.HD KX G bb "Affair.__init__" HR.pW ["self", "run", "turns", "k", "n", "stake"] (fun _ _ _ _ _ _ us hl => match us, hl with | [_, _, _, _, _, _], _ => rfl)
    obtain ⟨gu, gz, dv, oC, cW⟩ := HR.gS KX G bb "has_host" "Affair.has_host" HR.nQ ["self", "number"] (fun _ _ _ _ _ _ us hl => match us, hl with | [_, _], _ => rfl)
    obtain ⟨gI, gy, jY, oj, jU⟩ := HR.gS KX G bb "has_turn" "Affair.has_turn" HR.nB ["self", "turn"] (fun _ _ _ _ _ _ us hl => match us, hl with | [_, _], _ => rfl)
    obtain ⟨bY, bV, bA, fM, bz⟩ := HR.gS KX G bb "has_host_and_turn" "Affair.has_host_and_turn" HR.fJ ["self", "number", "turn"] (fun _ _ _ _ _ _ us hl => match us, hl with | [_, _, _], _ => rfl)
    obtain ⟨ef, dY, gw, kQ, gQ⟩ := HR.gS KX G bb "has_dispute" "Affair.has_dispute" HR.kg ["self", "number"] (fun _ _ _ _ _ _ us hl => match us, hl with | [_, _], _ => rfl)
    obtain ⟨gN, gJ, jT, om, j3⟩ := HR.gS KX G bb "has_pair" "Affair.has_pair" HR.oG ["self", "number"] (fun _ _ _ _ _ _ us hl => match us, hl with | [_, _], _ => rfl)
    obtain ⟨eV, fe, bG, lX, bF⟩ := HR.gS KX G bb "dispute_at" "Affair.dispute_at" HR.lR ["self", "number"] (fun _ _ _ _ _ _ us hl => match us, hl with | [_, _], _ => rfl)
    obtain ⟨gK, gF, jX, nG, jW⟩ := HR.gS KX G bb "hosts_in" "Affair.hosts_in" HR.j2 ["self"] (fun _ _ _ _ _ _ us hl => match us, hl with | [_], _ => rfl)
    obtain ⟨jx, jB, gf, qD, gg⟩ := HR.gS KX G bb "is_out" "Affair.is_out" HR.qO ["self", "number"] (fun _ _ _ _ _ _ us hl => match us, hl with | [_, _], _ => rfl)
    obtain ⟨lY, mr, dU, uw, dR⟩ := HR.gS KX G bb "said" "Affair.said" HR.uT ["self", "number", "turn"] (fun _ _ _ _ _ _ us hl => match us, hl with | [_, _, _], _ => rfl)
    obtain ⟨cM, cO, iZ, iC, iU⟩ := HR.gS KX G bb "how_much_heard" "Affair.how_much_heard" HR.eM ["self"] (fun _ _ _ _ _ _ us hl => match us, hl with | [_], _ => rfl)
    obtain ⟨dw, df, fg, jf, fh⟩ := HR.gS KX G bb "open_disputes" "Affair.open_disputes" HR.fi ["self"] (fun _ _ _ _ _ _ us hl => match us, hl with | [_], _ => rfl)
    obtain ⟨b6, b5, b4, fY, b3⟩ := HR.gS KX G bb "open_disputes_of" "Affair.open_disputes_of" HR.dE ["self", "number"] (fun _ _ _ _ _ _ us hl => match us, hl with | [_, _], _ => rfl)
    obtain ⟨cI, cP, iu, iK, iN⟩ := HR.gS KX G bb "are_in_dispute" "Affair.are_in_dispute" HR.eL ["self", "x", "y"] (fun _ _ _ _ _ _ us hl => match us, hl with | [_, _, _], _ => rfl)
    obtain ⟨di, cV, i7, jd, jk⟩ := HR.gS KX G bb "begin_dispute" "Affair.begin_dispute" HR.jg ["self", "first", "second"] (fun _ _ _ _ _ _ us hl => match us, hl with | [_, _, _], _ => rfl)
    obtain ⟨me, mm, uo, vb, vc⟩ := HR.gS KX G bb "hear" "Affair.hear" HR.vi ["self", "number", "turn", "state"] (fun _ _ _ _ _ _ us hl => match us, hl with | [_, _, _, _], _ => rfl)
    obtain ⟨iF, iQ, lL, pL, lF⟩ := HR.gS KX G bb "look_at" "Affair.look_at" HR.pC ["self", "dispute"] (fun _ _ _ _ _ _ us hl => match us, hl with | [_, _], _ => rfl)
    obtain ⟨gC, gL, oN, nv, nV⟩ := HR.gS KX G bb "work_out" "Affair.work_out" HR.jZ ["self", "dispute"] (fun _ _ _ _ _ _ us hl => match us, hl with | [_, _], _ => rfl)
    obtain ⟨du, cZ, i6, i8, i9⟩ := HR.gS KX G bb "put_out_twice" "Affair.put_out_twice" HR.je ["self", "number"] (fun _ _ _ _ _ _ us hl => match us, hl with | [_, _], _ => rfl)
    obtain ⟨cJ, cK, iR, iA, iL⟩ := HR.gS KX G bb "put_out_silent" "Affair.put_out_silent" HR.iy ["self", "dispute_number", "number"] (fun _ _ _ _ _ _ us hl => match us, hl with | [_, _, _], _ => rfl)
    obtain ⟨d9, d7, gB, kW, gH⟩ := HR.gS KX G bb "end_against" "Affair.end_against" HR.j8 ["self", "dispute", "how", "number"] (fun _ _ _ _ _ _ us hl => match us, hl with | [_, _, _, _], _ => rfl)
    obtain ⟨iI, iP, dJ, o5, dM⟩ := HR.gS KX G bb "put_out" "Affair.put_out" HR.pk ["self", "numbers", "winner"] (fun _ _ _ _ _ _ us hl => match us, hl with | [_, _, _], _ => rfl)
    obtain ⟨cQ, cR, iX, iD, iT⟩ := HR.gS KX G bb "leave_disputes" "Affair.leave_disputes" HR.eF ["self"] (fun _ _ _ _ _ _ us hl => match us, hl with | [_], _ => rfl)
    obtain ⟨bK, uU, dD⟩ := HR.HL KX G "Word"
    obtain ⟨p5, qx, ET, xG, qj⟩ := HR.HD KX G uU "Word.__init__" HR.yE ["self", "dispute", "host", "turn", "state"] (fun _ _ _ _ _ _ us hl => match us, hl with | [_, _, _, _, _], _ => rfl)
    obtain ⟨bh, oF, bO⟩ := HR.HL KX G "Line"
    obtain ⟨p9, qv, Ia, xt, ua⟩ := HR.HD KX G oF "Line.__init__" HR.yU ["self"] (fun _ _ _ _ _ _ us hl => match us, hl with | [_], _ => rfl)
    obtain ⟨kb, kY, nk, sU, oK⟩ := HR.gS KX G oF "is_full" "Line.is_full" HR.sF ["self"] (fun _ _ _ _ _ _ us hl => match us, hl with | [_], _ => rfl)
    obtain ⟨su, sj, sC, zL, sG⟩ := HR.gS KX G oF "put" "Line.put" HR.Al ["self", "word"] (fun _ _ _ _ _ _ us hl => match us, hl with | [_, _], _ => rfl)
    obtain ⟨jr, jF, qz, qB, qJ⟩ := HR.gS KX G oF "let_come" "Line.let_come" HR.qL ["self", "number"] (fun _ _ _ _ _ _ us hl => match us, hl with | [_, _], _ => rfl)
    obtain ⟨mq, l8, u6, vd, uV⟩ := HR.gS KX G oF "let_go" "Line.let_go" HR.uS ["self", "number"] (fun _ _ _ _ _ _ us hl => match us, hl with | [_, _], _ => rfl)
    obtain ⟨dI, dG, jN, jO, jP⟩ := HR.gS KX G oF "has_word_about" "Line.has_word_about" HR.fX ["self", "dispute", "host", "turn"] (fun _ _ _ _ _ _ us hl => match us, hl with | [_, _, _, _], _ => rfl)
    obtain ⟨jz, AX, mW⟩ := HR.HL KX G "Run"
    obtain ⟨sX, rV, OH, zP, Aq⟩ := HR.HD KX G AX "Run.__init__" HR.zN ["self", "program", "first"] (fun _ _ _ _ _ _ us hl => match us, hl with | [_, _, _], _ => rfl)
    obtain ⟨kN, la, nM, r9, nX⟩ := HR.gS KX G AX "is_state" "Run.is_state" HR.sS ["self", "row"] (fun _ _ _ _ _ _ us hl => match us, hl with | [_, _], _ => rfl)
    obtain ⟨fQ, fE, fG, mJ, fH⟩ := HR.gS KX G AX "state_behind" "Run.state_behind" HR.mN ["self", "state"] (fun _ _ _ _ _ _ us hl => match us, hl with | [_, _], _ => rfl)
    obtain ⟨lg, k7, ki, sP, kE⟩ := HR.gS KX G AX "state_at" "Run.state_at" HR.sI ["self", "turn"] (fun _ _ _ _ _ _ us hl => match us, hl with | [_, _], _ => rfl)
    obtain ⟨aL, y3, aR⟩ := HR.HL KX G "Bench"
    obtain ⟨nZ, nE, Hi, wb, wH⟩ := HR.HD KX G y3 "Bench.__init__" HR.wD ["self"] (fun _ _ _ _ _ _ us hl => match us, hl with | [_], _ => rfl)
    obtain ⟨bX, oM, dF⟩ := HR.HL KX G "Reader"
    obtain ⟨mi, mh, E4, uN, uO⟩ := HR.HD KX G oM "Reader.__init__" HR.ur ["self", "calls"] (fun _ _ _ _ _ _ us hl => match us, hl with | [_, _], _ => rfl)
    obtain ⟨iW, iG, pK, px, oZ⟩ := HR.gS KX G oM "is_done" "Reader.is_done" HR.pD ["self"] (fun _ _ _ _ _ _ us hl => match us, hl with | [_], _ => rfl)
    obtain ⟨ej, et, gG, lj, gx⟩ := HR.gS KX G oM "read_number" "Reader.read_number" HR.ka ["self"] (fun _ _ _ _ _ _ us hl => match us, hl with | [_], _ => rfl)
    obtain ⟨gn, gA, jV, og, j0⟩ := HR.gS KX G oM "read_row" "Reader.read_row" HR.nD ["self", "length"] (fun _ _ _ _ _ _ us hl => match us, hl with | [_, _], _ => rfl)
    obtain ⟨qi, qw, qg, m7, qc, Z_no_asking⟩ := HR.cC KX G "no_asking" HR.tV ["hosts"] (fun _ _ _ _ _ _ us hl => match us, hl with | [_], _ => rfl)
    obtain ⟨j9, kM, dm, cp, dk, Z_behind_count⟩ := HR.cC KX G "behind_count" HR.sY ["row"] (fun _ _ _ _ _ _ us hl => match us, hl with | [_], _ => rfl)
    obtain ⟨qu, p7, tN, qm, tQ, Z_as_number⟩ := HR.cC KX G "as_number" HR.ye ["holds"] (fun _ _ _ _ _ _ us hl => match us, hl with | [_], _ => rfl)
    obtain ⟨kf, mX, yB, ub, yM, Z_call_line⟩ := HR.cC KX G "call_line" HR.yD ["bench", "numbers", "rows"] (fun _ _ _ _ _ _ us hl => match us, hl with | [_, _, _], _ => rfl)
    obtain ⟨k8, mU, yq, tG, yJ, Z_call_word⟩ := HR.cC KX G "call_word" HR.xR ["bench", "numbers", "rows"] (fun _ _ _ _ _ _ us hl => match us, hl with | [_, _, _], _ => rfl)
    obtain ⟨fC, i0, sx, nu, sQ, Z_call_dispute⟩ := HR.cC KX G "call_dispute" HR.rZ ["bench", "numbers", "rows"] (fun _ _ _ _ _ _ us hl => match us, hl with | [_, _, _], _ => rfl)
    obtain ⟨gX, jL, uM, pP, uG, Z_call_agreed⟩ := HR.cC KX G "call_agreed" HR.uC ["bench", "numbers", "rows"] (fun _ _ _ _ _ _ us hl => match us, hl with | [_, _, _], _ => rfl)
    obtain ⟨jh, lJ, wI, rk, wq, Z_call_truth⟩ := HR.cC KX G "call_truth" HR.vZ ["bench", "numbers", "rows"] (fun _ _ _ _ _ _ us hl => match us, hl with | [_, _, _], _ => rfl)
    obtain ⟨fB, fD, jq, fS, jm, Z_state_or_nothing⟩ := HR.cC KX G "state_or_nothing" HR.mG ["turn", "state"] (fun _ _ _ _ _ _ us hl => match us, hl with | [_, _], _ => rfl)
    obtain ⟨ji, lI, wm, rj, wx, Z_call_heard⟩ := HR.cC KX G "call_heard" HR.wj ["bench", "numbers", "rows"] (fun _ _ _ _ _ _ us hl => match us, hl with | [_, _, _], _ => rfl)
    obtain ⟨kI, nj, x6, ud, xK, Z_call_says⟩ := HR.cC KX G "call_says" HR.xx ["bench", "numbers", "rows"] (fun _ _ _ _ _ _ us hl => match us, hl with | [_, _, _], _ => rfl)
    obtain ⟨kO, mS, xS, tM, yA, Z_call_host⟩ := HR.cC KX G "call_host" HR.xu ["bench", "numbers", "rows"] (fun _ _ _ _ _ _ us hl => match us, hl with | [_, _, _], _ => rfl)
    obtain ⟨gZ, jJ, uR, pQ, u7, Z_call_affair⟩ := HR.cC KX G "call_affair" HR.uJ ["bench", "numbers", "rows"] (fun _ _ _ _ _ _ us hl => match us, hl with | [_, _, _], _ => rfl)
    obtain ⟨gW, jM, uD, pO, uL, Z_call_counts⟩ := HR.cC KX G "call_counts" HR.uF ["bench", "numbers", "rows"] (fun _ _ _ _ _ _ us hl => match us, hl with | [_, _, _], _ => rfl)
    obtain ⟨kR, mV, yx, ui, yS, Z_call_work⟩ := HR.cC KX G "call_work" HR.xJ ["bench", "numbers", "rows"] (fun _ _ _ _ _ _ us hl => match us, hl with | [_, _, _], _ => rfl)
    obtain ⟨iB, iE, pF, lC, pz, Z_answer_reading⟩ := HR.cC KX G "answer_reading" HR.ph ["bench", "call", "numbers", "rows"] (fun _ _ _ _ _ _ us hl => match us, hl with | [_, _, _, _], _ => rfl)
    obtain ⟨mx, l9, l4, jG, l6, Z_are_numbers⟩ := HR.cC KX G "are_numbers" HR.pT ["row"] (fun _ _ _ _ _ _ us hl => match us, hl with | [_], _ => rfl)
    obtain ⟨ow, nA, vX, rB, wg, Z_is_program⟩ := HR.cC KX G "is_program" HR.rC ["row"] (fun _ _ _ _ _ _ us hl => match us, hl with | [_], _ => rfl)
    obtain ⟨eU, eZ, lU, ir, lO, Z_are_first_numbers⟩ := HR.cC KX G "are_first_numbers" HR.lS ["row"] (fun _ _ _ _ _ _ us hl => match us, hl with | [_], _ => rfl)
    obtain ⟨ql, qo, xj, ug, yf, Z_orders_of⟩ := HR.cC KX G "orders_of" HR.tT ["row"] (fun _ _ _ _ _ _ us hl => match us, hl with | [_], _ => rfl)
    obtain ⟨qd, qe, x5, tH, xT, Z_put_value⟩ := HR.cC KX G "put_value" HR.yW ["order", "numbers"] (fun _ _ _ _ _ _ us hl => match us, hl with | [_, _], _ => rfl)
    obtain ⟨jt, ju, qI, my, qS, Z_numbers_after⟩ := HR.cC KX G "numbers_after" HR.qP ["order", "numbers"] (fun _ _ _ _ _ _ us hl => match us, hl with | [_, _], _ => rfl)
    obtain ⟨AU, AG, HS, DI, Ht, Z_jumps⟩ := HR.cC KX G "jumps" HR.GS ["order", "numbers"] (fun _ _ _ _ _ _ us hl => match us, hl with | [_, _], _ => rfl)
    obtain ⟨jn, lH, vU, rD, wu, Z_call_clear⟩ := HR.cC KX G "call_clear" HR.wz ["bench", "numbers", "rows"] (fun _ _ _ _ _ _ us hl => match us, hl with | [_, _, _], _ => rfl)
    obtain ⟨mI, pH, Ah, wG, Aj, Z_call_new⟩ := HR.cC KX G "call_new" HR.Am ["bench", "numbers", "rows"] (fun _ _ _ _ _ _ us hl => match us, hl with | [_, _, _], _ => rfl)
    obtain ⟨Es, Fm, HE, Ex, Hc, Z_tell⟩ := HR.cC KX G "tell" HR.JX ["affair", "numbers", "state"] (fun _ _ _ _ _ _ us hl => match us, hl with | [_, _, _], _ => rfl)
    obtain ⟨mE, o8, As, v7, Ai, Z_call_lie⟩ := HR.cC KX G "call_lie" HR.z9 ["bench", "numbers", "rows"] (fun _ _ _ _ _ _ us hl => match us, hl with | [_, _, _], _ => rfl)
    obtain ⟨kK, m8, yN, tF, x8, Z_call_mute⟩ := HR.cC KX G "call_mute" HR.xm ["bench", "numbers", "rows"] (fun _ _ _ _ _ _ us hl => match us, hl with | [_, _, _], _ => rfl)
    obtain ⟨ia, jH, uK, pZ, vf, Z_call_honest⟩ := HR.cC KX G "call_honest" HR.u0 ["bench", "numbers", "rows"] (fun _ _ _ _ _ _ us hl => match us, hl with | [_, _, _], _ => rfl)
    obtain ⟨kS, lp, sZ, nY, si, Z_pair_refusal⟩ := HR.cC KX G "pair_refusal" HR.rR ["affair", "x", "y"] (fun _ _ _ _ _ _ us hl => match us, hl with | [_, _, _], _ => rfl)
    obtain ⟨k9, m9, yI, uj, yG, Z_call_pair⟩ := HR.cC KX G "call_pair" HR.yT ["bench", "numbers", "rows"] (fun _ _ _ _ _ _ us hl => match us, hl with | [_, _, _], _ => rfl)
    obtain ⟨fR, fF, jc, fP, i5, Z_question_refusal⟩ := HR.cC KX G "question_refusal" HR.mO ["affair", "number", "host"] (fun _ _ _ _ _ _ us hl => match us, hl with | [_, _, _], _ => rfl)
    obtain ⟨mD, o9, z8, wM, zS, Z_call_say⟩ := HR.cC KX G "call_say" HR.z4 ["bench", "numbers", "rows"] (fun _ _ _ _ _ _ us hl => match us, hl with | [_, _, _], _ => rfl)
    obtain ⟨gq, gr, oE, jS, oP, Z_answer_question⟩ := HR.cC KX G "answer_question" HR.nI ["bench", "word"] (fun _ _ _ _ _ _ us hl => match us, hl with | [_, _], _ => rfl)
    obtain ⟨fL, iO, sO, ou, rS, Z_call_deliver⟩ := HR.cC KX G "call_deliver" HR.rK ["bench", "numbers", "rows"] (fun _ _ _ _ _ _ us hl => match us, hl with | [_, _, _], _ => rfl)
    obtain ⟨kT, ni, xH, tW, xn, Z_call_lose⟩ := HR.cC KX G "call_lose" HR.yc ["bench", "numbers", "rows"] (fun _ _ _ _ _ _ us hl => match us, hl with | [_, _, _], _ => rfl)
    obtain ⟨gT, jI, vj, p3, vh, Z_call_double⟩ := HR.cC KX G "call_double" HR.um ["bench", "numbers", "rows"] (fun _ _ _ _ _ _ us hl => match us, hl with | [_, _, _], _ => rfl)
    obtain ⟨kn, kz, sL, nP, sg, Z_hush_refusal⟩ := HR.cC KX G "hush_refusal" HR.sA ["bench", "number", "host"] (fun _ _ _ _ _ _ us hl => match us, hl with | [_, _, _], _ => rfl)
    obtain ⟨j6, mR, yg, tX, yZ, Z_call_hush⟩ := HR.cC KX G "call_hush" HR.xp ["bench", "numbers", "rows"] (fun _ _ _ _ _ _ us hl => match us, hl with | [_, _, _], _ => rfl)
    obtain ⟨jj, lB, wt, rh, wy, Z_call_close⟩ := HR.cC KX G "call_close" HR.rG ["bench", "numbers", "rows"] (fun _ _ _ _ _ _ us hl => match us, hl with | [_, _, _], _ => rfl)
    obtain ⟨yt, yR, EB, AN, E5, Z_answer⟩ := HR.cC KX G "answer" HR.EF ["bench", "call", "numbers", "rows"] (fun _ _ _ _ _ _ us hl => match us, hl with | [_, _, _, _], _ => rfl)
    obtain ⟨mv, mj, ux, pM, vk, Z_answer_next⟩ := HR.cC KX G "answer_next" HR.pN ["bench", "reader"] (fun _ _ _ _ _ _ us hl => match us, hl with | [_, _], _ => rfl)
    obtain ⟨vx, pA, BG, B9, GA, Z_answers⟩ := HR.cC KX G "answers" HR.Ca ["calls"] (fun _ _ _ _ _ _ us hl => match us, hl with | [_], _ => rfl)
    obtain ⟨rF, GV, D1⟩ := HR.OJ (P := PySem.Challenge.rw_halvedruns_s01_answers.prog) (w := w) KX G
    obtain ⟨dA, qQ, D2⟩ := HR.NI (P := PySem.Challenge.rw_halvedruns_s01_answers.prog) (w := w) KX G
    obtain ⟨qa, Ej, D3⟩ := HR.Mc (P := PySem.Challenge.rw_halvedruns_s01_answers.prog) (w := w) KX G
    obtain ⟨bQ, jb, D4⟩ := HR.O9 KX G
    cases hmg.symm.trans BG
    have T : HR.Txt _ mg ⟨bH, ay, bB, aw, bK, bh, jz, aL, bX, qi, qw, km, kG, gm, gO, kJ, kj, gE, gi, bL, bN, jw, jE, jC, jD, cu, cB, p8, p6, qb, p4, i3, iS, ed, d8, qp, qh, l7, l5, gu, gz, gI, gy, bY, bV, ef, dY, gN, gJ, eV, fe, gK, gF, jx, jB, lY, mr, cM, cO, dw, df, b6, b5, cI, cP, di, cV, me, mm, iF, iQ, gC, gL, du, cZ, cJ, cK, d9, d7, iI, iP, cQ, cR, p5, qx, p9, qv, kb, kY, su, sj, jr, jF, mq, l8, dI, dG, j9, kM, qu, p7, kf, mX, k8, mU, fC, i0, gX, jL, jh, lJ, fB, fD, ji, lI, kI, nj, kO, mS, gZ, jJ, gW, jM, kR, mV, iB, iE, mx, l9, ow, nA, eU, eZ, ql, qo, qd, qe, jt, ju, AU, AG, sX, rV, kN, la, fQ, fE, lg, k7, nZ, nE, jn, lH, mI, pH, Es, Fm, mE, o8, kK, m8, ia, jH, kS, lp, k9, m9, fR, fF, mD, o9, gq, gr, fL, iO, kT, ni, gT, jI, kn, kz, j6, mR, jj, lB, yt, yR, mi, mh, iW, iG, ej, et, gn, gA, mv, mj, fa, pA, dA, rF, bQ, qa⟩ := ⟨eG, ly, BC, HR.ja KX G ly, HR.ja KX G ly, HR.ja KX G ly, HR.ja KX G ly, aA, cn, Cg, HR.ja KX G cn, HR.ja KX G cn, HR.ja KX G cn, HR.ja KX G cn, HR.ja KX G cn, HR.ja KX G cn, HR.ja KX G cn, HR.ja KX G cn, HR.ja KX G cn, bP, qA, J4, HR.ja KX G qA, HR.ja KX G qA, HR.ja KX G qA, HR.ja KX G qA, au, bb, EM, HR.ja KX G bb, HR.ja KX G bb, HR.ja KX G bb, HR.ja KX G bb, HR.ja KX G bb, HR.ja KX G bb, HR.ja KX G bb, HR.ja KX G bb, dD, uU, ET, HR.ja KX G uU, HR.ja KX G uU, HR.ja KX G uU, HR.ja KX G uU, bO, oF, Ia, HR.ja KX G oF, HR.ja KX G oF, HR.ja KX G oF, HR.ja KX G oF, mW, AX, OH, HR.ja KX G AX, HR.ja KX G AX, aR, y3, Hi, HR.ja KX G y3, HR.ja KX G y3, dF, oM, E4, HR.ja KX G oM, HR.ja KX G oM, m7, qc, qg, rO, sD, nq, nR, nF, sJ, sN, nN, eE, eI, ee, cg, ck, qM, mB, mC, qU, qy, qE, gY, gR, gU, xO, xD, xP, x9, yC, pB, pq, pb, kd, dZ, eg, yu, tZ, tI, vm, uW, oC, cW, dv, oj, jU, jY, fM, bz, bA, kQ, gQ, gw, om, j3, jT, lX, bF, bG, nG, jW, jX, qD, gg, gf, uw, dR, dU, iC, iU, iZ, jf, fh, fg, fY, b3, b4, iK, iN, iu, jd, jk, i7, vb, vc, uo, pL, lF, lL, nv, nV, oN, i8, i9, i6, iA, iL, iR, kW, gH, gB, o5, dM, dJ, iD, iT, iX, xG, qj, xt, ua, sU, oK, nk, zL, sG, sC, qB, qJ, qz, vd, uV, u6, jO, jP, jN, cp, dk, dm, qm, tQ, tN, ub, yM, yB, tG, yJ, yq, nu, sQ, sx, pP, uG, uM, rk, wq, wI, fS, jm, jq, rj, wx, wm, ud, xK, x6, tM, yA, xS, pQ, u7, uR, pO, uL, uD, ui, yS, yx, lC, pz, pF, jG, l6, l4, rB, wg, vX, ir, lO, lU, ug, yf, xj, tH, xT, x5, my, qS, qI, DI, Ht, HS, zP, Aq, r9, nX, nM, mJ, fH, fG, sP, kE, ki, wb, wH, rD, wu, vU, wG, Aj, Ah, Ex, Hc, HE, v7, Ai, As, tF, x8, yN, pZ, vf, uK, nY, si, sZ, uj, yG, yI, fP, i5, jc, wM, zS, z8, jS, oP, oE, ou, rS, sO, tW, xn, xH, p3, vh, vj, nP, sg, sL, tX, yZ, yg, rh, wy, wt, AN, E5, EB, uN, uO, px, oZ, pK, lj, gx, gG, og, j0, jV, pM, vk, ux, B9, GA, BG, PySem.W.mg_none_of KX G (by k_is), PySem.W.mg_none_of KX G (by k_is), PySem.W.mg_none_of KX G (by k_is), PySem.W.mg_none_of KX G (by k_is), PySem.W.mg_none_of KX G (by k_is), PySem.W.mg_none_of KX G (by k_is), PySem.W.mg_none_of KX G (by k_is), PySem.W.mg_none_of KX G (by k_is), ⟨_, PySem.W.mg_of KX G (by k_is)⟩, ⟨_, PySem.W.mg_of KX G (by k_is)⟩, ⟨_, PySem.W.mg_of KX G (by k_is)⟩, ⟨_, PySem.W.mg_of KX G (by k_is)⟩, ⟨_, PySem.W.mg_of KX G (by k_is)⟩, ⟨_, PySem.W.mg_of KX G (by k_is)⟩, ⟨_, PySem.W.mg_of KX G (by k_is)⟩, ⟨_, PySem.W.mg_of KX G (by k_is)⟩, ⟨_, PySem.W.mg_of KX G (by k_is)⟩, ⟨_, PySem.W.mg_of KX G (by k_is)⟩, ⟨_, PySem.W.mg_of KX G (by k_is)⟩, ⟨_, PySem.W.mg_of KX G (by k_is)⟩, ⟨_, PySem.W.mg_of KX G (by k_is)⟩, ⟨_, PySem.W.mg_of KX G (by k_is)⟩, ⟨_, PySem.W.mg_of KX G (by k_is)⟩, ⟨_, PySem.W.mg_of KX G (by k_is)⟩, ⟨_, PySem.W.mg_of KX G (by k_is)⟩, ⟨_, PySem.W.mg_of KX G (by k_is)⟩, qQ, ⟨_, PySem.W.mg_of KX G (by k_is)⟩, ⟨_, PySem.W.mg_of KX G (by k_is)⟩, ⟨_, PySem.W.mg_of KX G (by k_is)⟩, ⟨_, PySem.W.mg_of KX G (by k_is)⟩, ⟨_, PySem.W.mg_of KX G (by k_is)⟩, GV, jb, Ej⟩
    exact ⟨pA, Z_answers, fun base _ _ => HR.Rw T (D1 _ _ _ _ _ _ _ _ _ _ _ _ vU Ah As yN uK yI z8 sO xH vj yg wt) (D2 _ _ _ _ _ _ _ _ _ _ _ yB yq sx uM wI wm x6 xS uR uD yx) D3 D4⟩
  case S =>
    intro K H xs a hO hwi hask hx
    cases hx with
    | cons h1 h2 =>
      cases h2
      cases h1 with
      | lst hs ha =>
        have e := L2.LK a.1 _ ha
        subst e
        refine ⟨_, a.1, rfl, ?_, hask, fun H' p hp => .lst (L2.bf.of hp) (L2.Ly _)⟩
        rcases hs with (hs | hs) | hs
        · rcases hO _ with z | ⟨ob, u, z⟩
          · rw [hs] at z; cases z
          · rw [hs] at z; cases z
        · exact .inl hs
        · exact .inr hs
#print axioms PySem.Challenge.cw_halvedruns_s01_answers_holds
