"""Disputes about a run: a judge finds out by halving which host said what isn't so."""
