"""Benchpair: things made on one bench, left to dry, then made on another."""
