"""Linkorcut: a play on nets, and who wins it."""
