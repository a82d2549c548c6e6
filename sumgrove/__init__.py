"""Sumgrove: a ledger on trees of sums with answers that can be checked."""
