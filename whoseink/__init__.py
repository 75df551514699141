"""Whoseink: who wrote which sign of a strip that several write."""
