"""Ringrows: leagues by one written rule, for all numbers of teams at once."""
