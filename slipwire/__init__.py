"""Slipwire: letters that go in slips over one wire."""
