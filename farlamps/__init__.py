"""Lamps that shine each at its own even beats, seen from afar as one light."""
