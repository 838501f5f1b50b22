"""Stages 4 and 5: results, on stacks and on blocks."""
