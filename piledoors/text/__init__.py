"""Stages 18 and 19: texts and a shell."""
