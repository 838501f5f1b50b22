"""Stages 7 and 8: settled states and interfaces."""
