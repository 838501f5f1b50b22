"""Stage 17: a workshop."""
