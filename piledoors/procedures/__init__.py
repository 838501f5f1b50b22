"""Stage 16: programs with procedures."""
