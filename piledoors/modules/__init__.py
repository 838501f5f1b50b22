"""Stage 1: modules, their labels and their rules."""
