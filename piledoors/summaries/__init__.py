"""Stage 3: what becomes of a label, summed up for each head."""
