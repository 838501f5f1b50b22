"""Stage 2: runs, step by step."""
