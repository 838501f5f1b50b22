"""Stage 5: long stacks, written as repeated words."""
