"""The tests of piledoors."""
