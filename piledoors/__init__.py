"""Piledoors: what a module on a shared stack shows to its surroundings."""
