"""Stages 9 and 10: equivalent modules, and modules that may replace others."""
