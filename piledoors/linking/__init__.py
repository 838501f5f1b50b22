"""Stages 11 to 13: linked modules, contexts and linked interfaces."""
