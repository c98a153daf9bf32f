"""Pileworn: a pile of plates, for all that is taken."""
