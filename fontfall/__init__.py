"""Fontfall: a text shown by faces that have some signs each."""
