"""Foldandbound: a print shop, from the flat sheet to the bound book."""
