"""Neartwins: how far apart the rooms of a chance machine are."""
