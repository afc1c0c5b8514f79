"""Idlewrites: programs as data, and which lots of their writes can be struck."""
