"""Endlesskinds: which types a program with generic classes needs."""
