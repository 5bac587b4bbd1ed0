"""Mirrorsums: numbers as sums of few mirrored ones."""
