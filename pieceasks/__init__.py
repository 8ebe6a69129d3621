"""Pieceasks: what a piece of code asks of its objects."""
