"""Frameplaces: which cells of a procedure may share a place of its frame."""
