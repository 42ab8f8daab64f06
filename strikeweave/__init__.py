"""Strikeweave: sayings that strike one another, and which of them stand."""
