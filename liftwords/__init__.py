"""Liftwords: words whose letters go up and down."""
