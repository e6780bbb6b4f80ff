"""Stretchbook: numbers of makes, spans of them, and what may be taken newer."""
