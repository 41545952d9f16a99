"""Shapewright: an ML-like language with modules, its shapes, its meaning and its machine."""
