"""Cliplore: the rules by which words are clipped."""
