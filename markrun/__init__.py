"""Markrun: a small processor, from text to words and back."""
