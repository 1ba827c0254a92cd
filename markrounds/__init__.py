"""Markrounds: maps made of roundings up and down."""
