"""Rows themselves."""
