"""Likeholes: nested items with kinded slots."""
