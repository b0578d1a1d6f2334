"""Sheets of formulas, and what their cells are for all values of one cell."""
