"""Gridframe: tables of cells that span, changed, laid out and drawn, and read back."""
