"""Formulas over binary digits, with counts over ranges."""
