"""Arrowturns: boxes with arrows, turned box by box."""
