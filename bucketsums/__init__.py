"""Histograms of columns and what they say, each answer with evidence."""
