"""Maypoint: who may hand a letter on to whom."""
