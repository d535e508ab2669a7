"""Slipsights: robots that count steps which slip."""
