"""Onemember: designs of objects that keep sets, decided by looking at one member."""
