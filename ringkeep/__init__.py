"""Ringkeep: keys on a ring, kept by hands that come, go and fall."""
