"""Unseenflips: frames with flags and stuffed bits, and the wrong bits that nobody sees."""
