"""Heapmeld: heaps that join, the least key on top whatever was joined when."""
