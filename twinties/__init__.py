"""Ties between those who stand alike, and what turning them can make."""
