"""Threeroofs: where copies lie and how they come to agree."""
