"""Worneven: files and folders on a flash chip that wears evenly and may be cut at any moment."""
