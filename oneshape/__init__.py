"""Stores whose trees have one shape for each content."""
