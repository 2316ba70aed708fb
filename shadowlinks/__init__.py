"""Shadowlinks: parts linked by the names that they show."""
