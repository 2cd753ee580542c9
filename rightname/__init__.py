"""Rightname: a herbarium, and the one right name of each group of plants."""
