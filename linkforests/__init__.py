"""Linkforests: forests that arise from joining lighter trees below heavier ones."""
