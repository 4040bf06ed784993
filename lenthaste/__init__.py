"""Lenthaste: workers with ranks that share tools and lend their haste."""
