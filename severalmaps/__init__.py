"""Severalmaps: spaces with several maps, and when they are one arrangement in two bases."""
