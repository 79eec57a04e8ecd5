"""Leadrules: days by rules that nobody told."""
