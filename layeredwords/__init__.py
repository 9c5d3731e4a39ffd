"""Layeredwords: settings of many layers, and what each reader sees."""
