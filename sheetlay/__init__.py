"""Sheetlay: many maps of one land, laid over one another exactly."""
