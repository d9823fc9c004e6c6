"""Tornlines: lines of many writers in one file."""
