"""Deadbeat: a real-time language, its compiler, its timing analysis and its kernel."""
