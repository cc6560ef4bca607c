"""Oncefound: which trees of valleys can stand behind a table."""
