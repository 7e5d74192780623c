"""Kept answers over a table whose rows come and go, brought up to date by differences."""
