"""Fullseats: processes that meet on channels with several seats."""
