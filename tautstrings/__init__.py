"""Strings round marks: tracks among marks, and the words they spell."""
