"""Strings round marks: tracks among marks, their words, their taut strings, courses and measures."""
