"""Walkbox: letters to boxes that walk, none of which overtakes another one."""
