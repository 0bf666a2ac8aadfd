"""Doorwatch: doors and windows watched."""
