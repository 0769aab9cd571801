"""Fourvoices: lines of notes by rules told as text."""
