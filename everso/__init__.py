"""Everso: a program put otherwise while it runs, as if it had ever been so."""
