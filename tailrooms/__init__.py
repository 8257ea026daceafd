"""Tailrooms: tables that grow a room at a time by last bits."""
