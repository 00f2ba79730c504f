"""Partwise: tables that are cut into parts."""
