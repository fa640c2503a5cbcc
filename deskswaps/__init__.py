"""Deskswaps: persons who exchange desks with their superiors."""
