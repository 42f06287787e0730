"""Seatbuttons: things on places, and buttons that turn them about."""
