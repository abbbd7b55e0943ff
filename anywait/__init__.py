"""Anywait: nets of gates whose waits nobody knows."""
