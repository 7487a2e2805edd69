"""Asks that bear marks and fall the second time, and whom they miss whatever the numbers."""
