"""Metonce: who met whom in a room, each there once, at times that nobody knows."""
