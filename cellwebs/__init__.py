"""Webs that repeat without end in one, two or three directions, each told by one cell."""
