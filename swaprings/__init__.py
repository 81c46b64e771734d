"""Swaprings: which rings of people must change places, and which order of steps fills a roster best."""
