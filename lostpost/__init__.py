"""Lostpost: letters that may get lost, words under words, and what can never come."""
