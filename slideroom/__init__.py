"""Slideroom: a small memory in which blocks can be slid."""
