"""Jointseat: one log over houses while who votes is changed."""
