"""Clocked machines made of smaller ones."""
