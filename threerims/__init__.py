"""Threerims: integer triangles with three given borders."""
