"""Osier: shapes of cells, found through a program's rows."""
