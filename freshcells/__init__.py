"""Freshcells: a book of program cells, and the fewest runs that mend it."""
