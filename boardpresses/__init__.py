"""Boards pressed from cores and foils: boardpresses.desk.answers is the way in."""
