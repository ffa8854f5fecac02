"""Twinsieve: rows of letters that pass two sieves."""
