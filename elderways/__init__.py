"""Elderways: sliding the ends of passages along older passages."""
