"""Slipseen: schemes of check figures, and the slips that they see."""
