"""Stilewalks: walkers' scripts in halls whose passages count."""
