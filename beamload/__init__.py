"""Beamload: beams, loads and rests in exact fractions."""
