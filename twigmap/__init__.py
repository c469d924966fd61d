"""Twigmap: tables whose versions share their twigs."""
