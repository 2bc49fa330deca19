"""Whatindex: an advisor of indexes over stores of unlike kinds."""
