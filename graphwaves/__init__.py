"""Waves on graphs: three states chase one another, or fire spreads, along the edges of a finite graph."""
