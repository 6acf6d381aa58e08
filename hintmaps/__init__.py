"""Hints: what people who don't see all can be sure of, and the weakest fact that leads them on."""
