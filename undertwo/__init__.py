"""Undertwo: dotted lines read by glimpses, and the price of a law."""
