"""Hueshade: coloured lamps, posts and panes on a floor, and what is seen of them."""
