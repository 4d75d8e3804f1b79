"""Nextcode: what code on the links of search trees does, for trees of every shape."""
