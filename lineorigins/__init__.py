"""Lineorigins: where every line of every version can come from."""
