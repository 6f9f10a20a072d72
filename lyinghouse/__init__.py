"""Lyinghouse: a shared tree of files, kept by a house that nobody has to trust."""
