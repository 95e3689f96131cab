"""Codemill: the back end of a compiler, for codes of a stack machine."""
