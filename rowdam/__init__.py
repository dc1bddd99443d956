"""Rowdam: a works of pipes that tells what the plain reading tells."""
