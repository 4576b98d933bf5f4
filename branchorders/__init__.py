"""Branchorders: code of compares and jumps over words of any width."""
