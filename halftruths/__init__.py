"""Sayings whose values lie anywhere from 0 to 1."""
