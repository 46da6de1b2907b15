"""Samestride: one small language, five machines in step."""
