"""Replaytravel: runs of many threads, replayed and travelled."""
