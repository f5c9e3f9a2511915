"""Evenends: which numbers counters can show when their routing changes while things are open."""
