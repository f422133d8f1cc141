"""Blockrooms: spaces put together of blocks, and surfaces within."""
