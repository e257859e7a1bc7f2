"""Disks, of which a crash takes what was not synced."""
