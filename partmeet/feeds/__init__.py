"""Feeds: what changes for somebody who looks at some keys."""
