"""Sharedpipe: streams in one pipe. Everything is imported from the modules of this package."""
