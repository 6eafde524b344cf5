"""Webs round a wheel, and when two are alike."""
