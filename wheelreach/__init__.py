"""Wheelreach: long values read from wheels that come round."""
