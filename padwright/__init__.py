"""Padwright: values put as texts of a width, and read back."""
