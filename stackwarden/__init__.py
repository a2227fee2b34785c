"""Stackwarden: code that is looked at ahead and never sticks."""
