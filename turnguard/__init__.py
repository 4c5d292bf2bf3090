"""Turnguard: code that tells when a bit has turned."""
