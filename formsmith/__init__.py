"""Formsmith: forms for texts, written and read back."""
