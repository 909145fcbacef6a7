"""Sealedslots: pages from which every text is read back."""
