"""Leavebook: deeds under several hands' leave, with papers."""
