"""Oneedition: parts of a file from copies that change."""
