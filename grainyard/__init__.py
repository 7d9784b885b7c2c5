"""Grainyard: sheets of veneer that are sawn and glued."""
