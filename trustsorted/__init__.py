"""Programs that trust an order which another program made."""
