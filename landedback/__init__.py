"""Programs that jump back into a call, and what registers bring back in them."""
