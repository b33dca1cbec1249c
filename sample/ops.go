package sample

import "tendril/api"

// Add makes the operation that adds a node.
func Add() api.Op { return api.Op{Kind: api.AddO} }

// Link makes the operation that adds an edge from a to b.
func Link(a, b int) api.Op { return api.Op{Kind: api.LinkO, A: a, B: b} }

// Cut makes the operation that takes the edge e out.
func Cut(e int) api.Op { return api.Op{Kind: api.CutO, A: e} }

// Set makes the operation by which the property k of n is v.
func Set(n, k, v int) api.Op { return api.Op{Kind: api.SetO, A: n, K: k, V: v} }

// Del makes the operation by which n has no property k.
func Del(n, k int) api.Op { return api.Op{Kind: api.DelO, A: n, K: k} }

// Get makes the operation that tells the properties of n.
func Get(n int) api.Op { return api.Op{Kind: api.GetO, A: n} }

// Near makes the operation that tells the edges at n.
func Near(n int) api.Op { return api.Op{Kind: api.NearO, A: n} }

// Drop makes the operation that takes the node n out.
func Drop(n int) api.Op { return api.Op{Kind: api.DropO, A: n} }

// Fuse makes the operation that makes a and b one node, a.
func Fuse(a, b int) api.Op { return api.Op{Kind: api.FuseO, A: a, B: b} }
