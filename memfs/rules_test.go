package memfs_test

import (
	"fmt"
	"math"
	"reflect"
	"slices"
	"strings"
	"sync"
	"testing"

	"farshelf/api"
	"farshelf/memfs"
)

// describe returns the results of all functions, or the panic of one of them.
func describe(t api.Tree, l []api.Request) (text string) {
	defer func() {
		if e := recover(); e != nil {
			text = fmt.Sprint("panic: ", e)
		}
	}()
	var all strings.Builder
	for _, r := range l {
		after, reply, got := memfs.Apply(t, r)
		all.WriteString(show(memfs.ValidateRequest(r), after, reply, got))
	}
	after, replies, got := memfs.Run(l)
	return all.String() + show(after, replies, got)
}

// strangeRequests are requests that no caller should make, among some that one
// may.
func strangeRequests() []api.Request {
	numbers := []int{math.MinInt, math.MinInt + 1, -1, 0, 1, 7, 8, 200, api.MaxValue, api.MaxValue + 1, math.MaxInt - 1, math.MaxInt}
	texts := []string{"", "/", "//", ".", "..", "a", "/a", "/a/b/", "\x00", "/\xff\xfe", "/%s", "/~", strings.Repeat("/", 1<<16), strings.Repeat("/a", 9), "/" + strings.Repeat("a", 1<<16)}
	var l []api.Request
	for kind := -1; kind <= 15; kind++ {
		for _, number := range numbers {
			l = append(l,
				api.Request{Kind: number, User: kind, Path: "/a"},
				api.Request{Kind: kind, User: number, Path: "/f"},
				api.Request{Kind: kind, Path: "/f", Offset: number},
				api.Request{Kind: kind, Path: "/f", Offset: number, Data: []byte{1}},
				api.Request{Kind: kind, Path: "/f", Offset: 1, Size: number},
				api.Request{Kind: kind, Path: "/f", Size: number},
				api.Request{Kind: kind, Path: "/a", Size: number},
				api.Request{Kind: kind, Path: "/f", Offset: number, Size: number},
				api.Request{Kind: kind, Path: "/f", ACL: []api.ACLEntry{{User: number, Allow: number, Deny: number}}},
			)
		}
		for _, text := range texts {
			l = append(l,
				api.Request{Kind: kind, Path: text},
				api.Request{Kind: kind, Path: "/f", Target: text},
				api.Request{Kind: kind, Path: text, Target: "/a/x"},
				api.Request{Kind: kind, Path: text, Target: text},
				api.Request{Kind: kind, Path: "/f", Attr: api.Attr{Name: text, Value: text}},
				api.Request{Kind: kind, Path: "/f", Attr: api.Attr{Name: "k", Value: text}},
			)
		}
		l = append(l, api.Request{Kind: kind, Path: "/f", Data: make([]byte, 1<<16)}, api.Request{Kind: kind, Path: "/f", ACL: make([]api.ACLEntry, 1<<16)})
	}
	return l
}

// strangeTrees are trees that no caller should pass, among some that one may.
func strangeTrees() []api.Tree {
	cycle := slices.Repeat([]api.Inode{dir(0, "a", 1, "b", 2)}, api.MaxInodes)
	trees := []api.Tree{
		{}, tree(dir(0)), home(), crowded(), tree(file(0, 1)), tree(cycle...), tree(make([]api.Inode, 1<<16)...),
		tree(dir(0), dir(0, "a", 1)), tree(dir(0, "f", 1)), tree(dir(0, "f", -1)), tree(dir(0, "f", math.MaxInt)),
		tree(dir(0, "f", 1), file(0, 1000)), tree(dir(0, "f", 1), limited(1, file(0, 1))), tree(dir(0, "b", 1, "a", 1), file(0, 1)),
		chain(file(0, 1), letters(39)...),
	}
	for _, number := range []int{math.MinInt, -1, 3, math.MaxInt} {
		trees = append(trees,
			tree(dir(0, "f", 1), api.Inode{Kind: number}),
			tree(dir(number, "f", 1), file(0, 1)),
			tree(dir(0, "f", 1), of(number, file(0, 1))),
			tree(limited(number, dir(0, "f", 1)), file(0, 1)),
		)
	}
	return trees
}

// TestTotality checks Z1: no argument makes a function panic or go on without
// an end.
func TestTotality(t *testing.T) {
	requests := strangeRequests()
	for i, tested := range strangeTrees() {
		if text := describe(tested, requests); strings.Contains(text, "panic: ") {
			t.Errorf("tree %d: %.200s", i, text[strings.Index(text, "panic: "):])
		}
	}
	for _, r := range requests {
		l := []api.Request{{Kind: api.OpCreate, Path: "/f"}, {Kind: api.OpMkdir, Path: "/a"}, r, r}
		if text := describe(tree(dir(0)), l); strings.Contains(text, "panic: ") {
			t.Errorf("%.200s: %.200s", show(r), text[strings.Index(text, "panic: "):])
		}
	}
}

// TestZeroResults checks Z2: with a fault, the other results are zero, and
// without one the fault has no index either. A reply with a code holds nothing
// else.
func TestZeroResults(t *testing.T) {
	zero := show(api.Tree{}, api.Reply{})
	for _, tested := range strangeTrees()[:12] {
		for _, r := range strangeRequests() {
			after, reply, got := memfs.Apply(tested, r)
			switch {
			case got.Code != api.OK && show(after, reply) != zero,
				got.Code == api.OK && got.Index != 0,
				got.Code == api.OK && reply.Code != api.OK && show(after, reply) != show(tested, api.Reply{Code: reply.Code}):
				t.Errorf("Apply(%.200s) = %+v, %+v, %v", show(r), after, reply, got)
			}
			if got := memfs.ValidateRequest(r); got.Index != 0 {
				t.Errorf("ValidateRequest(%.200s) = %v", show(r), got)
			}
			after, replies, got := memfs.Run([]api.Request{r})
			if got.Code != api.OK && len(after.Inodes)+len(replies) > 0 || got.Code == api.OK && (got.Index != 0 || len(replies) != 1) {
				t.Errorf("Run(%.200s) = %+v, %+v, %v", show(r), after, replies, got)
			}
		}
	}
}

// roomyTree returns t with spare capacity behind all its lists.
func roomyTree(t api.Tree) api.Tree {
	clone := api.Tree{Inodes: append(slices.Clone(t.Inodes), file(0, 3), dir(0, "spare", 1))[:len(t.Inodes)]}
	for i := range clone.Inodes {
		inode := &clone.Inodes[i]
		inode.Entries = append(slices.Clone(inode.Entries), dir(0, "spare", 1, "a", 0).Entries...)[:len(inode.Entries)]
		inode.Data = append(slices.Clone(inode.Data), 7, 7, 7, 7)[:len(inode.Data)]
		inode.ACL = append(slices.Clone(inode.ACL), api.ACLEntry{User: 5}, api.ACLEntry{User: 6})[:len(inode.ACL)]
		inode.Attrs = append(slices.Clone(inode.Attrs), api.Attr{Name: "spare"}, api.Attr{Name: "room"})[:len(inode.Attrs)]
	}
	return clone
}

// wholeTree returns a copy of t with the spare capacity of its lists as a part
// of them.
func wholeTree(t api.Tree) api.Tree {
	whole := api.Tree{Inodes: slices.Clone(t.Inodes[:cap(t.Inodes)])}
	for i := range whole.Inodes {
		inode := &whole.Inodes[i]
		inode.Entries, inode.Data = inode.Entries[:cap(inode.Entries)], inode.Data[:cap(inode.Data)]
		inode.ACL, inode.Attrs = inode.ACL[:cap(inode.ACL)], inode.Attrs[:cap(inode.Attrs)]
	}
	return cloneTree(whole)
}

// roomyRequest returns r with spare capacity behind its lists.
func roomyRequest(r api.Request) api.Request {
	r.Data = append(slices.Clone(r.Data), 7, 7)[:len(r.Data)]
	r.ACL = append(slices.Clone(r.ACL), api.ACLEntry{User: 5}, api.ACLEntry{User: 6})[:len(r.ACL)]
	return r
}

// wholeRequest returns a copy of r with the spare capacity of its lists as a
// part of them.
func wholeRequest(r api.Request) api.Request {
	r.Data, r.ACL = slices.Clone(r.Data[:cap(r.Data)]), slices.Clone(r.ACL[:cap(r.ACL)])
	return r
}

// someCalls returns random trees with a request for each.
func someCalls(n int) ([]api.Tree, []api.Request) {
	var trees []api.Tree
	var requests []api.Request
	s := newSource(7)
	current := tree(dir(0))
	for i := range n {
		if i%12 == 0 {
			current = oneOf(s, starts()...)
		}
		r := s.request(current)
		trees, requests = append(trees, current), append(requests, r)
		current, _, _ = memfs.Apply(current, r)
	}
	return trees, requests
}

// TestArgumentsStay checks Z4: neither the arguments nor the spare capacity of
// their lists are modified.
func TestArgumentsStay(t *testing.T) {
	trees, requests := someCalls(4000)
	for i, r := range requests {
		r = roomyRequest(r)
		argument := roomyTree(trees[i])
		treeBefore, requestBefore := wholeTree(argument), wholeRequest(r)
		memfs.Apply(argument, r)
		memfs.Run([]api.Request{r})
		memfs.ValidateRequest(r)
		if after := wholeTree(argument); !reflect.DeepEqual(after, treeBefore) {
			t.Errorf("%+v: %+v became %+v", r, treeBefore, after)
		}
		if after := wholeRequest(r); !reflect.DeepEqual(after, requestBefore) {
			t.Errorf("%+v became %+v", requestBefore, after)
		}
	}
	for start := 0; start+50 < 1000; start += 50 {
		l := requests[start : start+50]
		before := show(requests[:1000])
		memfs.Run(l)
		if show(requests[:1000]) != before {
			t.Errorf("Run changed its argument %+v", l)
		}
	}
}

// spoilTree changes all that the lists of a tree refer to, with their spare
// capacity.
func spoilTree(t api.Tree) {
	t.Inodes = t.Inodes[:cap(t.Inodes)]
	for i, inode := range t.Inodes {
		spoil(inode.Entries, api.DirEntry{Name: "spoilt", Inode: -9})
		spoil(inode.Data, 77)
		spoil(inode.ACL, api.ACLEntry{User: -9})
		spoil(inode.Attrs, api.Attr{Name: "spoilt"})
		t.Inodes[i] = api.Inode{Kind: -9}
	}
}

// spoil sets all elements of a list, with its spare capacity.
func spoil[T any](l []T, value T) {
	l = l[:cap(l)]
	for i := range l {
		l[i] = value
	}
}

// spoilReply changes all that a reply refers to.
func spoilReply(reply api.Reply) {
	spoil(reply.Data, 77)
	spoil(reply.Names, "spoilt")
}

// TestResultsAreSeparate checks Z4: a caller that changes an argument or a
// part of a result changes nothing else.
func TestResultsAreSeparate(t *testing.T) {
	trees, requests := someCalls(4000)
	for i, r := range requests {
		argument := roomyTree(trees[i])
		r = roomyRequest(r)
		after, reply, _ := memfs.Apply(argument, r)
		wantAfter, wantReply, wantArgument := show(after), show(reply), show(argument)
		spoilReply(reply)
		if got := show(after); got != wantAfter {
			t.Errorf("%+v: the tree shares memory with the reply: %s, want %s", r, got, wantAfter)
		}
		spoilTree(after)
		if got := show(argument); got != wantArgument {
			t.Errorf("%+v: the argument shares memory with the results: %s, want %s", r, got, wantArgument)
		}
		after, reply, _ = memfs.Apply(argument, r)
		spoilTree(argument)
		spoil(r.Data, 77)
		spoil(r.ACL, api.ACLEntry{User: -9})
		if got := show(after) + show(reply); got != wantAfter+wantReply {
			t.Errorf("%+v: the results share memory with the arguments: %s, want %s", r, got, wantAfter+wantReply)
		}
	}
}

// TestInodesAreSeparate checks Z4 for lists that inodes of the argument share.
func TestInodesAreSeparate(t *testing.T) {
	shared := home()
	l := []api.ACLEntry{{User: -1, Allow: 15}}
	attrs := []api.Attr{{Name: "k", Value: "v"}}
	for n, inode := range shared.Inodes {
		if inode.Kind != 0 {
			shared.Inodes[n].ACL, shared.Inodes[n].Attrs = l, attrs
		}
	}
	shared.Inodes[3].Data = []byte{1, 2, 3, 4, 5}
	shared.Inodes[8].Data = shared.Inodes[3].Data
	for _, r := range []api.Request{by0(api.OpStat, "/"), by0(api.OpStat, "/x"), {Kind: api.OpSetACL, Path: "/a", ACL: l}} {
		after, _, _ := memfs.Apply(shared, r)
		want := show(after.Inodes[4:])
		spoil(after.Inodes[0].ACL, api.ACLEntry{})
		spoil(after.Inodes[1].ACL, api.ACLEntry{})
		spoil(after.Inodes[1].Attrs, api.Attr{})
		spoil(after.Inodes[3].Data, 0)
		if got := show(after.Inodes[4:]); got != want {
			t.Errorf("%+v: %s after a change of other inodes, want %s", r, got, want)
		}
	}
}

// TestRunResultsAreSeparate checks Z4 for Run.
func TestRunResultsAreSeparate(t *testing.T) {
	l := []api.Request{
		{Kind: api.OpCreate, Path: "/f"},
		{Kind: api.OpWrite, Path: "/f", Data: []byte{1, 2, 3}},
		{Kind: api.OpSetACL, Path: "/f", ACL: []api.ACLEntry{{User: 1, Allow: 1}}},
		{Kind: api.OpRead, Path: "/f", Size: 3},
		{Kind: api.OpRead, Path: "/f", Size: 3},
		{Kind: api.OpList, Path: "/"},
		{Kind: api.OpList, Path: "/"},
	}
	after, replies, _ := memfs.Run(l)
	want := show(after, replies[4], replies[6])
	spoilReply(replies[3])
	spoilReply(replies[5])
	spoil(l[1].Data, 77)
	spoil(l[2].ACL, api.ACLEntry{User: -9})
	if got := show(after, replies[4], replies[6]); got != want {
		t.Errorf("Run: %s after a change of other results and the argument, want %s", got, want)
	}
	spoilTree(after)
	first, firstReplies, _ := memfs.Run(nil)
	spoilTree(first)
	if second, _, _ := memfs.Run(nil); show(second, firstReplies) != show(tree(dir(0)), []api.Reply(nil)) {
		t.Errorf("Run(nil) = %+v after a change of an earlier result", second)
	}
}

// TestDeterminism checks Z5: a call returns the same whatever was called
// before it or is called at the same time.
func TestDeterminism(t *testing.T) {
	trees, requests := someCalls(800)
	call := func(i int) string { return describe(trees[i], requests[max(0, i-9):i+1]) }
	want := make([]string, len(trees))
	for i := range trees {
		want[i] = call(i)
	}
	var group sync.WaitGroup
	for worker := range 4 {
		group.Go(func() {
			for k := range trees {
				i := (len(trees) - 1 - k + worker*7) % len(trees)
				if got := call(i); got != want[i] {
					t.Errorf("%+v: %s, then %s", requests[i], want[i], got)
				}
			}
		})
	}
	group.Wait()
}

// TestEmptyLists checks Z6: nil and empty lists are equivalent.
func TestEmptyLists(t *testing.T) {
	trees, requests := someCalls(2000)
	for i, r := range requests {
		empty := cloneTree(trees[i])
		for n := range empty.Inodes {
			inode := &empty.Inodes[n]
			inode.Entries = append(make([]api.DirEntry, 0, 8), inode.Entries...)
			inode.Data = append(make([]byte, 0, 8), inode.Data...)
			inode.ACL = append(make([]api.ACLEntry, 0, 8), inode.ACL...)
			inode.Attrs = append(make([]api.Attr, 0, 8), inode.Attrs...)
		}
		notNil := r
		notNil.Data = append(make([]byte, 0, 8), r.Data...)
		notNil.ACL = append(make([]api.ACLEntry, 0, 8), r.ACL...)
		want := describe(trees[i], []api.Request{r})
		if got := describe(empty, []api.Request{notNil}); got != want {
			t.Errorf("%+v with empty lists: %s, want %s", r, got, want)
		}
	}
	if got, want := describe(tree(dir(0)), []api.Request{}), describe(tree(dir(0)), nil); got != want {
		t.Errorf("no requests: %s, want %s", got, want)
	}
}

// TestRunIsApply checks that Run does what Apply does for one request after
// another, and that trees stay valid on the way.
func TestRunIsApply(t *testing.T) {
	for seed := range 200 {
		s := newSource(uint64(seed))
		current := tree(dir(0))
		var l []api.Request
		var replies []api.Reply
		for range api.MaxRequests {
			r := s.request(current)
			after, reply, got := memfs.Apply(current, r)
			if got != success {
				t.Fatalf("Apply(%+v, %+v) = %v", current, r, got)
			}
			current, l, replies = after, append(l, r), append(replies, reply)
		}
		if after, got, runFault := memfs.Run(l); show(after, got) != show(current, replies) || runFault != success {
			t.Errorf("Run(%+v) = %+v, %+v, %v, want %+v, %+v", l, after, got, runFault, current, replies)
		}
	}
}
