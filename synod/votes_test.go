package synod_test

import "testing"

func TestDocumentsExample(t *testing.T) {
	r := begin(t, 3)
	r.campaign(1)
	r.checkNet(prepare(1, 0, 9), prepare(1, 1, 9), prepare(1, 2, 9))
	for range 3 {
		r.deliver(0)
	}
	r.checkNet(promise(0, 1, 9), promise(1, 1, 9), promise(2, 1, 9))
	r.deliver(0)
	r.deliver(0)
	r.checkLeading(1, 9, 0)
	r.submit(1, hi)
	r.checkNet(promise(2, 1, 9), propose(1, 0, 9, 0, hi), propose(1, 1, 9, 0, hi), propose(1, 2, 9, 0, hi))
	r.settle()
	for replica := range 3 {
		r.checkLog(replica, hi)
	}
}
