package index_test

import (
	"encoding/base64"
	"encoding/hex"
	"testing"

	"codicil/api"
)

// An index that Git 2.39.5 wrote, by update-index --index-info in a repository with SHA-256 ids.
const gitIndex = "" +
	"RElSQwAAAAIAAAAIAAAAAAAAAAAAAAAAAAAAAAAAAAAAAAAAAACBpAAAAAAAAAAAAAAAAEN2E/IADRSIIROozuteaFclie2sKSMMn+zQnWgmEsSjAANhLmIAAAAAAAAAAAAAAAAAAAAAAAAAAAAAAAAAAAAAAIHt" +
	"AAAAAAAAAAAAAAAAnVABk+0Qjy861n4YcBSGltzpj1ZkT1ABdqHcHPFjT2QAA2EvYgAAAAAAAAAAAAAAAAAAAAAAAAAAAAAAAAAAAAAAoAAAAAAAAAAAAAAAAACweEt9IDNhgXezYZd+DxVy9dDSoNEDy6DmpW/n" +
	"QS+WJAACYTAAAAAAAAAAAAAAAAAAAAAAAAAAAAAAAAAAAAAAAACBpAAAAAAAAAAAAAAAAEN2E/IADRSIIROozuteaFclie2sKSMMn+zQnWgmEsSjEAVjbGFzaAAAAAAAAAAAAAAAAAAAAAAAAAAAAAAAAAAAAIHt" +
	"AAAAAAAAAAAAAAAAnVABk+0Qjy861n4YcBSGltzpj1ZkT1ABdqHcHPFjT2QgBWNsYXNoAAAAAAAAAAAAAAAAAAAAAAAAAAAAAAAAAAAAgaQAAAAAAAAAAAAAAACweEt9IDNhgXezYZd+DxVy9dDSoNEDy6DmpW/n" +
	"QS+WJDAFY2xhc2gAAAAAAAAAAAAAAAAAAAAAAAAAAAAAAAAAAACBpAAAAAAAAAAAAAAAAEN2E/IADRSIIROozuteaFclie2sKSMMn+zQnWgmEsSjIAtvdXJzL29mL3R3bwAAAAAAAAAAAAAAAAAAAAAAAAAAAAAA" +
	"AAAAAAAAgaQAAAAAAAAAAAAAAACweEt9IDNhgXezYZd+DxVy9dDSoNEDy6DmpW/nQS+WJDALb3Vycy9vZi90d28AAAC8dy7n/ageY3QcboNloFVAJSJ8ifIOfZdiYCloMd/6Ow=="

// P3, P17.1: what Git wrote is parsed as Git lists it, and put as the same bytes.
func TestGit(t *testing.T) {
	p, err := base64.StdEncoding.DecodeString(gitIndex)
	if err != nil {
		t.Fatal(err)
	}
	one := fromDigits(t, "437613f2000d14882113a8ceeb5e68572589edac29230c9fecd09d682612c4a3")
	two := fromDigits(t, "9d500193ed108f2f3ad67e1870148696dce98f56644f500176a1dc1cf1634f64")
	three := fromDigits(t, "b0784b7d2033618177b361977e0f1572f5d0d2a0d103cba0e6a56fe7412f9624")
	wantParsed(t, "Git's index", p, []api.Slot{
		{Path: "a.b", Mode: api.ModeFile, Id: one},
		{Path: "a/b", Mode: api.ModeExec, Id: two},
		{Path: "a0", Mode: api.ModeLink, Id: three},
		{Path: "clash", Stage: 1, Mode: api.ModeFile, Id: one},
		{Path: "clash", Stage: 2, Mode: api.ModeExec, Id: two},
		{Path: "clash", Stage: 3, Mode: api.ModeFile, Id: three},
		{Path: "ours/of/two", Stage: 2, Mode: api.ModeFile, Id: one},
		{Path: "ours/of/two", Stage: 3, Mode: api.ModeFile, Id: three},
	})
}

// fromDigits answers the id of these digits.
func fromDigits(t *testing.T, digits string) api.Id {
	t.Helper()
	p, err := hex.DecodeString(digits)
	if err != nil {
		t.Fatal(err)
	}
	return api.Id(p)
}
