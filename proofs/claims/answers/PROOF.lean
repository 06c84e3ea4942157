import PyProof.Rows.All
import Wide.All
import OpenK.AllK
import KE.OsHead
import KE.OsGo
import PySem.Challenge.RW_tautstrings_s01_answers
import VbreabSpec
import Wide.FinOn
import PyProof.EqAt
import PyProof.EqKinds
import PyProof.TupleCall
import KE.BitLaws
import Open.SpecLaws
import KE.KSortTupG
import KE.KRevIter
set_option Elab.async false
set_option linter.all false
set_option maxRecDepth 100000
set_option maxHeartbeats 4000000
set_option compiler.extract_closed false
namespace Hd
open PySem PySem.W PyProof.Rows
noncomputable abbrev adl:=@PySem.W.Fast.tw10156331382660048174
noncomputable abbrev afo:=@PySem.W.Fast.tw11892475500146522536
noncomputable abbrev afp:=@PySem.W.Fast.tw14364793385576792824
noncomputable abbrev fOk:=@PySem.W.Fast.tw6613529449190102663
noncomputable def ab8 (p:Program) (w:World) (n₀:Nat) (ann:Option Value):Nat→SharedT→Thread→Option SharedT
 | 0,_,_=>none
 | n+1,s,t=>match through t with
  | true=>some s
  | false=>match fOk n₀ ann t with
   | false=>none
   | true=>match adl (afo afp) p w s t with
    | some (s',t')=>ab8 p w n₀ ann n s' t'
    | none=>none
theorem aaq:adl (afo afp)=stepT (denote treeTable):=by
 show PySem.W.Fast.tw10156331382660048174 (PySem.W.Fast.tw11892475500146522536 PySem.W.Fast.tw14364793385576792824)=_
 rw [←PySem.W.Fast.te10156331382660048174,←PySem.W.Fast.te11892475500146522536,←PySem.W.Fast.te14364793385576792824]
theorem adQ:fOk=stepOk:=PySem.W.Fast.te6613529449190102663.symm
theorem Tu {p:Program} {w:World} {n₀:Nat} {ann:Option Value}:∀{n:Nat} {s s':SharedT} {t:Thread},ab8 p w n₀ ann n s t=some s'→topRun treeTable p w n₀ ann n s.abs t=some s'.abs
 | 0,_,_,_,h=>by cases h
 | n+1,s,s',t,h=>by
  unfold ab8 at h
  rw [adQ,aaq]at h
  unfold topRun
  cases he:through t with
  | true=>rw [he]at h;cases h;rfl
  | false=>
   rw [he]at h
   cases hk:stepOk n₀ ann t with
   | false=>rw [hk]at h;cases h
   | true=>
    rw [hk]at h
    cases hs:stepT (denote treeTable) p w s t with
    | none=>rw [hs]at h;cases h
    | some r=>obtain ⟨s2,t2⟩:=r;rw [hs]at h;rw [stepT_spec hs];exact Tu h
def laid:List Obj→Nat→BT→BT
 | [],_,t=>t
 | o::l,n,t=>laid l (n+1) (t.ins n o)
noncomputable def adm (w:World) (os:OsState):SharedT:=⟨laid (boot_heap w.params).objs.toList 0 .nil,(boot_heap w.params).objs.size,(boot_heap w.params).life,#[],boot_drawn,boot_toks,os⟩
theorem YL (w:World) (os:OsState):(adm w os).abs=⟨boot_heap w.params,Array.mk [],boot_drawn,boot_toks,os⟩:=by kernel_rfl
noncomputable def sV (p:Program) (N:Nat) {β:Type} (F:Shared→β) (w:World) (os:OsState):Option β:=
 (ab8 p w (boot_heap w.params).objs.size ((boot_heap w.params).nsMap mainGlobals "__annotations__") N (adm w os) (topStub p)).map fun s=>F s.abs
theorem YM {p q:Program} {loose:List Str} {Xt:Shared→Bool} {α:Type} {Yf:Shared→α} {Ya:World→α} {N:Nat}
  (e:opening p=plainProg p.main.scope.names) (hN:Nat.ble 600 N=true) (f:∀s,fenceModules? p s=some s) (hn:∀w:World,(boot_heap w.params).isNs mainGlobals=true)
  (h0:∀w,(fun os=>sV p N (fun s=>staticsOk (importedModules p.main.body) (boot_heap w.params) s.heap&&namesBound p s.heap&&gensDone s&&laidKept (boot_heap w.params) s.heap) w os)=fun _=>some true)
  (h1:∀w,(fun os=>sV p N (fun s=>(openSeen q loose (importedModules p.main.body) Xt true s).1) w os)=fun _=>some (openGood q loose).1)
  (h5:∀w,(fun os=>sV p N (fun s=>(openSeen q loose (importedModules p.main.body) Xt true s).2.1) w os)=fun _=>some (openGood q loose).2.1)
  (h2:∀w,(fun os=>sV p N (fun s=>(openSeen q loose (importedModules p.main.body) Xt true s).2.2.1) w os)=fun _=>some (openGood q loose).2.2.1)
  (h3:∀w,(fun os=>sV p N (fun s=>(openSeen q loose (importedModules p.main.body) Xt true s).2.2.2) w os)=fun _=>some (openGood q loose).2.2.2)
  (h4:∀w,(fun os=>sV p N Yf w os)=fun _=>some (Ya w)):LeftO p q loose Xt Yf Ya N:=fun w=>by
 obtain ⟨s,hs,hv⟩:=Option.map_eq_some_iff.mp (boot_open (N:=N) e hN f w)
 obtain ⟨H,g,d,k,os⟩:=s
 obtain ⟨rfl,rfl,rfl,rfl⟩:H=boot_heap w.params∧g=Array.mk []∧d=boot_drawn∧k=boot_toks:=by simpa using hv
 obtain ⟨s0,hr0,hm⟩:=Option.map_eq_some_iff.mp (congrFun (h0 w) os)
 obtain ⟨s1,hr,e6⟩:=Option.map_eq_some_iff.mp (congrFun (h1 w) os)
 obtain ⟨s5,hr5,e7⟩:=Option.map_eq_some_iff.mp (congrFun (h5 w) os)
 obtain ⟨s2,hr2,e2⟩:=Option.map_eq_some_iff.mp (congrFun (h2 w) os)
 obtain ⟨s3,hr3,e3⟩:=Option.map_eq_some_iff.mp (congrFun (h3 w) os)
 obtain ⟨s4,hr4,e4⟩:=Option.map_eq_some_iff.mp (congrFun (h4 w) os)
 obtain rfl:s1=s0:=Option.some.inj (hr.symm.trans hr0)
 obtain rfl:s1=s5:=Option.some.inj (hr.symm.trans hr5)
 obtain rfl:s1=s2:=Option.some.inj (hr.symm.trans hr2)
 obtain rfl:s1=s3:=Option.some.inj (hr.symm.trans hr3)
 obtain rfl:s1=s4:=Option.some.inj (hr.symm.trans hr4)
 have hg:openSeen q loose (importedModules p.main.body) Xt true s1.abs=openGood q loose:=Prod.ext e6 (Prod.ext e7 (Prod.ext e2 e3))
 have hr':=Tu hr
 rw [YL]at hr'
 unfold openEnds
 rw [hs]
 show (topFrom treeTable p w N _).map _=_
 unfold topFrom
 show (match (boot_heap w.params).isNs mainGlobals&&true with | true=>_ | false=>_:Option _).map _=_
 rw [hn w]
 show ((topRun treeTable p w (boot_heap w.params).objs.size ((boot_heap w.params).nsMap mainGlobals "__annotations__") N _ (topStub p)).bind _).map _=_
 rw [hr']
 show (match staticsOk (importedModules p.main.body) (boot_heap w.params) s1.abs.heap&&namesBound p s1.abs.heap&&gensDone s1.abs&&laidKept (boot_heap w.params) s1.abs.heap with | true=>some s1.abs | false=>none).map _=_
 have hm':(staticsOk (importedModules p.main.body) (boot_heap w.params) s1.abs.heap&&namesBound p s1.abs.heap&&gensDone s1.abs&&laidKept (boot_heap w.params) s1.abs.heap)=true:=hm
 rw [hm']
 show some (openSeen q loose (importedModules p.main.body) Xt true s1.abs,Yf s1.abs)=_
 rw [hg,e4]
noncomputable abbrev P0:Program:=PySem.Challenge.pw_tautstrings_s01_answers
def K0:List Nat:=[1,3,4,6,7,8,9,10,11,13,14,15,17,18,19,20,21,22,24,25,26,27,28,29,30,32,33,34,35,36,37,38,39,40,41,42,44,45,46,47,48,49,50,52,53,54,55,56,58,59,60,61,62,63,64,65,66,67,68,69,70,71,72,73,74,75,76,77,78,79,80,81,82,83,84,85,86,87,88,89,90,91,92]
noncomputable def Q0:Program:=view P0 K0
def L0:List Str:=["CALLS"]
noncomputable def X0 (s:Shared):Bool:=xlAt Q0 [] s&&recOk [] s
noncomputable abbrev O0 (s:Shared):=openSeen Q0 L0 (importedModules P0.main.body) X0 true s
theorem both {β:Type} {F:World→Shared→β} {V:World→β} (hf:∀w:World,(fun os=>sV P0 7422 (F (w.withFollow "special-get-raises" false)) (w.withFollow "special-get-raises" false) os)=fun _=>some (V (w.withFollow "special-get-raises" false)))
  (ht:∀w:World,(fun os=>sV P0 7422 (F (w.withFollow "special-get-raises" true)) (w.withFollow "special-get-raises" true) os)=fun _=>some (V (w.withFollow "special-get-raises" true))) (w:World):(fun os=>sV P0 7422 (F w) w os)=fun _=>some (V w):=
 byRow2 "special-get-raises" (P:=fun w=>(fun os=>sV P0 7422 (F w) w os)=fun _=>some (V w)) hf ht w
local macro_rules | `(tactic| o_headS $_) => `(tactic| assumption)
theorem GJ (h:PySem.Challenge.rw_tautstrings_s01_answers.Holds):PySem.Challenge.rw_tautstrings_s01_answers.Holds:=by k_headS
noncomputable def as0:List Nat:=[2,3,22,24,25,27,28,29,31,32,34,35,36,38,39,41,42,43,45,46,48,49,50,52,53,55,56,57,58,59,60,61,71,73,74,76,77,78,80,81,83,84,85,87,88,90,91,92,94,95,97,98,99,100,101,102,103,106,109,110,111,113,114,116,117,118,121,122,123,125,126,128,129,130,132,133,135,136,137,139,140,142,143,144,147,148,149,151,152,154,155,156,158,159,161,162,163,165,166,168,169,170,172,173,175,176,177,179,180,182,183,184,186,187,189,190,191,193,194,196,197,198,200,201,203,204,205,207,208,210,211,212,214,215,217,218,219,221,222,224,225,226,229,230,231,233,234,236,237,238,240,241,243,244,245,248,249,257,259,260,262,263,264,265,266,267,268,278,280,281,283,284,285,286,287,288,289,292,294,295,297,298,299,301,302,304,305,306,308,309,311,312,313,315,316,318,319,320,323,324,325,327,328,330,331,332,335,336,337,340,341,342,345,346,347,349,350,352,353,354,357,358,359,362,363,364,366,367,369,370,371,373,374,376,377,378,380,381,383,384,385,387,388,390,391,392,395,396,397,400,401,402,405,406,407,409,410,412,413,414,416,417,419,420,421,423,424,426,427,428,430,431,433,434,435,437,438,440,441,442,444,445,447,448,449,451,452,454,455,456,458,459,461,462,463,465,466,468,469,470,472,473,475,476,477,479,480,482,483,484,486,487,489,490,491,493,494,496,497,498,500,501,503,504,505,507,508,510,511,512,514,515,517,518,519,521,522,524,525,526,528,529,531,532,533,535,536,538,539,540,542,543,545,546,547,549,550,552,553,554,556,557,559,560,561,563,564,566,567,568,570,572,573,575,576]
theorem s1f:∀w:World,(fun os=>sV P0 7422 (fun s=>staticsOk (importedModules P0.main.body) (boot_heap (w.withFollow "special-get-raises" false).params) s.heap&&namesBound P0 s.heap&&gensDone s&&laidKept (boot_heap (w.withFollow "special-get-raises" false).params) s.heap) (w.withFollow "special-get-raises" false) os)=fun _=>some true:=by intro w;kernel_rfl
theorem s1t:∀w:World,(fun os=>sV P0 7422 (fun s=>staticsOk (importedModules P0.main.body) (boot_heap (w.withFollow "special-get-raises" true).params) s.heap&&namesBound P0 s.heap&&gensDone s&&laidKept (boot_heap (w.withFollow "special-get-raises" true).params) s.heap) (w.withFollow "special-get-raises" true) os)=fun _=>some true:=by intro w;kernel_rfl
theorem s2f:∀w:World,(fun os=>sV P0 7422 (fun s=>(O0 s).1) (w.withFollow "special-get-raises" false) os)=fun _=>some (openGood Q0 L0).1:=by intro w;kernel_rfl
theorem s2t:∀w:World,(fun os=>sV P0 7422 (fun s=>(O0 s).1) (w.withFollow "special-get-raises" true) os)=fun _=>some (openGood Q0 L0).1:=by intro w;kernel_rfl
theorem s6f:∀w:World,(fun os=>sV P0 7422 (fun s=>(O0 s).2.1) (w.withFollow "special-get-raises" false) os)=fun _=>some (openGood Q0 L0).2.1:=by intro w;kernel_rfl
theorem s6t:∀w:World,(fun os=>sV P0 7422 (fun s=>(O0 s).2.1) (w.withFollow "special-get-raises" true) os)=fun _=>some (openGood Q0 L0).2.1:=by intro w;kernel_rfl
theorem s3f:∀w:World,(fun os=>sV P0 7422 (fun s=>(O0 s).2.2.1) (w.withFollow "special-get-raises" false) os)=fun _=>some (openGood Q0 L0).2.2.1:=by intro w;kernel_rfl
theorem s3t:∀w:World,(fun os=>sV P0 7422 (fun s=>(O0 s).2.2.1) (w.withFollow "special-get-raises" true) os)=fun _=>some (openGood Q0 L0).2.2.1:=by intro w;kernel_rfl
theorem s4f:∀w:World,(fun os=>sV P0 7422 (fun s=>(O0 s).2.2.2) (w.withFollow "special-get-raises" false) os)=fun _=>some (openGood Q0 L0).2.2.2:=by intro w;kernel_rfl
theorem s4t:∀w:World,(fun os=>sV P0 7422 (fun s=>(O0 s).2.2.2) (w.withFollow "special-get-raises" true) os)=fun _=>some (openGood Q0 L0).2.2.2:=by intro w;kernel_rfl
theorem s5f:∀w:World,(fun os=>sV P0 7422 (fun s=>as0.map s.heap.get?) (w.withFollow "special-get-raises" false) os)=fun _=>some ((GJ.heap_1 (w.withFollow "special-get-raises" false).params).map fun p=>some p.2):=by intro w;kernel_rfl
theorem s5t:∀w:World,(fun os=>sV P0 7422 (fun s=>as0.map s.heap.get?) (w.withFollow "special-get-raises" true) os)=fun _=>some ((GJ.heap_1 (w.withFollow "special-get-raises" true).params).map fun p=>some p.2):=by intro w;kernel_rfl
theorem e0 (P:Params):as0=(GJ.heap_1 P).map (·.1):=by kernel_rfl
theorem afq:LeftO P0 Q0 L0 X0 (Hook.obs (kHook GJ.heap_1 as0 e0)) (Hook.val (kHook GJ.heap_1 as0 e0)) 7422:=
 YM (p:=P0) (q:=Q0) (loose:=L0) (Xt:=X0) (by kernel_rfl) rfl (fun s=>by kernel_rfl) (fun w=>by kernel_rfl) (both s1f s1t) (both s2f s2t) (both s6f s6t) (both s3f s3t) (both s4f s4t) (both s5f s5t)
end Hd
namespace az
open Vbreab
theorem cN (a b:Int):a<b∨b≤a:=by omega
theorem cW {a b:Int} (ha:0<a) (h:0<a*b):0<b:=by
 rcases cN 0 b with hb | hb
 ·exact hb
 ·have:=Int.mul_nonpos_of_nonneg_of_nonpos (Int.le_of_lt ha) hb
  omega
theorem jh {a b:Int} (ha:0<a) (h:0≤a*b):0≤b:=by
 rcases cN b 0 with hb | hb
 ·have:=Int.mul_neg_of_pos_of_neg ha hb
  omega
 ·exact hb
theorem cO {a b:Int} (ha:0<a) (h:a*b=0):b=0:=by
 rcases Int.mul_eq_zero.1 h with h | h
 ·omega
 ·exact h
theorem Tv {a b m n:Int} (ha:-m≤a) (ha':a≤m) (hb:-n≤b) (hb':b≤n) (_hm:0≤m):-(m*n)≤a*b∧a*b≤m*n:=by
 have h1:=Int.mul_nonneg (show 0≤m-a by omega) (show 0≤n+b by omega)
 have h2:=Int.mul_nonneg (show 0≤m+a by omega) (show 0≤n-b by omega)
 have h3:=Int.mul_nonneg (show 0≤m-a by omega) (show 0≤n-b by omega)
 have h4:=Int.mul_nonneg (show 0≤m+a by omega) (show 0≤n+b by omega)
 constructor<;>grind
noncomputable def X (left:Bool) (a b:Pt):Int:=if left=true then cross a b else cross b a
theorem V2 (l:Bool) (a b:Pt):X l a b=- X l b a:=by
 cases l<;>simp [X,cross]<;>grind
theorem QS (l:Bool) (g a b c:Pt):X l b c*dot g a-X l a c*dot g b+X l a b*dot g c=0:=by
 cases l<;>simp [X,cross,dot]<;>grind
theorem afr (l:Bool) (a b c:Pt):X l (sub b a) (sub c b)=X l (sub b a) (sub c a):=by
 cases l<;>simp [X,cross,sub]<;>grind
noncomputable def Lft (l:Bool) (d e:Pt):Prop:=0<X l d e∨(X l d e=0∧0<dot d e)
theorem Lft.nonneg {l d e} (h:Lft l d e):0≤X l d e:=by rcases h with h | h<;>omega
theorem Hg (a:Pt):0≤dot a a:=by
 have h1:0≤a.x*a.x:=by
  rcases Int.le_total 0 a.x with h | h
  ·exact Int.mul_nonneg h h
  ·exact Int.mul_nonneg_of_nonpos_of_nonpos h h
 have h2:0≤a.y*a.y:=by
  rcases Int.le_total 0 a.y with h | h
  ·exact Int.mul_nonneg h h
  ·exact Int.mul_nonneg_of_nonpos_of_nonpos h h
 simp only [dot];omega
theorem sq_pos {a:Int} (h:a≠0):0<a*a:=by
 rcases Int.lt_or_gt_of_ne h with h | h
 ·exact Int.mul_pos_of_neg_of_neg h h
 ·exact Int.mul_pos h h
theorem sq_nonneg (a:Int):0≤a*a:=by
 by_cases h:a=0
 ·simp [h]
 ·exact Int.le_of_lt (sq_pos h)
theorem lD {a:Pt} (h:a.x≠0∨a.y≠0):0<dot a a:=by
 simp only [dot]
 rcases h with h | h
 ·have:=sq_pos h;have:=sq_nonneg a.y;omega
 ·have:=sq_pos h;have:=sq_nonneg a.x;omega
noncomputable def ahead (l:Bool) (d e:Pt):Int:=10000000000000*X l d e+dot d e
noncomputable def yL (l:Bool) (d:Pt):Pt:=if l=true then ⟨d.x-10000000000000*d.y,d.y+10000000000000*d.x⟩ else ⟨d.x+10000000000000*d.y,d.y-10000000000000*d.x⟩
theorem aar (l:Bool) (d e:Pt):dot (yL l d) e=ahead l d e:=by
 cases l<;>simp [yL,ahead,X,cross,dot]<;>grind
noncomputable def Near (n:Int) (e:Pt):Prop:=-n≤e.x∧e.x≤n∧-n≤e.y∧e.y≤n
theorem Tw {n m:Int} {d e:Pt} (hd:Near n d) (he:Near m e) (hn:0≤n):-(2*(n*m))≤dot d e∧dot d e≤2*(n*m):=by
 obtain ⟨a1,a2,a3,a4⟩:=hd
 obtain ⟨b1,b2,b3,b4⟩:=he
 have h1:=Tv a1 a2 b1 b2 hn
 have h2:=Tv a3 a4 b3 b4 hn
 simp only [dot];omega
theorem qI {l:Bool} {d e:Pt} (hd:Near 2000000 d) (he:Near 2000000 e) (h:Lft l d e):0<dot (yL l d) e:=by
 rw [aar,ahead]
 have:=Tw hd he (by omega)
 rcases h with h | ⟨h,h'⟩
 ·omega
 ·omega
theorem il {p q:Pt} (hp:Near 1000000 p) (hq:Near 1000000 q):Near 2000000 (sub p q):=by
 obtain ⟨a1,a2,a3,a4⟩:=hp
 obtain ⟨b1,b2,b3,b4⟩:=hq
 refine ⟨?_,?_,?_,?_⟩<;>simp only [sub]<;>omega
theorem stretched {l:Bool} {k a b:Pt} (h:X l a b=0):dot k a*b.x=dot k b*a.x∧dot k a*b.y=dot k b*a.y:=by
 cases l<;>simp only [X,cross,dot]at *<;>constructor<;>grind
noncomputable def Le (l:Bool) (a b:Pt):Prop:=0≤X l a b∧(X l a b=0→dot a a≤dot b b)
theorem Le.trans {l:Bool} {k a b c:Pt} (ka:0<dot k a) (kb:0<dot k b) (kc:0<dot k c) (h1:Le l a b) (h2:Le l b c):Le l a c:=by
 have e:=QS l k a b c
 have p1:=Int.mul_nonneg h2.1 (Int.le_of_lt ka)
 have p2:=Int.mul_nonneg h1.1 (Int.le_of_lt kc)
 have p3:dot k b*X l a c=X l b c*dot k a+X l a b*dot k c:=by grind
 refine ⟨jh kb (by omega),fun h0=>?_⟩
 rw [h0]at p3
 have z1:dot k a*X l b c=0:=by rw [Int.mul_comm];omega
 have z2:dot k c*X l a b=0:=by rw [Int.mul_comm];omega
 have:=h1.2 (cO kc z2)
 have:=h2.2 (cO ka z1)
 omega
theorem Le.XF {l:Bool} {k a b:Pt} (ka:0<dot k a) (kb:0<dot k b) (h:Le l a b) (hne:a≠b):Lft l a (sub b a):=by
 have hx:X l a (sub b a)=X l a b:=by cases l<;>simp [X,cross,sub]<;>grind
 rcases cN 0 (X l a b) with h0 | h0
 ·exact Or.inl (by omega)
 ·have h0:X l a b=0:=by have:=h.1;omega
  refine Or.inr ⟨by omega,?_⟩
  obtain ⟨s1,s2⟩:=stretched (k:=k) h0
  have hd:=h.2 h0
  have ha:a.x≠0∨a.y≠0:=by
   rcases Decidable.em (a.x=0) with h1 | h1
   ·rcases Decidable.em (a.y=0) with h2 | h2
    ·simp [dot,h1,h2]at ka
    ·exact Or.inr h2
   ·exact Or.inl h1
  have hpa:=lD ha
  have q1:dot k a*dot k a*dot b b=dot k b*dot k b*dot a a:=by
   have:dot k a*dot k a*dot b b=(dot k a*b.x)*(dot k a*b.x)+(dot k a*b.y)*(dot k a*b.y):=by
    simp only [dot];grind
   rw [this,s1,s2];simp only [dot];grind
  have q2:dot k a*dot a b=dot k b*dot a a:=by
   have:dot k a*dot a b=(dot k a*b.x)*a.x+(dot k a*b.y)*a.y:=by simp only [dot];grind
   rw [this,s1,s2];simp only [dot];grind
  have q3:dot k a<dot k b:=by
   rcases cN (dot k a) (dot k b) with q | q
   ·exact q
   ·exfalso
    have m1:dot k b*dot k b*dot a a≤dot k a*dot k b*dot a a:=by
     have:=Int.mul_nonneg (Int.mul_nonneg (show 0≤dot k a-dot k b by omega) (Int.le_of_lt kb)) (Int.le_of_lt hpa)
     grind
    have m2:dot k a*dot k b*dot a a≤dot k a*dot k a*dot a a:=by
     have:=Int.mul_nonneg (Int.mul_nonneg (show 0≤dot k a-dot k b by omega) (Int.le_of_lt ka)) (Int.le_of_lt hpa)
     grind
    have m3:dot k a*dot k a*dot a a≤dot k a*dot k a*dot b b:=
     Int.mul_le_mul_of_nonneg_left hd (sq_nonneg _)
    have m4:dot k a*dot k b*dot a a=dot k a*dot k a*dot a a:=by omega
    have m5:dot k a*(dot a a*(dot k b-dot k a))=0:=by grind
    have m6:=cO hpa (cO ka m5)
    have m7:dot k b=dot k a:=by omega
    rw [m7]at s1 s2
    have e1:b.x=a.x:=by
     have:dot k a*(b.x-a.x)=0:=by grind
     have:=cO ka this;omega
    have e2:b.y=a.y:=by
     have:dot k a*(b.y-a.y)=0:=by grind
     have:=cO ka this;omega
    apply hne
    cases a;cases b;simp only at e1 e2;simp [e1,e2]
  have q4:dot k a*dot a (sub b a)=(dot k b-dot k a)*dot a a:=by
   have:dot a (sub b a)=dot a b-dot a a:=by simp only [dot,sub];grind
   rw [this];grind
  have q5:=Int.mul_pos (show 0<dot k b-dot k a by omega) hpa
  exact cW ka (by omega)
theorem falls {l:Bool} {h a b c:Pt} (ha:0<dot h a) (hc:0<dot h c) (hab:Lft l a b) (hac:0≤X l a c) (hbc:0≤X l b c):0<dot h b:=by
 rcases cN 0 (dot h b) with q | q
 ·exact q
 ·exfalso
  have e:=QS l h a b c
  have p1:=Int.mul_nonneg hbc (Int.le_of_lt ha)
  have p2:=Int.mul_nonneg hab.nonneg (Int.le_of_lt hc)
  have p3:=Int.mul_nonpos_of_nonneg_of_nonpos hac q
  have z:X l a b*dot h c=0:=by omega
  have z2:X l a b=0:=cO hc (by rw [Int.mul_comm];exact z)
  rcases hab with h1 | ⟨_,h2⟩
  ·omega
  ·
   have e2:dot a a*dot h b=dot a b*dot h a:=by
    cases l<;>simp only [X,cross,dot]at z2 ⊢<;>grind
   have:=Int.mul_pos h2 ha
   have h3:=Int.mul_nonpos_of_nonneg_of_nonpos (Hg a) q
   omega
structure Aff where
 a:Int
 b:Int
 c:Int
noncomputable def Aff.lin (f:Aff):Pt:=⟨f.a,f.b⟩
noncomputable def Aff.val (f:Aff) (p:Pt):Int:=f.a*p.x+f.b*p.y+f.c
noncomputable def Aff.pos (f:Aff) (p:Pt):Bool:=decide (0<f.val p)
theorem Aff.val_sub (f:Aff) (p q:Pt):f.val q=f.val p+dot f.lin (sub q p):=by
 simp only [Aff.val,Aff.lin,dot,sub];grind
noncomputable def Aff.other (f:Aff):Aff:=⟨-f.a,-f.b,1-f.c⟩
theorem Aff.YQ (f:Aff) (p:Pt):f.other.pos p=!f.pos p:=by
 have:f.other.val p=1-f.val p:=by simp only [Aff.val,Aff.other];grind
 simp only [Aff.pos,this]
 by_cases h:0<f.val p
 ·have h':¬0<1-f.val p:=by omega
  rw [decide_eq_true h,decide_eq_false h'];rfl
 ·have h':0<1-f.val p:=by omega
  rw [decide_eq_false h,decide_eq_true h'];rfl
noncomputable def dB (f:Aff) (p q:Pt):Nat:=if f.pos p=f.pos q then 0 else 1
noncomputable def bZ (f:Aff):List Pt→Nat
 | p::q::r=>dB f p q+bZ f (q::r)
 | _=>0
theorem GK (f:Aff):∀l:List Pt,bZ f.other l=bZ f l
 | []=>rfl
 | [_]=>rfl
 | p::q::r=>by
  simp only [bZ,dB,Aff.YQ,GK f (q::r)]
  cases f.pos p<;>cases f.pos q<;>rfl
theorem Bu (f:Aff):∀(a:List Pt) (p:Pt) (b:List Pt),bZ f (a++p::b)=bZ f (a++[p])+bZ f (p::b)
 | [],p,b=>by simp [bZ]
 | [x],p,b=>by simp [bZ]
 | x::y::r,p,b=>by
  have:=Bu f (y::r) p b
  simp only [List.cons_append,bZ]at this ⊢
  omega
theorem zM (f:Aff) (z:Bool):∀l:List Pt,(∀p∈l,f.pos p=z)→bZ f l=0
 | [],_=>rfl
 | [_],_=>rfl
 | p::q::r,h=>by
  have h1:=h p (by simp)
  have h2:=h q (by simp)
  have h3:=zM f z (q::r) (fun x hx=>h x (List.mem_cons_of_mem _ hx))
  simp [bZ,dB,h1,h2,h3]
theorem Bv (f:Aff):∀(p:Pt) (r:List Pt) (w:Pt),bZ f (p::(r++[w])) % 2=if f.pos p=f.pos w then 0 else 1
 | p,[],w=>by
  simp only [List.nil_append,bZ,dB]
  split<;>rfl
 | p,q::r,w=>by
  have:=Bv f q r w
  simp only [List.cons_append,bZ,dB]at this ⊢
  generalize bZ f (q::(r++[w]))=n at this ⊢
  revert this
  cases f.pos p<;>cases f.pos q<;>cases f.pos w<;>simp<;>omega
noncomputable def Hh (l:Bool) (h:Pt):Pt→List Pt→Prop
 | d,c::q::r=>0≤X l d (sub q c)∧0<dot h (sub q c)∧Hh l h (sub q c) (q::r)
 | _,_=>True
noncomputable def along (l:Bool) (D:Pt):Pt:=if l=true then ⟨D.y,-D.x⟩ else ⟨-D.y,D.x⟩
theorem Jl (l:Bool) (D e:Pt):dot (along l D) e=X l e D:=by
 cases l<;>simp [along,X,cross,dot]<;>grind
theorem adS (l:Bool) (D g a b:Pt):dot g a*dot (along l D) b-dot g b*dot (along l D) a=- dot g D*X l a b:=by
 cases l<;>simp [along,X,cross,dot]<;>grind
theorem Tz {l:Bool} {D g a b:Pt} (hD:dot g D≤0) (ha:0<dot (along l D) a) (hb:0<dot (along l D) b) (hx:0≤X l a b) (h:dot g a≤0):dot g b≤0:=by
 have e:=adS l D g a b
 have p:=Int.mul_nonneg (show 0≤- dot g D by omega) hx
 have q:=Int.mul_nonpos_of_nonpos_of_nonneg h (Int.le_of_lt hb)
 have r:dot (along l D) a*dot g b≤0:=by rw [Int.mul_comm];omega
 rcases cN 0 (dot g b) with z | z
 ·have:=Int.mul_pos ha z;omega
 ·exact z
theorem Pz {l:Bool} {D:Pt} (f:Aff) (hD:dot f.lin D≤0):∀(r:List Pt) (d c:Pt),0<dot (along l D) d→Hh l (along l D) d (c::r)→dot f.lin d≤0→
  bZ f (c::r)≤if f.pos c=true then 1 else 0
 | [],d,c,_,_,_=>by simp [bZ]
 | q::r,d,c,hd,hb,hg=>by
  obtain ⟨b1,b2,b3⟩:=hb
  have g2:=Tz hD hd b2 b1 hg
  have ih:=Pz f hD r (sub q c) q b2 b3 g2
  have e:=f.val_sub c q
  simp only [bZ,dB]
  by_cases hc:0<f.val c
  ·have pc:f.pos c=true:=by simp [Aff.pos,hc]
   by_cases hq:0<f.val q
   ·have pq:f.pos q=true:=by simp [Aff.pos,hq]
    simp only [pc,pq,if_true]at ih ⊢;omega
   ·have pq:f.pos q=false:=by simp [Aff.pos,hq]
    simp [pc,pq]at ih ⊢;omega
  ·have pc:f.pos c=false:=by simp [Aff.pos,hc]
   have hq:¬0<f.val q:=by omega
   have pq:f.pos q=false:=by simp [Aff.pos,hq]
   simp [pc,pq]at ih ⊢;omega
theorem QT {l:Bool} {D:Pt} (f:Aff) (hD:dot f.lin D≤0):∀(r:List Pt) (d c:Pt),0<dot (along l D) d→Hh l (along l D) d (c::r)→
  bZ f (c::r)≤if f.pos c=true then 1 else 2
 | [],d,c,_,_=>by simp [bZ]
 | q::r,d,c,hd,hb=>by
  obtain ⟨b1,b2,b3⟩:=hb
  have ih:=QT f hD r (sub q c) q b2 b3
  have e:=f.val_sub c q
  simp only [bZ,dB]
  by_cases hc:0<f.val c
  ·have pc:f.pos c=true:=by simp [Aff.pos,hc]
   by_cases hq:0<f.val q
   ·have pq:f.pos q=true:=by simp [Aff.pos,hq]
    simp only [pc,pq,if_true]at ih ⊢;omega
   ·have pq:f.pos q=false:=by simp [Aff.pos,hq]
    have ih2:=Pz f hD r (sub q c) q b2 b3 (by omega)
    simp [pc,pq]at ih2 ⊢;omega
  ·have pc:f.pos c=false:=by simp [Aff.pos,hc]
   by_cases hq:0<f.val q
   ·have pq:f.pos q=true:=by simp [Aff.pos,hq]
    simp [pc,pq]at ih ⊢;omega
   ·have pq:f.pos q=false:=by simp [Aff.pos,hq]
    simp [pc,pq]at ih ⊢;omega
theorem aas {l:Bool} {D d c:Pt} (f:Aff) (r:List Pt) (hd:0<dot (along l D) d) (hb:Hh l (along l D) d (c::r)):bZ f (c::r)≤2:=by
 rcases Int.le_total (dot f.lin D) 0 with h | h
 ·have:=QT f h r d c hd hb
  split at this<;>omega
 ·rw [←GK]
  have h':dot f.other.lin D≤0:=by
   have:dot f.other.lin D=- dot f.lin D:=by simp only [Aff.lin,Aff.other,dot];grind
   omega
  have:=QT f.other h' r d c hd hb
  split at this<;>omega
noncomputable def better (left:Bool) (c p q:Pt):Bool:=
 let z:=if left=true then cross (sub q c) (sub p c) else cross (sub p c) (sub q c)
 decide (z<0)||(decide (z=0)&&decide (dot (sub p c) (sub p c)<dot (sub q c) (sub q c)))
theorem Jm (left:Bool) (c p q:Pt):better left c p q=true↔(X left (sub q c) (sub p c)<0∨(X left (sub q c) (sub p c)=0∧dot (sub p c) (sub p c)<dot (sub q c) (sub q c))):=by
 cases left<;>simp [better,X]
theorem Jo (left:Bool) (c p q:Pt) (h:better left c p q=false):Le left (sub q c) (sub p c):=by
 have h':¬better left c p q=true:=by simp [h]
 rw [Jm]at h'
 constructor
 ·rcases cN (X left (sub q c) (sub p c)) 0 with z | z
  ·exact absurd (Or.inl z) h'
  ·exact z
 ·intro z
  rcases cN (dot (sub p c) (sub p c)) (dot (sub q c) (sub q c)) with y | y
  ·exact absurd (Or.inr ⟨z,y⟩) h'
  ·exact y
theorem yM (left:Bool) (c p q:Pt) (h:better left c p q=true):Le left (sub p c) (sub q c):=by
 rw [Jm]at h
 have a:=V2 left (sub p c) (sub q c)
 constructor
 ·omega
 ·intro z;omega
noncomputable def bestOf (left:Bool) (c:Pt) (l:List (Pt×Nat)) (goal:Pt):Option (Pt×Nat):=
 l.foldl (fun (b:Option (Pt×Nat)) x=>match b with
   | none=>if better left c x.1 goal=true then some x else none
   | some y=>if better left c x.1 y.1=true then some x else b) none
theorem Bw (left:Bool) (f:Nat) (c:Pt) (l:List (Pt×Nat)) (goal:Pt) :
  hug left (f+1) c l goal=match bestOf left c l goal with
   | none=>[]
   | some y=>y::hug left f y.1 (l.filter fun x=>x.2 != y.2) goal:=by
 rfl
theorem Jp {left:Bool} {c goal k:Pt} (hg:0<dot k (sub goal c)) :
  ∀(l done:List (Pt×Nat)) (acc:Option (Pt×Nat)),(∀x∈l,0<dot k (sub x.1 c))→(∀x∈done,0<dot k (sub x.1 c))→
  (match acc with
   | none=>∀x∈done,Le left (sub goal c) (sub x.1 c)
   | some y=>y∈done∧Le left (sub y.1 c) (sub goal c)∧∀x∈done,Le left (sub y.1 c) (sub x.1 c))→
  (match l.foldl (fun (b:Option (Pt×Nat)) x=>match b with
   | none=>if better left c x.1 goal=true then some x else none
   | some y=>if better left c x.1 y.1=true then some x else b) acc with
   | none=>True
   | some y=>y∈done++l∧Le left (sub y.1 c) (sub goal c)∧∀x∈done++l,Le left (sub y.1 c) (sub x.1 c))
 | [],done,acc,_,_,h=>by
  cases acc with
  | none=>trivial
  | some y=>simpa using h
 | x::l,done,acc,hl,hd,h=>by
  have hx:=hl x (by simp)
  have aat:Le left (sub x.1 c) (sub x.1 c):=by
   constructor
   ·have:=V2 left (sub x.1 c) (sub x.1 c);omega
   ·intro _;omega
  have key:=Jp (left:=left) hg l (done++[x])
  have hl':∀y∈l,0<dot k (sub y.1 c):=fun y hy=>hl y (List.mem_cons_of_mem _ hy)
  have hd':∀y∈done++[x],0<dot k (sub y.1 c):=by
   intro y hy
   rcases List.mem_append.1 hy with hy | hy
   ·exact hd y hy
   ·rw [List.mem_singleton.1 hy];exact hx
  have e:done++x::l=(done++[x])++l:=by simp
  rw [e,List.foldl_cons]
  refine key _ hl' hd' ?_
  cases acc with
  | none=>
   dsimp only at h ⊢
   cases hb:better left c x.1 goal with
   | false=>
    simp only [Bool.false_eq_true,if_false]
    intro y hy
    rcases List.mem_append.1 hy with hy | hy
    ·exact h y hy
    ·rw [List.mem_singleton.1 hy];exact Jo _ _ _ _ hb
   | true=>
    simp only [if_true]
    refine ⟨by simp,yM _ _ _ _ hb,?_⟩
    intro y hy
    rcases List.mem_append.1 hy with hy | hy
    ·exact Le.trans hx hg (hd y hy) (yM _ _ _ _ hb) (h y hy)
    ·rw [List.mem_singleton.1 hy];exact aat
  | some z=>
   dsimp only at h ⊢
   obtain ⟨h1,h2,h3⟩:=h
   have hz:=hd z h1
   cases hb:better left c x.1 z.1 with
   | false=>
    simp only [Bool.false_eq_true,if_false]
    refine ⟨by simp [h1],h2,?_⟩
    intro y hy
    rcases List.mem_append.1 hy with hy | hy
    ·exact h3 y hy
    ·rw [List.mem_singleton.1 hy];exact Jo _ _ _ _ hb
   | true=>
    simp only [if_true]
    refine ⟨by simp,Le.trans hx hz hg (yM _ _ _ _ hb) h2,?_⟩
    intro y hy
    rcases List.mem_append.1 hy with hy | hy
    ·exact Le.trans hx hz (hd y hy) (yM _ _ _ _ hb) (h3 y hy)
    ·rw [List.mem_singleton.1 hy];exact aat
theorem Bx {left:Bool} {c goal k:Pt} {l:List (Pt×Nat)} {y:Pt×Nat} (hg:0<dot k (sub goal c)) (hl:∀x∈l,0<dot k (sub x.1 c)) (h:bestOf left c l goal=some y) :
  y∈l∧Le left (sub y.1 c) (sub goal c)∧∀x∈l,Le left (sub y.1 c) (sub x.1 c):=by
 have:=Jp (left:=left) hg l [] none hl (by simp) (by simp)
 rw [show (l.foldl (fun (b:Option (Pt×Nat)) x=>match b with
   | none=>if better left c x.1 goal=true then some x else none
   | some y=>if better left c x.1 y.1=true then some x else b) none)=some y from h]at this
 simpa using this
theorem XH (left:Bool):∀(f:Nat) (c:Pt) (l:List (Pt×Nat)) (goal:Pt),∀x∈hug left f c l goal,x∈l
 | 0,_,_,_,x,hx=>by simp [hug]at hx
 | f+1,c,l,goal,x,hx=>by
  rw [Bw]at hx
  cases hb:bestOf left c l goal with
  | none=>simp [hb]at hx
  | some y=>
   simp only [hb,List.mem_cons]at hx
   have hy:y∈l:=by
    have:∀(l done:List (Pt×Nat)) (acc:Option (Pt×Nat)),(∀y,acc=some y→y∈done)→∀y,l.foldl (fun (b:Option (Pt×Nat)) x=>match b with
      | none=>if better left c x.1 goal=true then some x else none
      | some y=>if better left c x.1 y.1=true then some x else b) acc=some y→y∈done++l:=by
     intro l
     induction l with
     | nil=>intro done acc h y hy;simpa using h y hy
     | cons x l ih=>
      intro done acc h y hy
      rw [List.foldl_cons]at hy
      have:=ih (done++[x]) _ ?_ y hy
      ·simpa using this
      ·intro z hz
       cases acc with
       | none=>
        dsimp only at hz
        split at hz
        ·cases hz;simp
        ·cases hz
       | some a=>
        dsimp only at hz
        split at hz
        ·cases hz;simp
        ·have:=h z hz;simp [this]
    simpa using this l [] none (by simp) y hb
   rcases hx with hx | hx
   ·rw [hx];exact hy
   ·exact (List.mem_filter.1 (XH left f y.1 _ goal x hx)).1
structure vg (left:Bool) (h d c goal:Pt) (l:List (Pt×Nat)):Prop where
 falls:0<dot h d
 oK:Lft left d (sub goal c)
 mY:0<dot h (sub goal c)
 XF:∀x∈l,Lft left d (sub x.1 c)
 qN:∀x∈l,0<dot h (sub goal x.1)
 near:∀x∈l,Near 1000000 x.1
 wY:Near 1000000 c
 o4:Near 1000000 goal
 BJ:Near 2000000 d
 sX:∀x∈l,x.1≠goal
 apart:∀x∈l,∀y∈l,x.2≠y.2→x.1≠y.1
theorem Jq {left:Bool} {h:Pt}:∀(f:Nat) (d c goal:Pt) (l:List (Pt×Nat)),vg left h d c goal l→
  Hh left h d (c::((hug left f c l goal).map (·.1)++[goal]))
 | 0,d,c,goal,l,H=>by
  simp only [hug,List.map_nil,List.nil_append,Hh]
  exact ⟨H.oK.nonneg,H.mY,trivial⟩
 | f+1,d,c,goal,l,H=>by
  rw [Bw]
  cases hb:bestOf left c l goal with
  | none=>
   simp only [List.map_nil,List.nil_append,Hh]
   exact ⟨H.oK.nonneg,H.mY,trivial⟩
  | some y=>
   have kg:=qI H.BJ (il H.o4 H.wY) H.oK
   have kl:∀x∈l,0<dot (yL left d) (sub x.1 c):=fun x hx=>qI H.BJ (il (H.near x hx) H.wY) (H.XF x hx)
   obtain ⟨hy,hyg,hyl⟩:=Bx kg kl hb
   have hsub:∀p:Pt,sub (sub p c) (sub y.1 c)=sub p y.1:=by
    intro p;simp only [sub,Pt.mk.injEq];omega
   have inj:∀p:Pt,y.1≠p→sub y.1 c≠sub p c:=by
    intro p hp hq
    apply hp
    simp only [sub,Pt.mk.injEq]at hq
    cases p;cases hz:y.1
    rw [hz]at hq
    simp only [Pt.mk.injEq]at *
    omega
   have hf:0<dot h (sub y.1 c):=falls H.falls H.mY (H.XF y hy) H.oK.nonneg hyg.1
   have N:vg left h (sub y.1 c) y.1 goal (l.filter fun x=>x.2 != y.2):={
    falls:=hf
    oK:=by
     have:=Le.XF (kl y hy) kg hyg (inj goal (H.sX y hy))
     rwa [hsub]at this
    mY:=H.qN y hy
    XF:=by
     intro x hx
     have hx1:=List.mem_filter.1 hx
     have hne:x.2≠y.2:=by simpa using hx1.2
     have:=Le.XF (kl y hy) (kl x hx1.1) (hyl x hx1.1) (inj x.1 (H.apart y hy x hx1.1 (Ne.symm hne)))
     rwa [hsub]at this
    qN:=fun x hx=>H.qN x (List.mem_filter.1 hx).1
    near:=fun x hx=>H.near x (List.mem_filter.1 hx).1
    wY:=H.near y hy
    o4:=H.o4
    BJ:=il (H.near y hy) H.wY
    sX:=fun x hx=>H.sX x (List.mem_filter.1 hx).1
    apart:=fun x hx z hz=>H.apart x (List.mem_filter.1 hx).1 z (List.mem_filter.1 hz).1 }
   have ih:=Jq f (sub y.1 c) y.1 goal _ N
   simp only [List.map_cons,List.cons_append,Hh]
   exact ⟨(H.XF y hy).nonneg,hf,ih⟩
@[simp] theorem zy (v:Node) (p d e:Pt):(turnedNext v p d e).at_=v.at_:=by
 unfold turnedNext;repeat' (first | rfl | split)
@[simp] theorem Hi (v:Node) (p d e:Pt):(turnedNext v p d e).mark=v.mark:=by
 unfold turnedNext;repeat' (first | rfl | split)
@[simp] theorem Ng (v:Node) (p q d:Pt):(turnedPrev v p q d).at_=v.at_:=by
 unfold turnedPrev;repeat' (first | rfl | split)
@[simp] theorem aal (v:Node) (p q d:Pt):(turnedPrev v p q d).mark=v.mark:=by
 unfold turnedPrev;repeat' (first | rfl | split)
@[simp] theorem ae5 (a b:Node) (p d e:Pt):(joined a b p d e).at_=a.at_:=rfl
@[simp] theorem adn (a b:Node) (p d e:Pt):(joined a b p d e).mark=a.mark:=rfl
noncomputable def cX (marks:List Pt) (u v w:Pt):List (Pt×Nat):=(List.range marks.length).filterMap fun m=>match marks[m]? with
   | some p=>if inTriangle u v w p=true∧p≠u∧p≠w then some (p,m) else none
   | none=>none
theorem eQ {marks:List Pt} {u v w:Pt} {x:Pt×Nat} (h:x∈cX marks u v w):marks[x.2]?=some x.1∧inTriangle u v w x.1=true∧x.1≠u∧x.1≠w:=by
 simp only [cX,List.mem_filterMap]at h
 obtain ⟨m,_,hm⟩:=h
 split at hm
 ·rename_i p hp
  split at hm
  ·rename_i hc
   cases hm
   exact ⟨hp,hc⟩
  ·cases hm
 ·cases hm
structure bK (marks:List Pt):Prop where
 near:∀p∈marks,Near 1000000 p
 apart:∀(i j:Nat) (p:Pt),marks[i]?=some p→marks[j]?=some p→i=j
theorem jy {u v w p:Pt} (h:inTriangle u v w p=true) :
  0<X (decide (0<side u v w)) (sub v u) (sub w u)∧0<X (decide (0<side u v w)) (sub v u) (sub p u)∧
  0<X (decide (0<side u v w)) (sub w v) (sub p v)∧0≤X (decide (0<side u v w)) (sub u w) (sub p w):=by
 unfold inTriangle at h
 by_cases hs:0<side u v w
 ·simp only [hs,if_true,decide_eq_true_eq]at h
  simp only [hs,decide_true,X,if_true]
  exact ⟨hs,h⟩
 ·simp only [hs,if_false]at h
  by_cases hs':side u v w<0
  ·simp only [hs',if_true,decide_eq_true_eq]at h
   simp only [hs,decide_false,X,Bool.false_eq_true,if_false]
   have c1:∀a b:Pt,cross a b=- cross b a:=by intro a b;simp only [cross];grind
   rw [c1 (sub w u),c1 (sub p u),c1 (sub p v),c1 (sub p w)]
   simp only [side]at *
   omega
  ·simp [hs']at h
theorem TF (l:Bool) (f:Aff) (u v w p:Pt):X l (sub v u) (sub w u)*f.val p =
  X l (sub w v) (sub p v)*f.val u+X l (sub u w) (sub p w)*f.val v+X l (sub v u) (sub p u)*f.val w:=by
 cases l<;>simp [X,cross,sub,Aff.val]<;>grind
theorem QV {f:Aff} {u v w p:Pt} {z:Bool} (h:inTriangle u v w p=true) (hu:f.pos u=z) (hv:f.pos v=z) (hw:f.pos w=z):f.pos p=z:=by
 obtain ⟨s,a,b,c⟩:=jy h
 have e:=TF (decide (0<side u v w)) f u v w p
 generalize X (decide (0<side u v w)) (sub v u) (sub w u)=S at *
 generalize X (decide (0<side u v w)) (sub w v) (sub p v)=B at *
 generalize X (decide (0<side u v w)) (sub u w) (sub p w)=C at *
 generalize X (decide (0<side u v w)) (sub v u) (sub p u)=A at *
 simp only [Aff.pos]at *
 cases z with
 | true=>
  simp only [decide_eq_true_eq]at *
  have h1:=Int.mul_pos b hu
  have h2:=Int.mul_nonneg c (Int.le_of_lt hv)
  have h3:=Int.mul_pos a hw
  exact cW s (by omega)
 | false=>
  simp only [decide_eq_false_iff_not]at *
  have h1:=Int.mul_nonpos_of_nonneg_of_nonpos (Int.le_of_lt b) (show f.val u≤0 by omega)
  have h2:=Int.mul_nonpos_of_nonneg_of_nonpos c (show f.val v≤0 by omega)
  have h3:=Int.mul_nonpos_of_nonneg_of_nonpos (Int.le_of_lt a) (show f.val w≤0 by omega)
  intro hp
  have:=Int.mul_pos s hp
  omega
noncomputable def rowOf (marks:List Pt) (u v w:Pt):List (Pt×Nat):=hug (decide (0<side u v w)) (marks.length+1) u (cX marks u v w) w
theorem qJ {marks:List Pt} {u v w:Pt} {x:Pt×Nat} (h:x∈rowOf marks u v w):marks[x.2]?=some x.1∧inTriangle u v w x.1=true∧x.1≠u∧x.1≠w:=
 eQ (XH _ _ _ _ _ x h)
theorem Ef {marks:List Pt} (hm:bK marks) {u v w:Pt} (hu:Near 1000000 u) (hv:Near 1000000 v) (hw:Near 1000000 w) (hs:side u v w≠0) :
  vg (decide (0<side u v w)) (along (decide (0<side u v w)) (sub w v)) (sub v u) u w (cX marks u v w):=by
 have hS:0<X (decide (0<side u v w)) (sub v u) (sub w u):=by
  by_cases h:0<side u v w
  ·simp only [h,decide_true,X,if_true];exact h
  ·simp only [h,decide_false,X,Bool.false_eq_true,if_false]
   have:cross (sub w u) (sub v u)=- side u v w:=by simp only [side,cross];grind
   omega
 refine { falls:=?_,oK:=Or.inl hS,mY:=?_,XF:=?_,qN:=?_,near:=?_,wY:=hu,o4:=hw,BJ:=il hv hu,sX:=?_,apart:=?_ }
 ·rw [Jl,afr];exact hS
 ·rw [Jl]
  have:∀l,X l (sub w u) (sub w v)=X l (sub v u) (sub w u):=by
   intro l;cases l<;>simp [X,cross,sub]<;>grind
  rw [this];exact hS
 ·intro x hx
  exact Or.inl (jy (eQ hx).2.1).2.1
 ·intro x hx
  rw [Jl]
  have:∀l,X l (sub w x.1) (sub w v)=X l (sub w v) (sub x.1 v):=by
   intro l;cases l<;>simp [X,cross,sub]<;>grind
  rw [this];exact (jy (eQ hx).2.1).2.2.1
 ·intro x hx
  exact hm.near _ (List.mem_of_getElem? (eQ hx).1)
 ·intro x hx;exact (eQ hx).2.2.2
 ·intro x hx y hy hne hxy
  have h1:=(eQ hx).1
  have h2:=(eQ hy).1
  rw [←hxy]at h2
  exact hne (hm.apart _ _ _ h1 h2)
theorem Jr {marks:List Pt} {u v w:Pt} (hs:side u v w=0):rowOf marks u v w=[]:=by
 have:∀x,¬x∈rowOf marks u v w:=by
  intro x hx
  have:=(qJ hx).2.1
  simp [inTriangle,hs]at this
 exact List.eq_nil_iff_forall_not_mem.2 this
theorem YS {marks:List Pt} (hm:bK marks) {u v w:Pt} (hu:Near 1000000 u) (hv:Near 1000000 v) (hw:Near 1000000 w) (f:Aff) :
  bZ f (u::((rowOf marks u v w).map (·.1)++[w]))≤dB f u v+dB f v w:=by
 by_cases hs:side u v w=0
 ·rw [Jr hs]
  simp only [List.map_nil,List.nil_append,bZ,dB]
  cases f.pos u<;>cases f.pos v<;>cases f.pos w<;>simp
 ·have H:=Ef hm hu hv hw hs
  have two:=aas f _ H.falls (Jq (marks.length+1) _ _ _ _ H)
  have par:=Bv f u ((rowOf marks u v w).map (·.1)) w
  change bZ f (u::((rowOf marks u v w).map (·.1)++[w]))≤2 at two
  by_cases h1:f.pos u=f.pos w
  ·by_cases h2:f.pos v=f.pos u
   ·have:bZ f (u::((rowOf marks u v w).map (·.1)++[w]))=0:=by
     apply zM f (f.pos u)
     intro p hp
     simp only [List.mem_cons,List.mem_append,List.mem_map,List.not_mem_nil,or_false]at hp
     rcases hp with hp | ⟨x,hx,hp⟩ | hp
     ·rw [hp]
     ·rw [←hp];exact QV (qJ hx).2.1 rfl h2 h1.symm
     ·rw [hp];exact h1.symm
    omega
   ·have e1:dB f u v=1:=by simp [dB,Ne.symm h2]
    have e2:dB f v w=1:=by simp [dB,←h1,h2]
    omega
  ·simp only [h1,if_false]at par
   have:1≤dB f u v+dB f v w:=by
    simp only [dB]
    revert h1
    cases f.pos u<;>cases f.pos v<;>cases f.pos w<;>simp
   omega
noncomputable def jN (l:Bool) (v u:Pt):Aff:=
 let d:=sub u v
 if l=true then ⟨-10000000000000*d.y-d.x,10000000000000*d.x-d.y,10000000000000*(d.y*v.x-d.x*v.y)+dot d v+1⟩
 else ⟨10000000000000*d.y-d.x,-10000000000000*d.x-d.y,-10000000000000*(d.y*v.x-d.x*v.y)+dot d v+1⟩
theorem Js (l:Bool) (v u p:Pt):(jN l v u).val p=10000000000000*X l (sub u v) (sub p v)-dot (sub u v) (sub p v)+1:=by
 cases l<;>simp [jN,Aff.val,X,cross,dot,sub]<;>grind
theorem ab9 (l:Bool) (v u:Pt):(jN l v u).pos v=true:=by
 have:(jN l v u).val v=1:=by
  rw [Js]
  cases l<;>simp [X,cross,dot,sub]
 simp [Aff.pos,this]
theorem zN {l:Bool} {v u p:Pt} (hu:Near 1000000 u) (hv:Near 1000000 v) (hp:Near 1000000 p) (h:X l (sub u v) (sub p v)<0∨(X l (sub u v) (sub p v)=0∧0<dot (sub u v) (sub p v))):(jN l v u).pos p=false:=by
 have:=Tw (il hu hv) (il hp hv) (by omega)
 have e:=Js l v u p
 have:¬0<(jN l v u).val p:=by
  rcases h with h | ⟨h,h'⟩<;>omega
 simp [Aff.pos,this]
theorem aft {l:Bool} {v u:Pt} (hu:Near 1000000 u) (hv:Near 1000000 v) (h:u≠v):(jN l v u).pos u=false:=by
 apply zN hu hv hu
 refine Or.inr ⟨?_,?_⟩
 ·have:=V2 l (sub u v) (sub u v);omega
 ·apply lD
  by_cases h1:u.x=v.x
  ·right
   intro h2
   apply h
   cases u;cases v
   simp only [sub,Pt.mk.injEq]at *
   omega
  ·left;simp only [sub];omega
theorem XJ {marks:List Pt} (hm:bK marks) {u v w:Pt} (hu:Near 1000000 u) (hv:Near 1000000 v) (hw:Near 1000000 w)
  (h:cross (sub u v) (sub w v)≠0∨0<dot (sub u v) (sub w v)) :
  let f:=jN (decide (0<side u v w)) v u
  bZ f (u::((rowOf marks u v w).map (·.1)++[w]))=0∧dB f u v=1∧dB f v w=1:=by
 intro f
 have hne:u≠v:=by
  intro e
  subst e
  simp [cross,dot,sub]at h
 have fv:f.pos v=true:=ab9 _ _ _
 have fu:f.pos u=false:=aft hu hv hne
 have sc:side u v w=- cross (sub u v) (sub w v):=by simp only [side,cross,sub];grind
 have fw:f.pos w=false:=by
  apply zN hu hv hw
  by_cases hs:0<side u v w
  ·simp only [hs,decide_true,X,if_true];omega
  ·simp only [hs,decide_false,X,Bool.false_eq_true,if_false]
   have:cross (sub w v) (sub u v)=- cross (sub u v) (sub w v):=by simp only [cross];grind
   omega
 refine ⟨?_,?_,?_⟩
 ·apply zM f false
  intro p hp
  simp only [List.mem_cons,List.mem_append,List.mem_map,List.not_mem_nil,or_false]at hp
  rcases hp with hp | ⟨x,hx,hp⟩ | hp
  ·rw [hp];exact fu
  ·rw [←hp]
   obtain ⟨h1,h2,_,_⟩:=qJ hx
   apply zN hu hv (hm.near _ (List.mem_of_getElem? h1))
   left
   have:=(jy h2).2.1
   have e:∀l,X l (sub u v) (sub x.1 v)=- X l (sub v u) (sub x.1 u):=by
    intro l;cases l<;>simp [X,cross,sub]<;>grind
   rw [e];omega
  ·rw [hp];exact fw
 ·simp [dB,fu,fv]
 ·simp [dB,fv,fw]
noncomputable def places (l:List Node):List Pt:=l.map (·.at_)
noncomputable def free (l:List Node):Nat:=l.countP fun n=>n.mark.isNone
structure NodeOk (marks:List Pt) (n:Node):Prop where
 near:Near 1000000 n.at_
 mark:∀m,n.mark=some m→marks[m]?=some n.at_
theorem NodeOk.mem {marks:List Pt} {n:Node} (h:NodeOk marks n) (hs:n.mark.isSome=true):n.at_∈marks:=by
 cases hm:n.mark with
 | none=>simp [hm]at hs
 | some m=>exact List.mem_of_getElem? (h.mark m hm)
theorem GP {u v w:Node} (hv:v.mark.isSome=true) (h:held u v w=false):cross (sub u.at_ v.at_) (sub w.at_ v.at_)≠0∨0<dot (sub u.at_ v.at_) (sub w.at_ v.at_):=by
 by_cases hc:cross (sub u.at_ v.at_) (sub w.at_ v.at_)=0
 ·right
  by_cases hd:0<dot (sub u.at_ v.at_) (sub w.at_ v.at_)
  ·exact hd
  ·exfalso
   simp only [held,quarter,hc,hd,hv,if_true,if_false,Bool.true_and]at h
   simp only [Bool.or_eq_false_iff,decide_eq_false_iff_not,Bool.and_eq_false_iff,beq_eq_false_iff_ne,ne_eq]at h
   omega
 ·exact Or.inl hc
theorem TJ (marks:List Pt) (t u v w:Node) (z:Option Node) :
  (u.at_=w.at_∧u.mark.isSome=true∧w.mark.isSome=true∧∃k,released marks t u v w z=[{ u with k:=k }])∨
  (∃k1 k2,released marks t u v w z={ u with k:=k1 }::((rowOf marks u.at_ v.at_ w.at_).map (fun x=>(⟨x.1,some x.2,if decide (0<side u.at_ v.at_ w.at_)=true then 0 else -1⟩:Node))++[{ w with k:=k2 }])):=by
 unfold released
 split
 ·rename_i h
  left
  refine ⟨h.1,h.2.1,h.2.2,?_⟩
  cases z with
  | none=>exact ⟨u.k,rfl⟩
  | some e=>exact ⟨_,rfl⟩
 ·right
  dsimp only
  have tn:∀(v:Node) (p d e:Pt),turnedNext v p d e={ v with k:=(turnedNext v p d e).k }:=by
   intro v p d e
   unfold turnedNext;repeat' (first | rfl | split)
  have tp:∀(v:Node) (p d e:Pt),turnedPrev v p d e={ v with k:=(turnedPrev v p d e).k }:=by
   intro v p d e
   unfold turnedPrev;repeat' (first | rfl | split)
  have key:∀(a b:Node) (C:List Node),(∃k,a={ u with k:=k })→(∃k,b={ w with k:=k })→∃k1 k2,a::(C++[b])={ u with k:=k1 }::(C++[{ w with k:=k2 }]):=by
   intro a b C ⟨k1,h1⟩ ⟨k2,h2⟩
   exact ⟨k1,k2,by rw [h1,h2]⟩
  cases z with
  | none=>exact key _ _ _ ⟨_,tn _ _ _ _⟩ ⟨w.k,rfl⟩
  | some e=>exact key _ _ _ ⟨_,tn _ _ _ _⟩ ⟨_,tp _ _ _ _⟩
noncomputable def fam (marks:List Pt) (first:Pt):List Aff:=marks.flatMap fun v=>(first::marks).flatMap fun u=>[jN true v u,jN false v u]
theorem XM {marks:List Pt} {first v u:Pt} (l:Bool) (hv:v∈marks) (hu:u=first∨u∈marks):jN l v u∈fam marks first:=by
 simp only [fam,List.mem_flatMap]
 refine ⟨v,hv,u,?_,?_⟩
 ·rcases hu with hu | hu
  ·simp [hu]
  ·simp [hu]
 ·cases l<;>simp
structure Step (marks:List Pt) (first:Pt) (l l':List Node):Prop where
 ok:∀n∈l',NodeOk marks n
 head:l'.head?.map (·.at_)=l.head?.map (·.at_)
 bZ:∀f,bZ f (places l')≤bZ f (places l)
 free:free l'≤free l
 less:az.free l'<az.free l∨∃f∈fam marks first,az.bZ f (places l')+2≤az.bZ f (places l)
theorem Nh {marks:List Pt} (hm:bK marks) {first:Pt} {t u v w:Node} {z:Option Node} {r:List Node}
  (hok:∀n∈u::v::w::r,NodeOk marks n) (hu:u.at_=first∨u.at_∈marks) (hh:held u v w=false) :
  Step marks first (u::v::w::r) (released marks t u v w z++r):=by
 have ou:=hok u (by simp)
 have ov:=hok v (by simp)
 have ow:=hok w (by simp)
 have or':∀n∈r,NodeOk marks n:=fun n hn=>hok n (by simp [hn])
 rcases TJ marks t u v w z with ⟨huw,hmu,hmw,k,e⟩ | ⟨k1,k2,e⟩
 ·rw [e]
  have fl:∀f,bZ f (places ([{ u with k:=k }]++r))+dB f u.at_ v.at_+dB f v.at_ w.at_=bZ f (places (u::v::w::r)):=by
   intro f
   cases r with
   | nil=>simp [places,bZ]
   | cons x r=>simp [places,bZ,huw];omega
  refine { ok:=?_,head:=by simp,bZ:=?_,free:=?_,less:=?_ }
  ·intro n hn
   simp only [List.singleton_append,List.mem_cons]at hn
   rcases hn with hn | hn
   ·rw [hn];exact ⟨ou.near,ou.mark⟩
   ·exact or' n hn
  ·intro f
   have:=fl f;omega
  ·simp only [free,List.singleton_append,List.countP_cons];omega
  ·cases hv:v.mark with
   | none=>
    left
    simp only [free,List.singleton_append,List.countP_cons,hv,Option.isNone_none,if_true]
    omega
   | some m=>
    right
    have hvs:v.mark.isSome=true:=by simp [hv]
    have S:=XJ hm ou.near ov.near ow.near (GP hvs hh)
    refine ⟨_,XM (decide (0<side u.at_ v.at_ w.at_)) (ov.mem hvs) hu,?_⟩
    have:=fl (jN (decide (0<side u.at_ v.at_ w.at_)) v.at_ u.at_)
    have s1:=S.2.1
    have s2:=S.2.2
    omega
 ·rw [e]
  have fl:∀f,bZ f (places ({ u with k:=k1 }::((rowOf marks u.at_ v.at_ w.at_).map (fun x=>(⟨x.1,some x.2,if decide (0<side u.at_ v.at_ w.at_)=true then 0 else -1⟩:Node))++[{ w with k:=k2 }])++r)) =
    bZ f (u.at_::((rowOf marks u.at_ v.at_ w.at_).map (·.1)++[w.at_]))+bZ f (w.at_::places r):=by
   intro f
   have:=Bu f (u.at_::(rowOf marks u.at_ v.at_ w.at_).map (·.1)) w.at_ (places r)
   simp only [places,List.map_cons,List.map_append,List.map_map,List.cons_append,List.append_assoc,List.map_nil]at this ⊢
   exact this
  have fr:∀f,bZ f (places (u::v::w::r))=dB f u.at_ v.at_+dB f v.at_ w.at_+bZ f (w.at_::places r):=by
   intro f
   simp only [places,List.map_cons,bZ];omega
  have fc:free ({ u with k:=k1 }::((rowOf marks u.at_ v.at_ w.at_).map (fun x=>(⟨x.1,some x.2,if decide (0<side u.at_ v.at_ w.at_)=true then 0 else -1⟩:Node))++[{ w with k:=k2 }])++r)
    + (if v.mark.isNone=true then 1 else 0)=free (u::v::w::r):=by
   have z0:((rowOf marks u.at_ v.at_ w.at_).map (fun x=>(⟨x.1,some x.2,if decide (0<side u.at_ v.at_ w.at_)=true then 0 else -1⟩:Node))).countP (fun n=>n.mark.isNone)=0:=by
    rw [List.countP_eq_zero]
    intro n hn
    simp only [List.mem_map]at hn
    obtain ⟨x,_,hx⟩:=hn
    rw [←hx];simp
   simp only [free,List.cons_append,List.append_assoc,List.countP_cons,List.countP_append,z0,List.nil_append]
   omega
  refine { ok:=?_,head:=by simp,bZ:=?_,free:=?_,less:=?_ }
  ·intro n hn
   simp only [List.cons_append,List.append_assoc,List.mem_cons,List.mem_append,List.mem_map,List.not_mem_nil,false_or]at hn
   rcases hn with hn | ⟨x,hx,hn⟩ | hn | hn
   ·rw [hn];exact ⟨ou.near,ou.mark⟩
   ·obtain ⟨h1,_⟩:=qJ hx
    rw [←hn]
    exact ⟨hm.near _ (List.mem_of_getElem? h1),by intro m hm';cases hm';exact h1⟩
   ·rw [hn];exact ⟨ow.near,ow.mark⟩
   ·exact or' n hn
  ·intro f
   rw [fl,fr]
   have:=YS hm ou.near ov.near ow.near f
   omega
  ·omega
  ·cases hv:v.mark with
   | none=>
    left
    rw [hv]at fc
    simp only [Option.isNone_none,if_true]at fc
    omega
   | some m=>
    right
    have hvs:v.mark.isSome=true:=by simp [hv]
    have S:=XJ hm ou.near ov.near ow.near (GP hvs hh)
    refine ⟨_,XM (decide (0<side u.at_ v.at_ w.at_)) (ov.mem hvs) hu,?_⟩
    rw [fl,fr]
    have s1:=S.1
    have s2:=S.2.1
    have s3:=S.2.2
    omega
theorem oM {marks:List Pt} (hm:bK marks) {first:Pt}:∀(l:List Node) (t:Node) (l':List Node),
  (∀n∈l,NodeOk marks n)→(∀u∈l.head?,u.at_=first∨u.at_∈marks)→pullOnce marks t l=some l'→Step marks first l l'
 | [],_,_,_,_,h=>by simp [pullOnce]at h
 | [_],_,_,_,_,h=>by simp [pullOnce]at h
 | [_,_],_,_,_,_,h=>by simp [pullOnce]at h
 | u::v::w::r,t,l',hok,afu,h=>by
  unfold pullOnce at h
  split at h
  ·rename_i hh
   cases hp:pullOnce marks u (v::w::r) with
   | none=>simp [hp]at h
   | some m=>
    simp only [hp,Option.map_some,Option.some.injEq]at h
    have hv:v.mark.isSome=true:=by
     simp only [held,Bool.and_eq_true]at hh
     exact hh.1
    have S:=oM (first:=first) hm (v::w::r) u m (fun n hn=>hok n (List.mem_cons_of_mem _ hn)) (by
     intro x hx
     simp only [List.head?_cons,Option.mem_def,Option.some.injEq]at hx
     rw [←hx]
     exact Or.inr ((hok v (by simp)).mem hv)) hp
    have hm1:∃x m',m=x::m'∧x.at_=v.at_:=by
     have:=S.head
     cases m with
     | nil=>simp at this
     | cons x m'=>exact ⟨x,m',rfl,by simpa using this⟩
    obtain ⟨x,m',em,hx⟩:=hm1
    have fe:∀f,bZ f (places l')=dB f u.at_ v.at_+bZ f (places m):=by
     intro f
     rw [←h,em]
     simp [places,bZ,hx]
    have fe2:∀f,bZ f (places (u::v::w::r))=dB f u.at_ v.at_+bZ f (places (v::w::r)):=by
     intro f
     simp [places,bZ]
    have ce:free l'=free m+(if u.mark.isNone=true then 1 else 0):=by
     rw [←h];simp [free,List.countP_cons]
    have ce2:free (u::v::w::r)=free (v::w::r)+(if u.mark.isNone=true then 1 else 0):=by
     simp [free,List.countP_cons]
    refine { ok:=?_,head:=by rw [←h];simp,bZ:=?_,free:=?_,less:=?_ }
    ·intro n hn
     rw [←h]at hn
     rcases List.mem_cons.1 hn with hn | hn
     ·rw [hn];exact hok u (by simp)
     ·exact S.ok n hn
    ·intro f
     rw [fe,fe2]
     have:=S.bZ f;omega
    ·have:=S.free;omega
    ·rcases S.less with hl | ⟨f,hf,hl⟩
     ·left;omega
     ·right
      refine ⟨f,hf,?_⟩
      rw [fe,fe2];omega
  ·rename_i hh
   simp only [Option.some.injEq]at h
   rw [←h]
   refine Nh hm hok ?_ (by simpa using hh)
   exact afu u (by simp)
noncomputable def load (marks:List Pt) (first:Pt) (l:List Node):Nat:=((fam marks first).map fun f=>bZ f (places l)).sum+2*free l
theorem V3 {α:Type} (a b:α→Nat):∀l:List α,(∀x∈l,a x≤b x)→(l.map a).sum≤(l.map b).sum
 | [],_=>by simp
 | x::l,h=>by
  have h1:=h x (by simp)
  have h2:=V3 a b l (fun y hy=>h y (List.mem_cons_of_mem _ hy))
  simp only [List.map_cons,List.sum_cons];omega
theorem TQ {α:Type} (a b:α→Nat):∀l:List α,(∀x∈l,a x≤b x)→(∃x∈l,a x+2≤b x)→(l.map a).sum+2≤(l.map b).sum
 | [],_,h=>by simp at h
 | x::l,h,⟨y,hy,hl⟩=>by
  have h1:=h x (by simp)
  have h2:=V3 a b l (fun y hy=>h y (List.mem_cons_of_mem _ hy))
  simp only [List.map_cons,List.sum_cons]
  rcases List.mem_cons.1 hy with e | hy
  ·rw [e]at hl;omega
  ·have:=TQ a b l (fun y hy=>h y (List.mem_cons_of_mem _ hy)) ⟨y,hy,hl⟩
   omega
theorem Step.load {marks:List Pt} {first:Pt} {l l':List Node} (h:Step marks first l l'):load marks first l'+2≤load marks first l:=by
 have hf:=h.free
 unfold az.load
 rcases h.less with hl | hl
 ·have:=V3 (fun f=>az.bZ f (places l')) (fun f=>az.bZ f (places l)) (fam marks first) (fun f _=>h.bZ f)
  omega
 ·have:=TQ (fun f=>az.bZ f (places l')) (fun f=>az.bZ f (places l)) (fam marks first) (fun f _=>h.bZ f) hl
  omega
structure vh (marks:List Pt) (n:Nat) (l:List Node):Prop where
 XN:bK marks
 ok:∀x∈l,NodeOk marks x
 steps:load marks (l.headD ⟨⟨0,0⟩,none,0⟩).at_ l<2*n
theorem vh.step {marks:List Pt} {n:Nat} {l l':List Node} (h:vh marks n l) (hp:pullOnce marks (l.headD ⟨⟨0,0⟩,none,0⟩) l=some l') :
  vh marks (n-1) l'∧pull marks n l=pull marks (n-1) l':=by
 have S:=oM (first:=(l.headD ⟨⟨0,0⟩,none,0⟩).at_) h.XN l _ l' h.ok (by
  intro u hu
  cases l with
  | nil=>simp at hu
  | cons x l=>simp at hu;simp [hu]) hp
 have hl:=S.load
 have he:(l'.headD ⟨⟨0,0⟩,none,0⟩).at_=(l.headD ⟨⟨0,0⟩,none,0⟩).at_:=by
  have:=S.head
  cases l<;>cases l'<;>simp at this ⊢
  exact this
 have hn:=h.steps
 refine ⟨⟨h.XN,S.ok,by rw [he];omega⟩,?_⟩
 cases n with
 | zero=>omega
 | succ n=>simp only [pull,hp,Nat.add_sub_cancel]
theorem Jt {marks:List Pt} {l:List Node} (hp:pullOnce marks (l.headD ⟨⟨0,0⟩,none,0⟩) l=none):∀n,pull marks n l=l
 | 0=>rfl
 | n+1=>by simp only [pull,hp]
theorem vm (f:Aff):∀l:List Pt,bZ f l≤l.length-1
 | []=>by simp [bZ]
 | [_]=>by simp [bZ]
 | p::q::r=>by
  have:=vm f (q::r)
  simp only [bZ,dB,List.length_cons]at this ⊢
  split<;>omega
theorem zO {α:Type} (a:α→Nat) (n:Nat):∀l:List α,(∀x∈l,a x≤n)→(l.map a).sum≤l.length*n
 | [],_=>by simp
 | x::l,h=>by
  have h1:=h x (by simp)
  have h2:=zO a n l (fun y hy=>h y (List.mem_cons_of_mem _ hy))
  simp only [List.map_cons,List.sum_cons,List.length_cons,Nat.add_mul];omega
theorem V4 (marks:List Pt) (first:Pt):(fam marks first).length=marks.length*((marks.length+1)*2):=by
 have h2:∀(v:Pt) (us:List Pt),(us.flatMap fun u=>[jN true v u,jN false v u]).length=us.length*2:=by
  intro v us
  induction us with
  | nil=>rfl
  | cons x us ih=>simp only [List.flatMap_cons,List.length_append,ih,List.length_cons,List.length_nil];omega
 have h1:∀(vs us:List Pt),(vs.flatMap fun v=>us.flatMap fun u=>[jN true v u,jN false v u]).length=vs.length*(us.length*2):=by
  intro vs us
  induction vs with
  | nil=>simp
  | cons x vs ih=>simp only [List.flatMap_cons,List.length_append,ih,h2,List.length_cons,Nat.add_mul];omega
 rw [fam,h1];simp
noncomputable def lay (track:List Pt):List Node:=track.map fun p=>⟨p,none,0⟩
theorem QW {marks track:List Pt} (hm:bK marks) (j4:marks.length≤16) (adT:track.length≤200) (hn:∀p∈track,Near 1000000 p) :
  vh marks ENOUGH (lay track):=by
 refine ⟨hm,?_,?_⟩
 ·intro x hx
  simp only [lay,List.mem_map]at hx
  obtain ⟨p,hp,e⟩:=hx
  rw [←e]
  exact ⟨hn p hp,by intro m hm';cases hm'⟩
 ·unfold load
  have hfree:free (lay track)≤200:=by
   have:=List.countP_le_length (p:=fun n:Node=>n.mark.isNone) (l:=lay track)
   simp only [free,lay,List.length_map]at this ⊢;omega
  have hs:=zO (fun f=>bZ f (places (lay track))) 199 (fam marks ((lay track).headD ⟨⟨0,0⟩,none,0⟩).at_) (by
   intro f _
   have:=vm f (places (lay track))
   simp only [places,lay,List.length_map]at this ⊢;omega)
  rw [V4]at hs
  have:marks.length*((marks.length+1)*2)≤16*(17*2):=Nat.mul_le_mul j4 (by omega)
  unfold ENOUGH
  omega
noncomputable def second (d:Pt):Bool:=decide (0<d.x)||(decide (d.x=0)&&decide (d.y<0))
noncomputable def ray (d e:Pt):Bool:=if second d != second e then second e else decide (0<cross d e)
noncomputable def bI (b:Bool):Int:=if b=true then 1 else 0
noncomputable def up (d:Pt):Pt:=if second d=true then ⟨-d.x,-d.y⟩ else d
noncomputable def gPt:Pt:=⟨-10000000000000,1⟩
noncomputable def Dir (d:Pt):Prop:=Near 2000000 d∧(d.x≠0∨d.y≠0)
theorem Ju {d:Pt} (h:Dir d):0<dot gPt (up d):=by
 obtain ⟨⟨h1,h2,h3,h4⟩,h5⟩:=h
 unfold up second
 by_cases a:0<d.x
 ·simp [a,dot,gPt];omega
 ·by_cases b:d.x=0
  ·by_cases c:d.y<0
   ·simp [b,c,dot,gPt]
   ·simp [b,c,dot,gPt];omega
  ·simp [a,b,dot,gPt];omega
theorem o5 (d e:Pt):cross d e=if second d=second e then cross (up d) (up e) else-cross (up d) (up e):=by
 unfold up
 cases second d<;>cases second e<;>simp [cross]<;>grind
theorem V5 (d e:Pt):dot d e=if second d=second e then dot (up d) (up e) else-dot (up d) (up e):=by
 unfold up
 cases second d<;>cases second e<;>simp [dot]<;>grind
structure Fit (A B C:Int):Prop where
 t1:0<A→0≤C→0<B
 t2:0≤A→0<C→0<B
 t3:A<0→C≤0→B<0
 t4:A≤0→C<0→B<0
 t5:A=0→C=0→B=0
theorem adU {A B C a b c:Int} (ha:0<a) (hb:0<b) (hc:0<c) (h:C*a-B*b+A*c=0):Fit A B C:=by
 have neg:∀{x y:Int},0<x→x*y<0→y<0:=by
  intro x y hx hy
  rcases cN y 0 with z | z
  ·exact z
  ·have:=Int.mul_nonneg (Int.le_of_lt hx) z;omega
 have e:b*B=a*C+c*A:=by
  have h1:=Int.mul_comm C a;have h2:=Int.mul_comm B b;have h3:=Int.mul_comm A c
  omega
 refine ⟨fun h1 h2=>?_,fun h1 h2=>?_,fun h1 h2=>?_,fun h1 h2=>?_,fun h1 h2=>?_⟩
 ·have:=Int.mul_pos hc h1;have:=Int.mul_nonneg (Int.le_of_lt ha) h2
  exact cW hb (by omega)
 ·have:=Int.mul_nonneg (Int.le_of_lt hc) h1;have:=Int.mul_pos ha h2
  exact cW hb (by omega)
 ·have:=Int.mul_neg_of_pos_of_neg hc h1;have:=Int.mul_nonpos_of_nonneg_of_nonpos (Int.le_of_lt ha) h2
  exact neg hb (by omega)
 ·have:=Int.mul_nonpos_of_nonneg_of_nonpos (Int.le_of_lt hc) h1;have:=Int.mul_neg_of_pos_of_neg ha h2
  exact neg hb (by omega)
 ·subst h1;subst h2
  exact cO hb (by omega)
theorem Ni {p d e:Pt} (hp:Dir p) (hd:Dir d) (he:Dir e):Fit (cross (up p) (up d)) (cross (up p) (up e)) (cross (up d) (up e)):=by
 have:=QS true gPt (up p) (up d) (up e)
 simp only [X,if_true]at this
 exact adU (Ju hp) (Ju hd) (Ju he) this
theorem V6 {d e:Pt} (hd:Dir d) (he:Dir e) (h:cross (up d) (up e)=0):0<dot (up d) (up e):=by
 have pd:=Ju hd
 have pe:=Ju he
 have s:=stretched (l:=true) (k:=gPt) (a:=up d) (b:=up e) (by simpa [X] using h)
 generalize up d=D at *
 generalize up e=E at *
 obtain ⟨s1,s2⟩:=s
 have e1:dot gPt D*dot D E=dot gPt E*dot D D:=by
  simp only [dot]at s1 s2 ⊢
  grind
 have z:0<dot D D:=by
  apply lD
  rcases Int.decEq D.x 0 with h | h
  ·exact .inl h
  ·right;intro h';simp [dot,h,h']at pd
 have:=Int.mul_pos pe z
 exact cW pd (by omega)
noncomputable def qB (s t pos zero:Bool):Nat:=if zero then (if s=t then 0 else 2) else if (if s=t then pos else !pos) then 1 else 3
theorem dg {p d:Pt} (hp:Dir p) (hd:Dir d):quarter p d=qB (second p) (second d) (decide (0<cross (up p) (up d))) (decide (cross (up p) (up d)=0)):=by
 unfold quarter qB
 rw [o5,V5]
 by_cases z:cross (up p) (up d)=0
 ·have:=V6 hp hd z
  cases second p<;>cases second d<;>simp [z,this]<;>omega
 ·by_cases y:0<cross (up p) (up d)<;>cases second p<;>cases second d<;>simp [z,y]<;>omega
noncomputable def xB (s t pos zero:Bool):Bool:=if s=t then pos else (!pos&&!zero)
theorem mZ (d e:Pt):decide (0<cross d e)=xB (second d) (second e) (decide (0<cross (up d) (up e))) (decide (cross (up d) (up e)=0)):=by
 unfold xB
 rw [o5]
 cases second d<;>cases second e<;>simp
 ·by_cases z:cross (up d) (up e)=0
  ·simp [z]
  ·by_cases y:0<cross (up d) (up e)<;>simp [z,y]<;>omega
 ·by_cases z:cross (up d) (up e)=0
  ·simp [z]
  ·by_cases y:0<cross (up d) (up e)<;>simp [z,y]<;>omega
noncomputable def yB (s t pos zero:Bool):Bool:=xB s t (!pos&&!zero) zero
theorem jz (d e:Pt):decide (0<cross e d)=yB (second d) (second e) (decide (0<cross (up d) (up e))) (decide (cross (up d) (up e)=0)):=by
 have a:cross e d=- cross d e:=by simp only [cross];grind
 rw [a,o5]
 unfold yB xB
 by_cases z:cross (up d) (up e)=0
 ·cases second d<;>cases second e<;>simp [z]
 ·by_cases y:0<cross (up d) (up e)<;>cases second d<;>cases second e<;>simp [z,y]<;>omega
noncomputable def sB (qe qd:Nat) (ed:Bool):Bool:=if qe=qd then (qe == 1||qe == 3)&&ed else decide (qe<qd)
theorem uM (p e d:Pt):sooner p e d=sB (quarter p e) (quarter p d) (decide (0<cross e d)):=rfl
noncomputable def rB (s t x:Bool):Bool:=if s != t then t else x
theorem vo (d e:Pt):ray d e=rB (second d) (second e) (decide (0<cross d e)):=rfl
noncomputable def aau (a a0 b b0 c c0:Bool):Bool:=
 !(a&&a0)&&!(b&&b0)&&!(c&&c0) &&
 (!(a&&(c||c0))||b)&&(!((a||a0)&&c)||b)&&(!((!a&&!a0)&&!c)||(!b&&!b0))&&(!(!a&&(!c&&!c0))||(!b&&!b0))&&(!(a0&&c0)||b0)
theorem sgn (A:Int):(decide (0<A)=false∧decide (A=0)=false∧A<0)∨(decide (0<A)=false∧decide (A=0)=true∧A=0)∨(decide (0<A)=true∧decide (A=0)=false∧0<A):=by
 rcases Int.lt_trichotomy A 0 with a | a | a
 ·exact .inl ⟨decide_eq_false (by omega),decide_eq_false (by omega),a⟩
 ·exact .inr (.inl ⟨decide_eq_false (by omega),decide_eq_true a,a⟩)
 ·exact .inr (.inr ⟨decide_eq_true a,decide_eq_false (by omega),a⟩)
theorem TV {A B C:Int} (h:Fit A B C):aau (decide (0<A)) (decide (A=0)) (decide (0<B)) (decide (B=0)) (decide (0<C)) (decide (C=0))=true:=by
 obtain ⟨t1,t2,t3,t4,t5⟩:=h
 rcases sgn A with ⟨a1,a2,a⟩ | ⟨a1,a2,a⟩ | ⟨a1,a2,a⟩<;>rcases sgn B with ⟨b1,b2,b⟩ | ⟨b1,b2,b⟩ | ⟨b1,b2,b⟩<;>rcases sgn C with ⟨c1,c2,c⟩ | ⟨c1,c2,c⟩ | ⟨c1,c2,c⟩ <;>
  rw [a1,a2,b1,b2,c1,c2]<;>first | rfl | (exfalso;omega)
theorem V7:∀sp sd se a a0 b b0 c c0:Bool,aau a a0 b b0 c c0=true→
  bI (sB (qB sp se b b0) (qB sp sd a a0) (yB sd se c c0))=bI (rB se sd (yB sd se c c0))-bI (rB se sp (yB sp se b b0))+bI (rB sd sp (yB sp sd a a0)):=by decide
noncomputable def XQ (q q':Nat) (s:Bool):Bool:=(q == 0&&(q' == 1&&!s))||(q == 1&&((q' == 1||(q' == 2||q' == 3))&&!s))||(q == 2&&(q' == 3&&!s))||(q == 3&&((q' == 3&&!s)||((q' == 0||q' == 1)&&s)))
theorem aav:∀sp sd se a a0 b b0 c c0:Bool,aau a a0 b b0 c c0=true→xB sd se c c0=true→
  XQ (qB sp sd a a0) (qB sp se b b0) (sB (qB sp se b b0) (qB sp sd a a0) (yB sd se c c0))=true:=by decide
noncomputable def XR (a b:Nat) (s:Bool):Bool:=((a == 0||a == 1)&&(b == 3&&s))||(a == 1&&((b == 0||b == 1)&&!s))||(a == 2&&(b == 1&&!s))||(a == 3&&((b == 1||(b == 2||b == 3))&&!s))
theorem aaw:∀sp sd se a a0 b b0 c c0:Bool,aau a a0 b b0 c c0=true→xB sp se b b0=true→
  XR (qB sp sd a a0) (qB se sd (!c&&!c0) c0) (sB (qB sp sd a a0) (qB sp se b b0) (xB sd se c c0))=true:=by decide
theorem acb:∀sd se c:Bool,bI (rB sd se (xB sd se c false))+bI (rB se sd (yB sd se c false))=1:=by decide
theorem acd:∀sp sd se a a0 b b0 c c0:Bool,aau a a0 b b0 c c0=true→yB sp se b b0=true→
  bI (sB (qB sp sd a a0) (qB sp se b b0) (xB sd se c c0))+bI (sB (qB se sd (!c&&!c0) c0) (qB se sp (!b&&!b0) b0) (yB sp sd a a0))=1:=by decide
theorem PB (d e:Pt):decide (0<cross (up e) (up d))=(!decide (0<cross (up d) (up e))&&!decide (cross (up d) (up e)=0))∧decide (cross (up e) (up d)=0)=decide (cross (up d) (up e)=0):=by
 have a:cross (up e) (up d)=- cross (up d) (up e):=by simp only [cross];grind
 rw [a]
 rcases sgn (cross (up d) (up e)) with ⟨h1,h2,h⟩ | ⟨h1,h2,h⟩ | ⟨h1,h2,h⟩<;>rw [h1,h2]<;>simp<;>omega
section
variable {p d e:Pt}
theorem zP (hp:Dir p) (hd:Dir d) (he:Dir e):bI (sooner p e d)=bI (ray e d)-bI (ray e p)+bI (ray d p):=by
 rw [uM,vo,vo,vo,dg hp he,dg hp hd,jz d e,jz p e,jz p d]
 exact V7 _ _ _ _ _ _ _ _ _ (TV (Ni hp hd he))
theorem BK (hp:Dir p) (hd:Dir d) (he:Dir e) (h:0<cross d e):XQ (quarter p d) (quarter p e) (sooner p e d)=true:=by
 rw [uM,dg hp he,dg hp hd,jz d e]
 exact aav _ _ _ _ _ _ _ _ _ (TV (Ni hp hd he)) (by rw [←mZ];exact decide_eq_true h)
theorem BL (hp:Dir p) (hd:Dir d) (he:Dir e) (h:0<cross p e):XR (quarter p d) (quarter e d) (sooner p d e)=true:=by
 rw [uM,dg hp he,dg hp hd,dg he hd,mZ d e,(PB d e).1,(PB d e).2]
 exact aaw _ _ _ _ _ _ _ _ _ (TV (Ni hp hd he)) (by rw [←mZ];exact decide_eq_true h)
theorem V8 (hp:Dir p) (hd:Dir d) (he:Dir e) (h:0<cross e p):bI (sooner p d e)+bI (sooner e d p)=1:=by
 rw [uM,uM,dg hp he,dg hp hd,dg he hd,dg he hp,mZ d e,jz p d,(PB d e).1,(PB d e).2,(PB p e).1,(PB p e).2]
 exact acd _ _ _ _ _ _ _ _ _ (TV (Ni hp hd he)) (by rw [←jz];exact decide_eq_true h)
theorem ace (h:cross d e≠0):bI (ray d e)+bI (ray e d)=1:=by
 have z:decide (cross (up d) (up e)=0)=false:=by
  apply decide_eq_false
  intro z
  rw [o5,z]at h
  split at h<;>omega
 rw [vo,vo,mZ d e,jz d e,z]
 exact acb _ _ _
theorem aax (hd:Dir d) (he:Dir e) (hp:Dir p) (h:cross d e=0) (h':0<dot d e):ray d p=ray e p∧ray p d=ray p e:=by
 have s:second d=second e:=by
  rw [V5]at h'
  rw [o5]at h
  by_cases z:second d=second e
  ·exact z
  ·rw [if_neg z]at h h'
   have:=V6 hd he (by omega)
   omega
 have hc:cross (up d) (up e)=0:=by rw [o5,if_pos s]at h;exact h
 have f:=TV (Ni hp hd he)
 have fit:=Ni hp hd he
 have k1:(0<cross (up p) (up d))↔(0<cross (up p) (up e)):=by
  have g:=Ni hp he hd
  have a:cross (up e) (up d)=- cross (up d) (up e):=by simp only [cross];grind
  constructor
  ·intro z;exact fit.t1 z (by omega)
  ·intro z;exact g.t1 z (by omega)
 have k2:(cross (up p) (up d)=0)↔(cross (up p) (up e)=0):=by
  have g:=Ni hp he hd
  have a:cross (up e) (up d)=- cross (up d) (up e):=by simp only [cross];grind
  constructor
  ·intro z;exact fit.t5 z (by omega)
  ·intro z;exact g.t5 z (by omega)
 rw [vo,vo,vo,vo,jz p d,jz p e,mZ p d,mZ p e,s,decide_eq_decide.2 k1,decide_eq_decide.2 k2]
 exact ⟨rfl,rfl⟩
end
noncomputable def rc (d e:Pt):Int:=if d.x≤0∧0<e.x∧cross d e<0 then -1 else if e.x≤0∧0<d.x∧cross e d<0 then 1 else 0
theorem d7 (d e:Pt):cross e d=- cross d e:=by simp only [cross];grind
theorem QX {d e:Pt} (h:0<cross d e):rc d e=bI (ray e d):=by
 have a:=d7 d e
 unfold rc ray second
 rw [if_neg (by omega)]
 have k:∀x y:Int,0<x*y→0<x→0<y:=fun x y h h'=>cW h' h
 rcases Int.lt_trichotomy e.x 0 with e1 | e1 | e1<;>rcases Int.lt_trichotomy d.x 0 with d1 | d1 | d1
 ·simp [bI,show ¬0<e.x by omega,show ¬0<d.x by omega,show e.x≠0 by omega,show d.x≠0 by omega,a];omega
 ·simp only [cross,d1]at h
  have hy:¬d.y<0:=by
   intro hy
   have:=Int.mul_pos_of_neg_of_neg hy e1
   omega
  simp [bI,show ¬0<e.x by omega,show e.x≠0 by omega,d1,hy,a]
  simp [cross,d1];omega
 ·simp [bI,show ¬0<e.x by omega,show e.x≤0 by omega,show e.x≠0 by omega,d1,show cross e d<0 by omega]
 ·have hy:¬e.y<0∨True:=.inr trivial
  simp only [cross,e1]at h
  have hy:e.y<0:=by
   rcases cN e.y 0 with z | z
   ·exact z
   ·have:=Int.mul_nonpos_of_nonpos_of_nonneg (Int.le_of_lt d1) z;omega
  simp [bI,e1,hy,show ¬0<d.x by omega,show d.x≠0 by omega]
 ·simp [cross,d1,e1]at h
 ·simp only [cross,e1]at h
  have hy:0<e.y:=k d.x e.y (by omega) d1
  have hc:cross e d<0:=by rw [a];simp only [cross,e1];omega
  simp [bI,e1,show ¬e.y<0 by omega,d1,hc]
 ·simp [bI,e1,show ¬0<d.x by omega,show d.x≠0 by omega,show ¬e.x≤0 by omega]
 ·simp only [cross,d1]at h
  have hy:d.y<0:=by
   rcases cN d.y 0 with z | z
   ·exact z
   ·have:=Int.mul_nonneg z (Int.le_of_lt e1);omega
  simp [bI,e1,d1,hy,a]
  have hc:¬cross d e<0:=by simp only [cross,d1];omega
  omega
 ·simp [bI,e1,d1,show ¬e.x≤0 by omega,a];omega
theorem acf (d e:Pt):rc e d=- rc d e:=by
 unfold rc
 have a:=d7 d e
 by_cases h1:d.x≤0∧0<e.x∧cross d e<0
 ·rw [if_neg (by omega),if_pos h1,if_pos h1];rfl
 ·by_cases h2:e.x≤0∧0<d.x∧cross e d<0
  ·rw [if_pos h2,if_neg h1,if_pos h2]
  ·rw [if_neg h2,if_neg h1,if_neg h1,if_neg h2];rfl
theorem TX {d e:Pt} (h:cross d e<0):rc d e=- bI (ray d e):=by
 have a:=d7 d e
 rw [acf e d,QX (by omega)]
theorem acg {d e:Pt} (h:cross d e=0):rc d e=0:=by
 have a:=d7 d e
 unfold rc
 rw [if_neg (by omega),if_neg (by omega)]
noncomputable def qn (t:Pt) (v:Node) (w:Pt):Nat:=quarter (sub t v.at_) (sub w v.at_)
noncomputable def ir (L:Bool) (t:Pt) (v:Node) (w:Pt):Prop:=if L=true then 1≤v.k∨(v.k=0∧2≤qn t v w) else v.k≤-2∨(v.k=-1∧qn t v w≤2)
noncomputable def TY (L:Bool) (t:Pt) (v:Node) (w:Pt):Prop:=if L=true then v.k=0∧qn t v w=1 else v.k=-1∧qn t v w=3
noncomputable def jP (t:Pt) (v:Node) (w:Pt):Prop:=v.mark.isSome=true∧(ir true t v w∨ir false t v w)
theorem uN (u v w:Node):held u v w=true↔jP u.at_ v w.at_:=by
 unfold held jP ir qn
 simp only [Bool.and_eq_true,Bool.or_eq_true,decide_eq_true_eq,beq_iff_eq,if_true,Bool.false_eq_true,if_false]
 constructor
 ·rintro ⟨h,h1⟩;exact ⟨h,by omega⟩
 ·rintro ⟨h,h1⟩;exact ⟨h,by omega⟩
theorem vp {p q:Pt} (hp:Near 1000000 p) (hq:Near 1000000 q) (h:p≠q):Dir (sub p q):=by
 refine ⟨il hp hq,?_⟩
 rcases Int.decEq (sub p q).x 0 with z | z
 ·exact .inl z
 ·right
  intro y
  apply h
  simp only [sub]at z y
  cases p;cases q
  simp only [Pt.mk.injEq]at *
  omega
theorem V9 {v:Node} (hv:v.mark.isSome=true) (p d e:Pt):(turnedNext v p d e).k=if 0<cross d e then v.k+bI (sooner p e d) else if cross d e<0 then v.k-bI (sooner p d e) else v.k:=by
 unfold turnedNext bI
 cases hm:v.mark with
 | none=>rw [hm]at hv;cases hv
 | some m=>
  dsimp only
  split
  ·split<;>simp
  ·split
   ·split<;>simp
   ·rfl
theorem aay {v:Node} (hv:v.mark.isSome=true) (p q d:Pt):(turnedPrev v p q d).k=if 0<cross p q then v.k-bI (sooner p d q) else if cross p q<0 then v.k+1-bI (sooner p d q) else v.k:=by
 unfold turnedPrev bI
 cases hm:v.mark with
 | none=>rw [hm]at hv;cases hv
 | some m=>
  dsimp only
  split
  ·split<;>simp
  ·split
   ·split<;>simp
   ·rfl
theorem Hj {v:Node} (h:v.mark=none) (p d e:Pt):turnedNext v p d e=v:=by unfold turnedNext;rw [h]
theorem Hk {v:Node} (h:v.mark=none) (p d e:Pt):turnedPrev v p d e=v:=by unfold turnedPrev;rw [h]
theorem T3 {q q':Nat} {s:Bool} (h:XQ q q' s=true):(s=false∧((q=0∧q'=1)∨(q=1∧1≤q'∧q'≤3)∨(q=2∧q'=3)∨(q=3∧q'=3)))∨(s=true∧q=3∧q'≤1):=by
 simp only [XQ,Bool.or_eq_true,Bool.and_eq_true,beq_iff_eq,Bool.not_eq_true']at h
 cases s<;>simp at h ⊢<;>omega
theorem T4 {a b:Nat} {s:Bool} (h:XR a b s=true):(s=true∧a≤1∧b=3)∨(s=false∧((a=1∧b≤1)∨(a=2∧b=1)∨(a=3∧1≤b∧b≤3))):=by
 simp only [XR,Bool.or_eq_true,Bool.and_eq_true,beq_iff_eq,Bool.not_eq_true']at h
 cases s<;>simp at h ⊢<;>omega
theorem IV:bI true=1:=rfl
theorem BP:bI false=0:=rfl
section
variable {L L':Bool} {t d e:Pt} {v:Node}
theorem Wa (hv:v.mark.isSome=true) (ht:Dir (sub t v.at_)) (hd:Dir (sub d v.at_)) (he:Dir (sub e v.at_)) (hx:0<X L (sub d v.at_) (sub e v.at_)) (h:ir L' t v d) :
  ir L' t (turnedNext v (sub t v.at_) (sub d v.at_) (sub e v.at_)) e∨(L'=!L∧TY L' t (turnedNext v (sub t v.at_) (sub d v.at_) (sub e v.at_)) e):=by
 have hk:=V9 hv (sub t v.at_) (sub d v.at_) (sub e v.at_)
 unfold ir TY qn at *
 rw [zy]
 cases L with
 | true=>
  simp only [X,if_true]at hx
  have n:=T3 (BK ht hd he hx)
  rw [if_pos hx]at hk
  rw [hk]
  rcases n with ⟨s,n⟩ | ⟨s,n⟩<;>rw [s]<;>cases L'<;>simp only [if_true,Bool.false_eq_true,if_false,IV,BP,Bool.not_true,true_and,false_and,or_false,reduceCtorEq]at h ⊢<;>omega
 | false=>
  simp only [X,Bool.false_eq_true,if_false]at hx
  have n:=T3 (BK ht he hd hx)
  have a:=d7 (sub e v.at_) (sub d v.at_)
  rw [if_neg (by omega),if_pos (by omega)]at hk
  rw [hk]
  rcases n with ⟨s,n⟩ | ⟨s,n⟩<;>rw [s]<;>cases L'<;>simp only [if_true,Bool.false_eq_true,if_false,IV,BP,Bool.not_false,true_and,false_and,or_false,reduceCtorEq]at h ⊢<;>omega
theorem Wb {p q:Pt} (hv:v.mark.isSome=true) (hp:Dir (sub p v.at_)) (hq:Dir (sub q v.at_)) (hd:Dir (sub d v.at_)) (hx:0<X L (sub q v.at_) (sub p v.at_)) (h:ir L p v d) :
  ir L q (turnedPrev v (sub p v.at_) (sub q v.at_) (sub d v.at_)) d:=by
 have hk:=aay hv (sub p v.at_) (sub q v.at_) (sub d v.at_)
 unfold ir qn at *
 rw [Ng]
 cases L with
 | false=>
  simp only [X,Bool.false_eq_true,if_false]at hx
  have n:=T4 (BL hp hd hq hx)
  rw [if_pos hx]at hk
  rw [hk]
  rcases n with ⟨s,n⟩ | ⟨s,n⟩<;>rw [s]<;>simp only [if_true,Bool.false_eq_true,if_false,IV,BP]at h ⊢<;>omega
 | true=>
  simp only [X,if_true]at hx
  have a:=d7 (sub q v.at_) (sub p v.at_)
  have two:=V8 hp hd hq hx
  have n:=T4 (BL hq hd hp hx)
  rw [if_neg (by omega),if_pos (by omega)]at hk
  rw [hk]
  rcases n with ⟨s,n⟩ | ⟨s,n⟩<;>rw [s]at two<;>simp only [if_true,IV,BP]at h two ⊢<;>omega
theorem aaz (hv:v.mark.isSome=true) {p d e:Pt} (hp:Dir p) (hd:Dir d) (he:Dir e) (hf:cross d e=0→0<dot d e) :
  (turnedNext v p d e).k+bI (ray e p)=v.k+bI (ray d p)+rc d e:=by
 rw [V9 hv]
 have s1:=zP hp hd he
 have s2:=zP hp he hd
 by_cases h1:0<cross d e
 ·rw [if_pos h1,QX h1];omega
 ·rw [if_neg h1]
  by_cases h2:cross d e<0
  ·rw [if_pos h2,TX h2];omega
  ·have h3:cross d e=0:=by omega
   rw [if_neg h2,acg h3,(aax hd he hp h3 (hf h3)).1];omega
theorem aaA (hv:v.mark.isSome=true) {p q d:Pt} (hp:Dir p) (hq:Dir q) (hd:Dir d) (hf:cross p q≠0) :
  (turnedPrev v p q d).k+bI (ray d q)=v.k+bI (ray d p)+rc q p:=by
 rw [aay hv]
 have s1:=zP hp hq hd
 have o:=ace (d:=p) (e:=q) hf
 have a:=d7 p q
 by_cases h1:0<cross p q
 ·rw [if_pos h1,TX (by omega)];omega
 ·have h2:cross p q<0:=by omega
  rw [if_neg h1,if_pos h2,QX (by omega)];omega
end
noncomputable def qj (R:Pt→Node→Pt→Prop):List Node→Prop
 | u::v::w::r=>R u.at_ v w.at_∧qj R (v::w::r)
 | _=>True
section
variable {R S:Pt→Node→Pt→Prop}
theorem Wc (u v w:Node) (r:List Node):qj R (u::v::w::r)↔R u.at_ v w.at_∧qj R (v::w::r):=Iff.rfl
theorem gJ (u v:Node) (r:List Node):∀p:List Node,qj R (p++u::v::r)↔qj R (p++[u,v])∧qj R (u::v::r)
 | []=>by simp [qj]
 | [x]=>by simp [qj]
 | x::y::[]=>by simp [qj,and_assoc]
 | x::y::z::p=>by
  have:=gJ u v r (y::z::p)
  simp only [List.cons_append,Wc]at this ⊢
  rw [this,and_assoc]
theorem PJ {u u':Node} (h:u'.at_=u.at_) (r:List Node) (t:qj R (u::r)):qj R (u'::r):=by
 match r,t with
 | [],_=>trivial
 | [_],_=>trivial
 | v::w::r,t=>exact ⟨by rw [h];exact t.1,t.2⟩
theorem Jv {u u':Node} (h:u'.at_=u.at_):∀(p:List Node),qj R (p++[u])→qj R (p++[u'])
 | [],_=>trivial
 | [_],_=>trivial
 | x::y::[],t=>by
  simp only [List.cons_append,List.nil_append,Wc]at t ⊢
  exact ⟨by rw [h];exact t.1,trivial⟩
 | x::y::z::p,t=>by
  have:=Jv h (y::z::p)
  simp only [List.cons_append,Wc]at t this ⊢
  exact ⟨t.1,this t.2⟩
theorem T5 {u:Node} {r:List Node} (t:qj R (u::r)):qj R r:=by
 match r,t with
 | [],_=>trivial
 | [_],_=>trivial
 | v::w::r,t=>exact t.2
theorem Jw (h:∀x v y,R x v y→S x v y):∀p:List Node,qj R p→qj S p
 | [],_=>trivial
 | [_],_=>trivial
 | [_,_],_=>trivial
 | x::y::z::p,t=>⟨h _ _ _ t.1,Jw h (y::z::p) t.2⟩
end
noncomputable def Good (t:Pt) (v:Node) (w:Pt):Prop:=v.mark.isSome=true→t≠v.at_∧w≠v.at_
noncomputable def bD (marks:List Pt) (u v w:Pt):List Node:=(rowOf marks u v w).map fun x=>⟨x.1,some x.2,if decide (0<side u v w)=true then 0 else -1⟩
noncomputable def firstOf (c:List Node) (w:Pt):Pt:=(c.head?.map fun x=>x.at_).getD w
noncomputable def lastOf (c:List Node) (u:Pt):Pt:=(c.getLast?.map fun x=>x.at_).getD u
theorem Jx {l:Bool} {h c y n:Pt} {m:Option Nat} (h1:0≤X l (sub y c) (sub n y)) (h2:0<dot h (sub y c)) (h3:0<dot h (sub n y)):ir l c ⟨y,m,if l=true then 0 else -1⟩ n:=by
 have e1:cross (sub c y) (sub n y)=- cross (sub y c) (sub n y):=by simp only [cross,sub];grind
 have e2:dot (sub c y) (sub n y)=- dot (sub y c) (sub n y):=by simp only [dot,sub];grind
 have e3:=d7 (sub y c) (sub n y)
 by_cases z:cross (sub c y) (sub n y)=0
 ·have hd:0<dot (sub y c) (sub n y):=by
   have s:=stretched (l:=true) (k:=h) (a:=sub y c) (b:=sub n y) (by simp only [X,if_true];omega)
   generalize sub y c=D at *
   generalize sub n y=E at *
   obtain ⟨s1,s2⟩:=s
   have e1:dot h D*dot D E=dot h E*dot D D:=by
    simp only [dot]at s1 s2 ⊢
    grind
   have z:0<dot D D:=by
    apply lD
    rcases Int.decEq D.x 0 with hh | hh
    ·exact .inl hh
    ·right;intro h';simp [dot,hh,h']at h2
   have:=Int.mul_pos h3 z
   exact cW h2 (by omega)
  have q:quarter (sub c y) (sub n y)=2:=by unfold quarter;rw [if_pos z,if_neg (by omega)]
  unfold ir qn
  dsimp only
  rw [q]
  cases l<;>simp
 ·cases l with
  | true=>
   simp only [X,if_true]at h1
   have q:quarter (sub c y) (sub n y)=3:=by unfold quarter;rw [if_neg z,if_neg (by omega)]
   unfold ir qn
   dsimp only
   rw [q]
   simp
  | false=>
   simp only [X,Bool.false_eq_true,if_false]at h1
   have q:quarter (sub c y) (sub n y)=1:=by unfold quarter;rw [if_neg z,if_pos (by omega)]
   unfold ir qn
   dsimp only
   rw [q]
   simp
noncomputable def afv (t:Pt) (v:Node) (w:Pt):Prop:=t≠v.at_∧w≠v.at_
theorem yN {h p q:Pt} (z:0<dot h (sub q p)):p≠q:=by
 rintro rfl
 simp [dot,sub]at z
theorem T6 {l:Bool} {h goal:Pt}:∀(ys:List (Pt×Nat)) (d c:Pt) (x w:Node),x.at_=c→w.at_=goal→0<dot h d→Hh l h d (c::(ys.map (·.1)++[goal]))→
  qj (fun t v n=>ir l t v n∧afv t v n) (x::(ys.map (fun y=>(⟨y.1,some y.2,if l=true then 0 else -1⟩:Node))++[w]))
 | [],d,c,x,w,hx,hw,hd,B=>trivial
 | [y],d,c,x,w,hx,hw,hd,B=>by
  simp only [List.map_cons,List.map_nil,List.cons_append,List.nil_append,Hh]at B
  obtain ⟨b1,b2,b3,b4,_⟩:=B
  simp only [List.map_cons,List.map_nil,List.cons_append,List.nil_append,Wc,hx,hw]
  exact ⟨⟨Jx b3 b2 b4,yN b2,Ne.symm (yN b4)⟩,trivial⟩
 | y::z::ys,d,c,x,w,hx,hw,hd,B=>by
  simp only [List.map_cons,List.cons_append,Hh]at B
  obtain ⟨b1,b2,b3,b4,b5⟩:=B
  have ih:=T6 (z::ys) (sub y.1 c) y.1 (⟨y.1,some y.2,if l=true then 0 else -1⟩:Node) w rfl hw b2 (by
   simp only [List.map_cons,List.cons_append,Hh];exact ⟨b3,b4,b5⟩)
  simp only [List.map_cons,List.cons_append,Wc,hx]at ih ⊢
  exact ⟨⟨Jx b3 b2 b4,yN b2,Ne.symm (yN b4)⟩,ih⟩
section
variable {marks:List Pt} {u v w:Pt}
theorem aaB (hs:side u v w≠0):0<X (decide (0<side u v w)) (sub v u) (sub w u):=by
 by_cases h:0<side u v w
 ·simp only [h,decide_true,X,if_true];exact h
 ·simp only [h,decide_false,X,Bool.false_eq_true,if_false]
  have:cross (sub w u) (sub v u)=- side u v w:=by simp only [side,cross];grind
  omega
theorem PK (hm:bK marks) (hu:Near 1000000 u) (hv:Near 1000000 v) (hw:Near 1000000 w) (hs:side u v w≠0) (x y:Node) (hx:x.at_=u) (hy:y.at_=w) :
  qj (fun t n e=>ir (decide (0<side u v w)) t n e∧afv t n e) (x::(bD marks u v w++[y])):=by
 have I:=Ef hm hu hv hw hs
 have B:=Jq (marks.length+1) (sub v u) u w (cX marks u v w) I
 have T:=T6 (rowOf marks u v w) (sub v u) u x y hx hy I.falls B
 exact T
theorem yO {n:Node} (h:n∈bD marks u v w):∃p m,n.at_=p∧n.mark=some m∧marks[m]?=some p∧inTriangle u v w p=true∧p≠u∧p≠w:=by
 unfold bD at h
 rw [List.mem_map]at h
 obtain ⟨x,hx,rfl⟩:=h
 obtain ⟨h1,h2,h3,h4⟩:=qJ hx
 exact ⟨x.1,x.2,rfl,rfl,h1,h2,h3,h4⟩
theorem qO (hs:side u v w=0):bD marks u v w=[]:=by
 unfold bD;rw [Jr hs];rfl
theorem Jy (hs:side u v w≠0):0<X (decide (0<side u v w)) (sub v u) (sub (firstOf (bD marks u v w) w) u):=by
 unfold firstOf
 cases h:(bD marks u v w) with
 | nil=>exact aaB hs
 | cons n r=>
  obtain ⟨p,m,h1,_,_,h4,_⟩:=yO (marks:=marks) (u:=u) (v:=v) (w:=w) (n:=n) (by rw [h];simp)
  simp only [List.head?_cons,Option.map_some,Option.getD_some,h1]
  exact (jy h4).2.1
theorem PL (hs:side u v w≠0):0<X (decide (0<side u v w)) (sub (lastOf (bD marks u v w) u) w) (sub v w):=by
 unfold lastOf
 cases h:(bD marks u v w).getLast? with
 | none=>
  simp only [Option.map_none,Option.getD_none]
  have e:∀l,X l (sub u w) (sub v w)=X l (sub v u) (sub w u):=by
   intro l;cases l<;>simp [X,cross,sub]<;>grind
  rw [e];exact aaB hs
 | some n=>
  obtain ⟨p,m,h1,_,_,h4,_⟩:=yO (marks:=marks) (u:=u) (v:=v) (w:=w) (n:=n) (List.mem_of_getLast? h)
  simp only [Option.map_some,Option.getD_some,h1]
  have e:∀l,X l (sub p w) (sub v w)=X l (sub w v) (sub p v):=by
   intro l;cases l<;>simp [X,cross,sub]<;>grind
  rw [e];exact (jy h4).2.2.1
theorem afw {l:Bool} {a b:Pt} (h:0<X l a b):cross a b≠0:=by
 cases l with
 | true=>simp only [X,if_true]at h;omega
 | false=>
  simp only [X,Bool.false_eq_true,if_false]at h
  have:=d7 a b
  omega
end
theorem QZ {marks:List Pt} {t u v w:Node} {z:Option Node} (h:¬(u.at_=w.at_∧u.mark.isSome=true∧w.mark.isSome=true)) :
  released marks t u v w z=turnedNext u (sub t.at_ u.at_) (sub v.at_ u.at_) (sub (firstOf (bD marks u.at_ v.at_ w.at_) w.at_) u.at_) ::
   (bD marks u.at_ v.at_ w.at_++[match z with
    | some e=>turnedPrev w (sub v.at_ w.at_) (sub (lastOf (bD marks u.at_ v.at_ w.at_) u.at_) w.at_) (sub e.at_ w.at_)
    | none=>w]):=by
 unfold released
 rw [if_neg h]
 rfl
noncomputable def lE (marks B:List Pt):Prop:=∀s∈segments B,∀m∈marks,onSegment s.1 s.2 m=false
noncomputable def m8 (Z:List Node):Prop:=∃a Z',Z=a::Z'∧a.mark=none∧∀x∈Z',x.mark.isSome=true
theorem m8.init {Z:List Node} {u:Node} (h:m8 (Z++[u])) (hz:Z≠[]):m8 Z∧u.mark.isSome=true:=by
 obtain ⟨a,Z',e,h1,h2⟩:=h
 cases Z with
 | nil=>exact absurd rfl hz
 | cons x Z=>
  simp only [List.cons_append,List.cons.injEq]at e
  obtain ⟨rfl,e⟩:=e
  refine ⟨⟨x,Z,rfl,h1,fun y hy=>h2 y ?_⟩,h2 u ?_⟩
  ·rw [←e];simp [hy]
  ·rw [←e];simp
theorem m8.snoc {Z:List Node} {u:Node} (h:m8 Z) (hu:u.mark.isSome=true):m8 (Z++[u]):=by
 obtain ⟨a,Z',rfl,h1,h2⟩:=h
 refine ⟨a,Z'++[u],rfl,h1,fun x hx=>?_⟩
 rcases List.mem_append.1 hx with hx | hx
 ·exact h2 x hx
 ·rw [List.mem_singleton.1 hx];exact hu
theorem m8.one {u:Node} (h:m8 [u]):u.mark=none:=by
 obtain ⟨a,Z',e,h1,h2⟩:=h
 simp only [List.cons.injEq]at e
 rw [e.1];exact h1
noncomputable def FormA (marks:List Pt) (l:List Node) (n:Nat):Prop:=
 ∃(Z:List Node) (u v:Node) (M:List Node) (b:Node) (B:List Node) (L:Bool),l=Z++u::v::(M++b::B)∧Z.length+1=n∧m8 (Z++[u])∧v.mark.isSome=true∧(∀x∈M,x.mark.isSome=true)∧
  (∀x∈b::B,x.mark=none)∧lE marks ((b::B).map (·.at_))∧qj jP (Z++[u,v])∧qj (ir L) (v::(M++[b]))∧
  ∀w r,M++b::B=w::r→jP u.at_ v w.at_∨TY (!L) u.at_ v w.at_
noncomputable def aaC (marks:List Pt) (l:List Node) (n:Nat):Prop:=
 ∃(Z:List Node) (u b:Node) (B:List Node),l=Z++u::b::B∧Z.length+1=n∧m8 (Z++[u])∧
  (∀x∈b::B,x.mark=none)∧lE marks ((b::B).map (·.at_))∧qj jP (Z++[u,b])
structure Inv (marks:List Pt) (l:List Node) (n:Nat):Prop where
 ok:∀x∈l,NodeOk marks x
 good:qj Good l
 form:FormA marks l n∨aaC marks l n
theorem Jz {marks:List Pt} {a:Pt} {r:List Pt} (h:lE marks (a::r)):lE marks r:=by
 intro s hs
 cases r with
 | nil=>simp [segments]at hs
 | cons b r=>exact h s (by simp only [segments,List.mem_cons];exact .inr hs)
theorem aaD {marks:List Pt} {a b:Node} {M B:List Node} {L:Bool} (ha:m8 [a]) (hM:∀x∈M,x.mark.isSome=true) (hB:∀x∈b::B,x.mark=none) (hN:lE marks ((b::B).map (·.at_)))
  (hW:qj (ir L) (a::(M++[b]))):FormA marks (a::(M++b::B)) 1∨aaC marks (a::(M++b::B)) 1:=by
 cases M with
 | nil=>exact .inr ⟨[],a,b,B,rfl,rfl,ha,hB,hN,trivial⟩
 | cons v M=>
  left
  refine ⟨[],a,v,M,b,B,L,rfl,rfl,ha,hM v (by simp),fun x hx=>hM x (by simp [hx]),hB,hN,trivial,T5 hW,fun w r e=>.inl ⟨hM v (by simp),?_⟩⟩
  have:ir L a.at_ v w.at_:=by
   cases M with
   | nil=>
    simp only [List.nil_append,List.cons.injEq]at e
    rw [←e.1]
    exact hW.1
   | cons x M=>
    simp only [List.cons_append,List.cons.injEq]at e
    rw [←e.1]
    exact hW.1
  cases L
  ·exact .inr this
  ·exact .inl this
theorem Wd {t:Pt} {v:Node} {w:Pt} (h:jP t v w):∃L,ir L t v w:=by
 rcases h.2 with h | h
 ·exact ⟨true,h⟩
 ·exact ⟨false,h⟩
theorem JB {t:Pt} {v:Node} {w:Pt} {L:Bool} (hv:v.mark.isSome=true) (h:ir L t v w):jP t v w:=by
 cases L
 ·exact ⟨hv,.inr h⟩
 ·exact ⟨hv,.inl h⟩
theorem JC {marks:List Pt} {l:List Node} {n:Nat} (I:Inv marks l n) {Z r:List Node} {u v w:Node} (e:l=Z++u::v::w::r) (hn:Z.length+1=n) (hh:held u v w=true):Inv marks l (n+1):=by
 refine ⟨I.ok,I.good,?_⟩
 rw [uN]at hh
 rcases I.form with ⟨Z0,u0,v0,M,b,B,L,e0,n0,h1,h2,h3,h4,h5,h6,h7,h8⟩ | ⟨Z0,u0,b,B,e0,n0,h1,h4,h5,h6⟩
 ·have hz:=List.append_inj (e0.symm.trans e) (by omega)
  obtain ⟨rfl,e1⟩:=hz
  simp only [List.cons.injEq]at e1
  obtain ⟨rfl,rfl,e2⟩:=e1
  have t2:qj jP (Z0++[u0]++[v0,w]):=by
   rw [List.append_assoc]
   show qj jP (Z0++u0::v0::[w])
   exact (gJ _ _ _ _).2 ⟨h6,hh,trivial⟩
  cases M with
  | nil=>
   simp only [List.nil_append,List.cons.injEq]at e2
   obtain ⟨rfl,rfl⟩:=e2
   exact .inr ⟨Z0++[u0],v0,b,B,by rw [e0];simp,by simp;omega,h1.snoc h2,h4,h5,t2⟩
  | cons x M=>
   simp only [List.cons_append,List.cons.injEq]at e2
   obtain ⟨rfl,e2⟩:=e2
   refine .inl ⟨Z0++[u0],v0,x,M,b,B,L,by rw [e0];simp,by simp;omega,h1.snoc h2,h3 x (by simp),fun y hy=>h3 y (by simp [hy]),h4,h5,t2,T5 h7,fun w' r' e3=>.inl (JB (h3 x (by simp)) (L:=L) ?_)⟩
   cases M with
   | nil=>
    simp only [List.nil_append,List.cons.injEq]at e3
    rw [←e3.1]
    exact h7.1
   | cons y M=>
    simp only [List.cons_append,List.cons.injEq]at e3
    rw [←e3.1]
    exact h7.1
 ·have hz:=List.append_inj (e0.symm.trans e) (by omega)
  obtain ⟨rfl,e1⟩:=hz
  simp only [List.cons.injEq]at e1
  obtain ⟨rfl,rfl,e2⟩:=e1
  have:=hh.1
  rw [h4 b (by simp)]at this
  cases this
structure gq (marks:List Pt) (Z:List Node) (u v w:Node) (r M:List Node) (b:Node) (B:List Node):Prop where
 rest:w::r=M++b::B
 some:∀x∈M,x.mark.isSome=true
 none:∀x∈b::B,x.mark=none
 clear:lE marks ((b::B).map (·.at_))
 afx:qj (ir (decide (0<side u.at_ v.at_ w.at_))) (v::(M++[b]))
 flat:side u.at_ v.at_ w.at_=0→M=[]∧∀m∈marks,onSegment v.at_ w.at_ m=false
 head:m8 (Z++[u])
 held:qj jP (Z++[u,v])
theorem Nj (p d:Pt):(quarter p d=1↔0<cross p d)∧(quarter p d=3↔cross p d<0):=by
 unfold quarter
 by_cases h:cross p d=0
 ·rw [if_pos h];split<;>omega
 ·rw [if_neg h];split<;>omega
theorem YT {marks:List Pt} {l:List Node} {n:Nat} (I:Inv marks l n) {Z r:List Node} {u v w:Node} (e:l=Z++u::v::w::r) (hn:Z.length+1=n) (hh:held u v w=false):∃M b B,gq marks Z u v w r M b B:=by
 have hh':¬jP u.at_ v w.at_:=by rw [←uN,hh];simp
 rcases I.form with ⟨Z0,u0,v0,M,b,B,L,e0,n0,h1,h2,h3,h4,h5,h6,h7,h8⟩ | ⟨Z0,u0,b,B,e0,n0,h1,h4,h5,h6⟩
 ·have hz:=List.append_inj (e0.symm.trans e) (by omega)
  obtain ⟨rfl,e1⟩:=hz
  simp only [List.cons.injEq]at e1
  obtain ⟨rfl,rfl,e2⟩:=e1
  have sl:=(h8 w r e2).resolve_left hh'
  have a:side u0.at_ v0.at_ w.at_=- cross (sub u0.at_ v0.at_) (sub w.at_ v0.at_):=by simp only [side,cross,sub];grind
  have q:=Nj (sub u0.at_ v0.at_) (sub w.at_ v0.at_)
  have hL:decide (0<side u0.at_ v0.at_ w.at_)=L∧side u0.at_ v0.at_ w.at_≠0:=by
   unfold TY qn at sl
   cases L with
   | true=>
    simp only [Bool.not_true,Bool.false_eq_true,if_false]at sl
    have:=q.2.1 sl.2
    exact ⟨decide_eq_true (by omega),by omega⟩
   | false=>
    simp only [Bool.not_false,if_true]at sl
    have:=q.1.1 sl.2
    exact ⟨decide_eq_false (by omega),by omega⟩
  exact ⟨M,b,B,e2.symm,h3,h4,h5,by rw [hL.1];exact h7,fun z=>absurd z hL.2,h1,h6⟩
 ·have hz:=List.append_inj (e0.symm.trans e) (by omega)
  obtain ⟨rfl,e1⟩:=hz
  simp only [List.cons.injEq]at e1
  obtain ⟨rfl,rfl,rfl⟩:=e1
  exact ⟨[],w,r,rfl,by simp,fun x hx=>h4 x (by simp only [List.mem_cons]at hx ⊢;exact .inr hx),Jz h5,trivial,fun _=>⟨rfl,fun m hm=>h5 (b.at_,w.at_) (by simp [segments]) m hm⟩,h1,h6⟩
theorem GQ {marks:List Pt} {u v w:Node} {r:List Node} (hh:held u v w=false):∀(Z:List Node) (t:Node),qj jP (Z++[u,v])→
  pullOnce marks t (Z++u::v::w::r)=some (Z++(released marks (Z.getLast?.getD t) u v w r.head?++r))
 | [],t,_=>by simp [pullOnce,hh]
 | [x],t,h=>by
  have h1:held x u v=true:=(uN _ _ _).2 h.1
  simp [pullOnce,hh,h1]
 | x::y::Z,t,h=>by
  obtain ⟨z,Z',ez⟩:∃z Z',Z++u::v::w::r=z::Z':=by cases Z<;>simp
  obtain ⟨z2,Z2,ez2⟩:∃z2 Z2,Z++[u,v]=z2::Z2:=by cases Z<;>simp
  have hzz:z=z2:=by
   cases Z with
   | nil=>simp at ez ez2;rw [←ez.1,←ez2.1]
   | cons q Z=>simp at ez ez2;rw [←ez.1,←ez2.1]
  subst hzz
  simp only [List.cons_append,ez2,Wc]at h
  have h1:held x y z=true:=(uN _ _ _).2 h.1
  have ih:=GQ (marks:=marks) (r:=r) hh (y::Z) x (by rw [List.cons_append,ez2];exact h.2)
  simp only [List.cons_append]at ih ⊢
  rw [ez]at ih ⊢
  simp only [pullOnce,h1,if_true,ih,Option.map_some]
  congr 3
theorem Q3 {p d e:Pt} (hd:Dir d) (he:Dir e) (hp:Dir p) (h:cross d e=0) (h':0<dot d e):quarter p d=quarter p e:=by
 have s:second d=second e:=by
  rw [V5]at h'
  rw [o5]at h
  by_cases z:second d=second e
  ·exact z
  ·rw [if_neg z]at h h'
   have:=V6 hd he (by omega)
   omega
 have hc:cross (up d) (up e)=0:=by rw [o5,if_pos s]at h;exact h
 have a:cross (up e) (up d)=- cross (up d) (up e):=d7 _ _
 have fit:=Ni hp hd he
 have g:=Ni hp he hd
 have k1:(0<cross (up p) (up d))↔(0<cross (up p) (up e)):=⟨fun z=>fit.t1 z (by omega),fun z=>g.t1 z (by omega)⟩
 have k2:(cross (up p) (up d)=0)↔(cross (up p) (up e)=0):=⟨fun z=>fit.t5 z (by omega),fun z=>g.t5 z (by omega)⟩
 rw [dg hp hd,dg hp he,s,decide_eq_decide.2 k1,decide_eq_decide.2 k2]
theorem T7 {v w m:Pt} (h:onSegment v w m=false):v≠m∧w≠m∧(cross (sub v m) (sub w m)=0→0<dot (sub v m) (sub w m)):=by
 have e:side v w m=cross (sub v m) (sub w m):=by simp only [side,cross,sub];grind
 unfold onSegment at h
 rw [e]at h
 simp only [Bool.and_eq_false_iff,decide_eq_false_iff_not]at h
 refine ⟨?_,?_,fun z=>by omega⟩
 ·rintro rfl;simp [cross,dot,sub]at h
 ·rintro rfl;simp [cross,dot,sub]at h
theorem gq.We {marks:List Pt} {Z r M B:List Node} {u v w b:Node} (C:gq marks Z u v w r M b B):¬(u.at_=w.at_∧u.mark.isSome=true∧w.mark.isSome=true):=by
 rintro ⟨h1,_,h3⟩
 have hs:side u.at_ v.at_ w.at_=0:=by rw [←h1];simp only [side,cross,sub];grind
 have e:=C.rest
 rw [(C.flat hs).1]at e
 simp only [List.nil_append,List.cons.injEq]at e
 rw [e.1,C.none b (by simp)]at h3
 cases h3
theorem T8 (c:List Node) (w:Node):∃n,n∈c++[w]∧n.at_=firstOf c w.at_:=by
 cases c with
 | nil=>exact ⟨w,by simp,rfl⟩
 | cons x c=>exact ⟨x,by simp,rfl⟩
theorem IW (u:Node):∀c:List Node,∃p x,u::c=p++[x]∧x.at_=lastOf c u.at_
 | []=>⟨[],u,rfl,rfl⟩
 | y::c=>by
  obtain ⟨p,x,e,h⟩:=IW y c
  refine ⟨u::p,x,by rw [e];rfl,?_⟩
  rw [h]
  unfold lastOf
  cases c with
  | nil=>rfl
  | cons z c=>
   obtain ⟨q,hq⟩:∃q,(z::c).getLast?=some q:=⟨_,List.getLast?_eq_some_getLast (by simp)⟩
   rw [List.getLast?_cons_cons,hq];rfl
section
variable {marks:List Pt} {Z r M B:List Node} {u v w b t:Node}
theorem gq.before (C:gq marks Z u v w r M b B) (good:qj Good (Z++u::v::w::r)) (hu:u.mark.isSome=true):∃Z1 t,Z=Z1++[t]∧t.at_≠u.at_∧v.at_≠u.at_∧jP t.at_ u v.at_:=by
 rcases List.eq_nil_or_concat Z with rfl | ⟨Z1,t,rfl⟩
 ·have:=C.head.one
  rw [this]at hu
  cases hu
 ·refine ⟨Z1,t,by simp,?_⟩
  have g:=good
  have h:=C.held
  simp only [List.concat_eq_append,List.append_assoc,List.cons_append,List.nil_append]at g h
  rw [gJ]at g h
  exact ⟨(g.2.1 hu).1,(g.2.1 hu).2,h.2.1⟩
structure zQ (marks:List Pt) (Z:List Node) (u v w:Node) (r:List Node):Prop where
 next:u.mark.isSome=true→∃Z1 t,Z=Z1++[t]∧Dir (sub t.at_ u.at_)∧Dir (sub v.at_ u.at_)∧Dir (sub (firstOf (bD marks u.at_ v.at_ w.at_) w.at_) u.at_)∧
  (cross (sub v.at_ u.at_) (sub (firstOf (bD marks u.at_ v.at_ w.at_) w.at_) u.at_)=0→0<dot (sub v.at_ u.at_) (sub (firstOf (bD marks u.at_ v.at_ w.at_) w.at_) u.at_))
 prev:w.mark.isSome=true→∃e r',r=e::r'∧Dir (sub v.at_ w.at_)∧Dir (sub (lastOf (bD marks u.at_ v.at_ w.at_) u.at_) w.at_)∧Dir (sub e.at_ w.at_)∧
  cross (sub v.at_ w.at_) (sub (lastOf (bD marks u.at_ v.at_ w.at_) u.at_) w.at_)≠0
theorem T9 {a b c:Pt} (h:cross (sub a c) (sub b c)≠0):b≠c∧a≠c:=by
 constructor
 ·rintro rfl;simp [cross,sub]at h
 ·rintro rfl;simp [cross,sub]at h
theorem JD (hm:bK marks) {p q s:Pt} {n:Node} (h:n∈bD marks p q s):NodeOk marks n:=by
 obtain ⟨a,m,h1,h2,h3,_⟩:=yO h
 refine ⟨by rw [h1];exact hm.near _ (List.mem_of_getElem? h3),fun k hk=>?_⟩
 rw [h2]at hk;cases hk
 rw [h1];exact h3
theorem JF (hm:bK marks) {p q:Pt} {s:Node} (hs:Near 1000000 s.at_):Near 1000000 (firstOf (bD marks p q s.at_) s.at_):=by
 obtain ⟨n,hn,e⟩:=T8 (bD marks p q s.at_) s
 rw [←e]
 rcases List.mem_append.1 hn with hn | hn
 ·exact (JD hm hn).near
 ·rw [List.mem_singleton.1 hn];exact hs
theorem PN (hm:bK marks) {q s:Pt} {p:Node} (hs:Near 1000000 p.at_):Near 1000000 (lastOf (bD marks p.at_ q s) p.at_):=by
 unfold lastOf
 cases h:(bD marks p.at_ q s).getLast? with
 | none=>exact hs
 | some n=>exact (JD hm (List.mem_of_getLast? h)).near
theorem gq.turned (hm:bK marks) (C:gq marks Z u v w r M b B) (ok:∀x∈Z++u::v::w::r,NodeOk marks x) (good:qj Good (Z++u::v::w::r)):zQ marks Z u v w r:=by
 have nu:=(ok u (by simp)).near
 have nv:=(ok v (by simp)).near
 have nw:=(ok w (by simp)).near
 refine ⟨fun hu=>?_,fun hw=>?_⟩
 ·obtain ⟨Z1,t,rfl,h1,h2,_⟩:=C.before good hu
  have nt:=(ok t (by simp)).near
  refine ⟨Z1,t,rfl,vp nt nu h1,vp nv nu h2,?_⟩
  by_cases hs:side u.at_ v.at_ w.at_=0
  ·rw [qO hs]
   have um:u.at_∈marks:=(ok u (by simp)).mem hu
   obtain ⟨c1,c2,c3⟩:=T7 ((C.flat hs).2 _ um)
   exact ⟨vp nw nu c2,c3⟩
  ·have z:=afw (Jy (marks:=marks) hs)
   exact ⟨vp (JF hm nw) nu (T9 z).1,fun h=>absurd h z⟩
 ·have hs:side u.at_ v.at_ w.at_≠0:=by
   intro hs
   have e:=C.rest
   rw [(C.flat hs).1]at e
   simp only [List.nil_append,List.cons.injEq]at e
   rw [e.1,C.none b (by simp)]at hw
   cases hw
  obtain ⟨x,M',rfl⟩:∃x M',M=x::M':=by
   cases M with
   | nil=>
    have e:=C.rest
    simp only [List.nil_append,List.cons.injEq]at e
    rw [e.1,C.none b (by simp)]at hw
    cases hw
   | cons x M=>exact ⟨x,M,rfl⟩
  have e:=C.rest
  simp only [List.cons_append,List.cons.injEq]at e
  obtain ⟨y,r',er⟩:∃y r',r=y::r':=by
   rw [e.2]
   cases M'<;>simp
  have g:=good
  rw [er]at g
  rw [show Z++u::v::w::y::r'=(Z++[u])++v::w::(y::r') by simp,gJ]at g
  have gw:=g.2.1 hw
  have z:=afw (PL (marks:=marks) hs)
  have z':cross (sub v.at_ w.at_) (sub (lastOf (bD marks u.at_ v.at_ w.at_) u.at_) w.at_)≠0:=by
   have:=d7 (sub v.at_ w.at_) (sub (lastOf (bD marks u.at_ v.at_ w.at_) u.at_) w.at_)
   omega
  exact ⟨y,r',er,vp nv nw gw.1,vp (PN hm nu) nw (T9 z').1,vp (ok y (by rw [er];simp)).near nw gw.2,z'⟩
noncomputable def ql (marks:List Pt) (t u v w:Node):Node:=turnedNext u (sub t.at_ u.at_) (sub v.at_ u.at_) (sub (firstOf (bD marks u.at_ v.at_ w.at_) w.at_) u.at_)
noncomputable def lG (marks:List Pt) (u v w:Node) (z:Option Node):Node:=match z with
 | some e=>turnedPrev w (sub v.at_ w.at_) (sub (lastOf (bD marks u.at_ v.at_ w.at_) u.at_) w.at_) (sub e.at_ w.at_)
 | none=>w
theorem oN:(ql marks t u v w).at_=u.at_:=by unfold ql;simp
theorem uO:(ql marks t u v w).mark=u.mark:=by unfold ql;simp
theorem jU {z:Option Node}:(lG marks u v w z).at_=w.at_:=by unfold lG;cases z<;>simp
theorem yP {z:Option Node}:(lG marks u v w z).mark=w.mark:=by unfold lG;cases z<;>simp
theorem Eg {z:Option Node} (h:w.mark=none):lG marks u v w z=w:=by
 unfold lG
 cases z with
 | none=>rfl
 | some e=>exact Hk h _ _ _
theorem gq.rel (C:gq marks Z u v w r M b B):released marks t u v w r.head?=ql marks t u v w::(bD marks u.at_ v.at_ w.at_++[lG marks u v w r.head?]):=QZ C.We
end
section
variable {marks:List Pt} {Z r M B:List Node} {u v w b t:Node}
noncomputable def Nk (marks:List Pt) (u v w:Node) (z:Option Node):List Node→List Node
 | []=>[]
 | _::M=>lG marks u v w z::M
theorem gq.Ua (C:gq marks Z u v w r M b B):lG marks u v w r.head?::r=Nk marks u v w r.head? M++b::B:=by
 have e:=C.rest
 cases M with
 | nil=>
  simp only [List.nil_append,List.cons.injEq]at e
  rw [Eg (by rw [e.1];exact C.none b (by simp)),e.1,e.2];rfl
 | cons x M=>
  simp only [List.cons_append,List.cons.injEq]at e
  rw [e.2];rfl
theorem gq.aaE (C:gq marks Z u v w r M b B):∀x∈Nk marks u v w r.head? M,x.mark.isSome=true:=by
 intro x hx
 cases M with
 | nil=>simp [Nk]at hx
 | cons y M=>
  have e:=C.rest
  simp only [List.cons_append,List.cons.injEq]at e
  simp only [Nk,List.mem_cons]at hx
  rcases hx with rfl | hx
  ·rw [yP,e.1];exact C.some y (by simp)
  ·exact C.some x (by simp [hx])
theorem gq.YW (hm:bK marks) (C:gq marks Z u v w r M b B) (ok:∀x∈Z++u::v::w::r,NodeOk marks x) (T:zQ marks Z u v w r) (hs:side u.at_ v.at_ w.at_≠0) (x:Node) (hx:x.at_=u.at_) :
  qj (ir (decide (0<side u.at_ v.at_ w.at_))) (x::((bD marks u.at_ v.at_ w.at_++Nk marks u v w r.head? M)++[b])):=by
 have nu:=(ok u (by simp)).near
 have nv:=(ok v (by simp)).near
 have nw:=(ok w (by simp)).near
 have e:=C.rest
 have T1:=PK hm nu nv nw hs x (lG marks u v w r.head?) hx jU
 have T2:=Jw (fun _ _ _ h=>h.1) _ T1
 cases M with
 | nil=>
  simp only [List.nil_append,List.cons.injEq]at e
  rw [Eg (by rw [e.1];exact C.none b (by simp)),e.1]at T2
  simp only [Nk,List.append_nil]
  rw [e.1]
  exact T2
 | cons y M=>
  simp only [List.cons_append,List.cons.injEq]at e
  obtain ⟨e1,e2⟩:=e
  subst e1
  have hw:=C.some w (by simp)
  obtain ⟨q,r',er,d1,d2,d3,_⟩:=T.prev hw
  obtain ⟨p,z,ep,hz⟩:=IW x (bD marks u.at_ v.at_ w.at_)
  rw [hx]at hz
  simp only [Nk]
  rw [show x::(bD marks u.at_ v.at_ w.at_++lG marks u v w r.head?::M++[b])=(x::bD marks u.at_ v.at_ w.at_)++lG marks u v w r.head?::(M++[b]) by simp,ep]
  rw [show x::(bD marks u.at_ v.at_ w.at_++[lG marks u v w r.head?])=(x::bD marks u.at_ v.at_ w.at_)++[lG marks u v w r.head?] by simp,ep]at T2
  rw [List.append_assoc]at T2 ⊢
  refine (gJ z (lG marks u v w r.head?) (M++[b]) p).2 ⟨T2,?_⟩
  have W:=C.afx
  obtain ⟨q',M',eq',hq'⟩:∃q' M',M++[b]=q'::M'∧q'.at_=q.at_:=by
   cases M with
   | nil=>
    simp only [List.nil_append]at e2
    rw [er]at e2
    simp only [List.cons.injEq]at e2
    exact ⟨b,[],rfl,by rw [e2.1]⟩
   | cons q' M=>
    simp only [List.cons_append]at e2
    rw [er]at e2
    simp only [List.cons.injEq]at e2
    exact ⟨q',M++[b],rfl,by rw [e2.1]⟩
  simp only [List.cons_append]at W
  rw [eq']at W ⊢
  rw [Wc]at W ⊢
  refine ⟨?_,PJ jU _ W.2⟩
  rw [er]
  simp only [List.head?_cons,lG]
  rw [hz,hq']
  have w1:=W.1
  rw [hq']at w1
  exact Wb hw d1 d2 d3 (PL hs) w1
theorem gq.Wf (C:gq marks (Z++[t]) u v w r M b B) (good:qj Good ((Z++[t])++u::v::w::r)) (T:zQ marks (Z++[t]) u v w r) :
  jP t.at_ (ql marks t u v w) (firstOf (bD marks u.at_ v.at_ w.at_) w.at_)∨TY (!decide (0<side u.at_ v.at_ w.at_)) t.at_ (ql marks t u v w) (firstOf (bD marks u.at_ v.at_ w.at_) w.at_):=by
 have hu:=(C.head.init (by simp)).2
 obtain ⟨Z1,t1,e1,h1,h2,h3⟩:=C.before good hu
 obtain ⟨_,t2,e2,d1,d2,d3,d4⟩:=T.next hu
 have a1:=List.append_inj' e1 rfl
 have a2:=List.append_inj' e2 rfl
 simp only [List.cons.injEq,and_true]at a1 a2
 obtain ⟨_,rfl⟩:=a1
 obtain ⟨_,rfl⟩:=a2
 by_cases hs:side u.at_ v.at_ w.at_=0
 ·left
  rw [qO hs]at d3 d4
  have hc:cross (sub v.at_ u.at_) (sub w.at_ u.at_)=0:=hs
  have q:=Q3 d2 d3 d1 hc (d4 hc)
  unfold ql
  rw [qO hs]
  refine ⟨by rw [Hi];exact hu,?_⟩
  have k:=V9 hu (sub t.at_ u.at_) (sub v.at_ u.at_) (sub (firstOf [] w.at_) u.at_)
  rw [show firstOf [] w.at_=w.at_ from rfl]at k ⊢
  rw [if_neg (by omega),if_neg (by omega)]at k
  have h:=h3.2
  unfold ir qn at h ⊢
  rw [show firstOf [] w.at_=w.at_ from rfl]at q
  rw [k,zy,←q]
  exact h
 ·obtain ⟨L',hL⟩:=Wd h3
  rcases Wa hu d1 d2 d3 (Jy hs) hL with h | ⟨e,h⟩
  ·exact .inl (JB (by rw [uO];exact hu) h)
  ·rw [e]at h;exact .inr h
theorem Q4 {c M':List Node} {w' b:Node} {r B:List Node} (e:w'::r=M'++b::B) {x:Node} {y:List Node} (h:c++M'++b::B=x::y):x.at_=firstOf c w'.at_:=by
 rw [List.append_assoc,←e]at h
 cases c with
 | nil=>simp only [List.nil_append,List.cons.injEq]at h;rw [←h.1];rfl
 | cons z c=>simp only [List.cons_append,List.cons.injEq]at h;rw [←h.1];rfl
theorem gq.aaF (hm:bK marks) (C:gq marks Z u v w r M b B) (ok:∀x∈Z++u::v::w::r,NodeOk marks x) (good:qj Good (Z++u::v::w::r)) (T:zQ marks Z u v w r) :
  FormA marks (Z++(released marks (Z.getLast?.getD u) u v w r.head?++r)) (max 1 Z.length)∨aaC marks (Z++(released marks (Z.getLast?.getD u) u v w r.head?++r)) (max 1 Z.length):=by
 rw [C.rel,List.cons_append,List.append_assoc,List.singleton_append,C.Ua,←List.append_assoc]
 have XS:∀x∈bD marks u.at_ v.at_ w.at_++Nk marks u v w r.head? M,x.mark.isSome=true:=by
  intro x hx
  rcases List.mem_append.1 hx with hx | hx
  ·obtain ⟨p,m,_,h2,_⟩:=yO hx
   rw [h2];rfl
  ·exact C.aaE x hx
 have W:∃L,qj (ir L) (ql marks (Z.getLast?.getD u) u v w::((bD marks u.at_ v.at_ w.at_++Nk marks u v w r.head? M)++[b]))∧L=decide (0<side u.at_ v.at_ w.at_):=by
  refine ⟨_,?_,rfl⟩
  by_cases hs:side u.at_ v.at_ w.at_=0
  ·rw [qO hs,(C.flat hs).1]
   exact trivial
  ·exact C.YW hm ok T hs _ oN
 obtain ⟨L,W,eL⟩:=W
 rcases List.eq_nil_or_concat Z with rfl | ⟨Z1,t,rfl⟩
 ·have hu:=C.head.one
  have hh:m8 [ql marks (([]:List Node).getLast?.getD u) u v w]:=⟨_,[],rfl,by rw [uO];exact hu,by simp⟩
  exact aaD hh XS C.none C.clear W
 ·simp only [List.concat_eq_append]at *
  rw [show (Z1++[t]).getLast?.getD u=t by simp]at W ⊢
  have hi:=C.head.init (by simp)
  have H:=C.held
  rw [show Z1++[t]++[u,v]=Z1++t::u::[v] by simp,gJ]at H
  left
  refine ⟨Z1,t,ql marks t u v w,bD marks u.at_ v.at_ w.at_++Nk marks u v w r.head? M,b,B,L,by simp,by simp,hi.1,by rw [uO];exact hi.2,XS,C.none,C.clear,?_,W,fun x y e=>?_⟩
  ·have:=Jv (u':=ql marks t u v w) oN (Z1++[t]) (by rw [List.append_assoc];exact H.1)
   rwa [List.append_assoc]at this
  ·have hx:=Q4 C.Ua e
   rw [jU]at hx
   rw [hx,eL]
   exact C.Wf good T
theorem gq.aaG (hm:bK marks) (C:gq marks Z u v w r M b B) (ok:∀x∈Z++u::v::w::r,NodeOk marks x) (good:qj Good (Z++u::v::w::r)) (T:zQ marks Z u v w r) :
  qj Good (Z++(released marks (Z.getLast?.getD u) u v w r.head?++r)):=by
 rw [C.rel,List.cons_append,List.append_assoc,List.singleton_append]
 have nu:=(ok u (by simp)).near
 have nv:=(ok v (by simp)).near
 have nw:=(ok w (by simp)).near
 have Q5:∀{p q:Pt},Dir (sub p q)→p≠q:=by
  rintro p q ⟨_,h⟩ rfl
  simp [sub]at h
 have row:qj Good (ql marks (Z.getLast?.getD u) u v w::(bD marks u.at_ v.at_ w.at_++[lG marks u v w r.head?])):=by
  by_cases hs:side u.at_ v.at_ w.at_=0
  ·rw [qO hs];exact trivial
  ·exact Jw (fun _ _ _ h _=>h.2) _ (PK hm nu nv nw hs _ _ oN jU)
 have behind:qj Good (ql marks (Z.getLast?.getD u) u v w::(bD marks u.at_ v.at_ w.at_++lG marks u v w r.head?::r)):=by
  obtain ⟨p,z,ep,hz⟩:=IW (ql marks (Z.getLast?.getD u) u v w) (bD marks u.at_ v.at_ w.at_)
  rw [oN]at hz
  rw [←List.cons_append,ep,List.append_assoc]at row ⊢
  refine (gJ z (lG marks u v w r.head?) r p).2 ⟨row,?_⟩
  cases r with
  | nil=>exact trivial
  | cons e r=>
   have g:=good
   rw [show Z++u::v::w::e::r=(Z++[u])++v::w::e::r by simp,gJ]at g
   refine ⟨fun hw=>?_,PJ jU _ g.2.2⟩
   rw [yP]at hw
   obtain ⟨q,r',er,d1,d2,d3,_⟩:=T.prev hw
   simp only [List.cons.injEq]at er
   obtain ⟨rfl,rfl⟩:=er
   rw [jU,hz]
   exact ⟨Q5 d2,Q5 d3⟩
 obtain ⟨f,R,eR,hf⟩:∃f R,bD marks u.at_ v.at_ w.at_++lG marks u v w r.head?::r=f::R∧f.at_=firstOf (bD marks u.at_ v.at_ w.at_) w.at_:=by
  cases h:bD marks u.at_ v.at_ w.at_ with
  | nil=>exact ⟨_,_,rfl,jU⟩
  | cons x c=>exact ⟨_,_,rfl,rfl⟩
 rw [eR]at behind ⊢
 refine (gJ _ _ _ Z).2 ⟨?_,behind⟩
 rcases List.eq_nil_or_concat Z with rfl | ⟨Z1,t,rfl⟩
 ·exact trivial
 ·simp only [List.concat_eq_append]at *
  have g:=good
  rw [show (Z1++[t]).getLast?.getD u=t by simp]
  have hi:=(C.head.init (by simp)).2
  rw [show Z1++[t]++u::v::w::r=Z1++t::u::(v::w::r) by simp,gJ]at g
  rw [show Z1++[t]++[ql marks t u v w,f]=Z1++t::ql marks t u v w::[f] by simp,gJ]
  refine ⟨?_,fun _=>?_,trivial⟩
  ·have:=Jv (u':=ql marks t u v w) oN (Z1++[t]) (by rw [List.append_assoc];exact g.1)
   rwa [List.append_assoc]at this
  ·obtain ⟨_,t2,e2,d1,d2,d3,d4⟩:=T.next hi
   have a2:=List.append_inj' e2 rfl
   simp only [List.cons.injEq,and_true]at a2
   obtain ⟨_,rfl⟩:=a2
   rw [oN,hf]
   exact ⟨Q5 d1,Q5 d3⟩
end
theorem Q6 {Z r:List Node} {u:Node} {d:Node} (h:Z=[]∨True):(Z.getLast?.getD ((Z++u::r).headD d))=Z.getLast?.getD u:=by
 cases Z with
 | nil=>rfl
 | cons x Z=>
  obtain ⟨q,hq⟩:∃q,(x::Z).getLast?=some q:=⟨_,List.getLast?_eq_some_getLast (by simp)⟩
  rw [hq];rfl
theorem JG {marks:List Pt} (hm:bK marks) {l:List Node} {n:Nat} (I:Inv marks l n) {Z r:List Node} {u v w:Node} (e:l=Z++u::v::w::r) (hn:Z.length+1=n) (hh:held u v w=false) :
  Inv marks (Z++(released marks (Z.getLast?.getD u) u v w r.head?++r)) (max 1 (n-1))∧pullOnce marks (l.headD ⟨⟨0,0⟩,none,0⟩) l=some (Z++(released marks (Z.getLast?.getD u) u v w r.head?++r))∧
   zQ marks Z u v w r∧released marks (Z.getLast?.getD u) u v w r.head?=ql marks (Z.getLast?.getD u) u v w::(bD marks u.at_ v.at_ w.at_++[lG marks u v w r.head?])∧(Z=[]→u.mark=none)∧(r=[]→w.mark=none):=by
 obtain ⟨M,b,B,C⟩:=YT I e hn hh
 subst e
 have T:=C.turned hm I.ok I.good
 have P:=GQ (marks:=marks) (r:=r) hh Z ((Z++u::v::w::r).headD ⟨⟨0,0⟩,none,0⟩) C.held
 rw [Q6 (.inr trivial)]at P
 refine ⟨⟨?_,C.aaG hm I.ok I.good T,?_⟩,P,T,C.rel,?_,?_⟩
 ·refine (oM (first:=((Z++u::v::w::r).headD ⟨⟨0,0⟩,none,0⟩).at_) hm _ _ _ I.ok ?_ P).ok
  intro x hx
  cases Z with
  | nil=>simp at hx;simp [hx]
  | cons y Z=>simp at hx;simp [hx]
 ·rw [show n-1=Z.length by omega]
  exact C.aaF hm I.ok I.good T
 ·rintro rfl;exact C.head.one
 ·rintro rfl
  have e:=C.rest
  cases M with
  | nil=>
   simp only [List.nil_append,List.cons.injEq]at e
   rw [e.1];exact C.none b (by simp)
  | cons x M=>simp at e
theorem Eh {marks:List Pt} {a b:Pt} {B:List Pt} (hn:∀p∈a::b::B,Near 1000000 p) (hh:lE marks (a::b::B)):Inv marks (lay (a::b::B)) 1:=by
 have all:∀l:List Pt,∀x∈lay l,x.mark=none:=by
  intro l x hx
  simp only [lay,List.mem_map]at hx
  obtain ⟨p,_,rfl⟩:=hx
  rfl
 have pl:∀l:List Pt,(lay l).map (·.at_)=l:=by intro l;simp [lay,Function.comp_def]
 refine ⟨fun x hx=>?_,?_,.inr ⟨[],⟨a,none,0⟩,⟨b,none,0⟩,lay B,rfl,rfl,⟨_,[],rfl,rfl,by simp⟩,all (b::B),?_,trivial⟩⟩
 ·simp only [lay,List.mem_map]at hx
  obtain ⟨p,hp,rfl⟩:=hx
  exact ⟨hn p hp,fun m h=>by cases h⟩
 ·have:∀l:List Node,(∀x∈l,x.mark=none)→qj Good l:=by
   intro l
   induction l with
   | nil=>intro _;trivial
   | cons x l ih=>
    intro h
    have:=ih fun y hy=>h y (by simp [hy])
    match l,this with
    | [],_=>trivial
    | [_],_=>trivial
    | y::z::l,t=>exact ⟨fun hy=>(by rw [h y (by simp)]at hy;cases hy),t⟩
  exact this _ (all _)
 ·have:=pl (b::B)
  simp only [lay,List.map_cons]at this ⊢
  rw [this]
  exact Jz hh
theorem PQ {marks:List Pt}:∀(l:List Node) (t:Node),qj jP l→pullOnce marks t l=none
 | [],_,_=>rfl
 | [_],_,_=>rfl
 | [_,_],_,_=>rfl
 | u::v::w::r,t,h=>by
  have h1:held u v w=true:=(uN _ _ _).2 h.1
  simp only [pullOnce,h1,if_true,PQ (v::w::r) u h.2,Option.map_none]
theorem Q7 {marks:List Pt} {l:List Node} {n:Nat} (I:Inv marks l n) (h:l.length≤n+1):pullOnce marks (l.headD ⟨⟨0,0⟩,none,0⟩) l=none:=by
 apply PQ
 rcases I.form with ⟨Z0,u0,v0,M,b,B,L,e0,n0,h1,h2,h3,h4,h5,h6,h7,h8⟩ | ⟨Z0,u0,b,B,e0,n0,h1,h4,h5,h6⟩
 ·rw [e0]at h
  simp only [List.length_append,List.length_cons]at h
  omega
 ·rw [e0]at h
  simp only [List.length_append,List.length_cons]at h
  have:B=[]:=by cases B with
   | nil=>rfl
   | cons x B=>simp only [List.length_cons]at h;omega
  subst this
  rw [e0];exact h6
theorem Inv.len {marks:List Pt} {l:List Node} {n:Nat} (I:Inv marks l n):1≤n∧n+1≤l.length:=by
 rcases I.form with ⟨Z0,u0,v0,M,b,B,L,e0,n0,h1,h2,h3,h4,h5,h6,h7,h8⟩ | ⟨Z0,u0,b,B,e0,n0,h1,h4,h5,h6⟩
 ·rw [e0]
  simp only [List.length_append,List.length_cons]
  omega
 ·rw [e0]
  simp only [List.length_append,List.length_cons]
  omega
theorem vg.next {left:Bool} {h d c goal:Pt} {l:List (Pt×Nat)} (H:vg left h d c goal l) {y:Pt×Nat} (hb:bestOf left c l goal=some y) :
  y∈l∧vg left h (sub y.1 c) y.1 goal (l.filter fun x=>x.2 != y.2):=by
 have kg:=qI H.BJ (il H.o4 H.wY) H.oK
 have kl:∀x∈l,0<dot (yL left d) (sub x.1 c):=fun x hx=>qI H.BJ (il (H.near x hx) H.wY) (H.XF x hx)
 obtain ⟨hy,hyg,hyl⟩:=Bx kg kl hb
 have hsub:∀p:Pt,sub (sub p c) (sub y.1 c)=sub p y.1:=by
  intro p;simp only [sub,Pt.mk.injEq];omega
 have inj:∀p:Pt,y.1≠p→sub y.1 c≠sub p c:=by
  intro p hp hq
  apply hp
  simp only [sub,Pt.mk.injEq]at hq
  cases p;cases hz:y.1
  rw [hz]at hq
  simp only [Pt.mk.injEq]at *
  omega
 have hf:0<dot h (sub y.1 c):=az.falls H.falls H.mY (H.XF y hy) H.oK.nonneg hyg.1
 exact ⟨hy,{
  falls:=hf
  oK:=by
   have:=Le.XF (kl y hy) kg hyg (inj goal (H.sX y hy))
   rwa [hsub]at this
  mY:=H.qN y hy
  XF:=by
   intro x hx
   have hx1:=List.mem_filter.1 hx
   have hne:x.2≠y.2:=by simpa using hx1.2
   have:=Le.XF (kl y hy) (kl x hx1.1) (hyl x hx1.1) (inj x.1 (H.apart y hy x hx1.1 (Ne.symm hne)))
   rwa [hsub]at this
  qN:=fun x hx=>H.qN x (List.mem_filter.1 hx).1
  near:=fun x hx=>H.near x (List.mem_filter.1 hx).1
  wY:=H.near y hy
  o4:=H.o4
  BJ:=il (H.near y hy) H.wY
  sX:=fun x hx=>H.sX x (List.mem_filter.1 hx).1
  apart:=fun x hx z hz=>H.apart x (List.mem_filter.1 hx).1 z (List.mem_filter.1 hz).1 }⟩
noncomputable def sg (l:Bool):Int:=if l=true then 1 else -1
noncomputable def JH (l:Bool) (c goal p:Pt):Bool:=decide (sg l*side c goal p<0)||onSegment c goal p
theorem ach (l:Bool) (c g p:Pt):sg l*side c g p=X l (sub g c) (sub p c):=by
 cases l
 ·simp only [sg,X,side,Bool.false_eq_true,if_false]
  have:=d7 (sub g c) (sub p c)
  omega
 ·simp only [sg,X,side,if_true];omega
theorem GR {l:Bool} {k c g p:Pt} (kg:0<dot k (sub g c)) (kp:0<dot k (sub p c)) (hne:p≠g):JH l c g p=better l c p g:=by
 have e1:dot (sub c p) (sub g p)=dot (sub p c) (sub p c)-dot (sub p c) (sub g c):=by simp only [dot,sub];grind
 have hs:=ach l c g p
 have hz:side c g p=0↔X l (sub g c) (sub p c)=0:=by
  rw [←hs]
  cases l<;>simp [sg]
 have key:X l (sub g c) (sub p c)=0→(dot (sub c p) (sub g p)≤0↔dot (sub p c) (sub p c)<dot (sub g c) (sub g c)):=by
  intro z
  have s:=stretched (k:=k) z
  rw [e1]
  have ne:sub p c≠sub g c:=by
   intro e
   apply hne
   simp only [sub,Pt.mk.injEq]at e
   cases p;cases g
   simp only [Pt.mk.injEq]at *
   omega
  generalize sub p c=a at *
  generalize sub g c=b at *
  obtain ⟨s1,s2⟩:=s
  have f1:dot k b*dot a a=dot k a*dot a b:=by simp only [dot]at s1 s2 ⊢;grind
  have f2:dot k b*dot a b=dot k a*dot b b:=by simp only [dot]at s1 s2 ⊢;grind
  have aa:0<dot a a:=by
   apply lD
   rcases Int.decEq a.x 0 with h | h
   ·exact .inl h
   ·right;intro h';simp [dot,h,h']at kp
  have ab:0<dot a b:=cW kp (by have:=Int.mul_pos kg aa;omega)
  have bb:0<dot b b:=cW kp (by have:=Int.mul_pos kg ab;omega)
  have nk:dot k a≠dot k b:=by
   intro e
   apply ne
   rw [e]at s1 s2
   have x1:dot k b*(b.x-a.x)=0:=by rw [Int.mul_sub];omega
   have y1:dot k b*(b.y-a.y)=0:=by rw [Int.mul_sub];omega
   have x2:=cO kg x1
   have y2:=cO kg y1
   cases a;cases b
   simp only [Pt.mk.injEq]at *
   omega
  generalize dot k a=A at *
  generalize dot k b=G at *
  generalize dot a a=AA at *
  generalize dot a b=AB at *
  generalize dot b b=BB at *
  constructor
  ·intro h
   have h1:AA≤AB:=by omega
   have h2:G*AA≤G*AB:=Int.mul_le_mul_of_nonneg_left h1 (Int.le_of_lt kg)
   rw [f1]at h2
   have h3:A<G:=by
    rcases cN A G with z | z
    ·exact z
    ·have:(G+1)*AB≤A*AB:=Int.mul_le_mul_of_nonneg_right (by omega) (Int.le_of_lt ab)
     rw [Int.add_mul]at this
     omega
   have h4:A*AB<G*AB:=Int.mul_lt_mul_of_pos_right h3 ab
   have h5:A*BB<G*BB:=Int.mul_lt_mul_of_pos_right h3 bb
   have h6:G*AA<G*BB:=by omega
   exact Int.lt_of_mul_lt_mul_left h6 (Int.le_of_lt kg)
  ·intro h
   have h3:A<G:=by
    rcases cN A G with z | z
    ·exact z
    ·have g1:(G+1)*AB≤A*AB:=Int.mul_le_mul_of_nonneg_right (by omega) (Int.le_of_lt ab)
     have g2:(G+1)*BB≤A*BB:=Int.mul_le_mul_of_nonneg_right (by omega) (Int.le_of_lt bb)
     have g3:G*AA<G*BB:=Int.mul_lt_mul_of_pos_left h kg
     rw [Int.add_mul]at g1 g2
     omega
   have h4:A*AB<G*AB:=Int.mul_lt_mul_of_pos_right h3 ab
   have h5:G*AA<G*AB:=by omega
   have:=Int.lt_of_mul_lt_mul_left h5 (Int.le_of_lt kg)
   omega
 unfold JH onSegment better
 rw [hs]
 have hX:(if l=true then cross (sub g c) (sub p c) else cross (sub p c) (sub g c))=X l (sub g c) (sub p c):=rfl
 dsimp only
 rw [hX,decide_eq_decide.2 hz]
 by_cases z:X l (sub g c) (sub p c)=0
 ·rw [decide_eq_decide.2 (key z)]
 ·rw [decide_eq_false z];simp
noncomputable def vq (b:Option (Pt×Nat)) (goal:Pt):Pt:=match b with
 | none=>goal
 | some y=>y.1
noncomputable def fX (left:Bool) (c:Pt) (l:List (Pt×Nat)) (goal:Pt) (i:Nat):Option (Pt×Nat):=bestOf left c (l.take i) goal
theorem Wg {left:Bool} {c:Pt} {l:List (Pt×Nat)} {goal:Pt}:fX left c l goal l.length=bestOf left c l goal:=by unfold fX;rw [List.take_length]
theorem GX {left:Bool} {c:Pt} {l:List (Pt×Nat)} {goal:Pt} {i:Nat} {x:Pt×Nat} (h:l[i]?=some x) :
  fX left c l goal (i+1)=if better left c x.1 (vq (fX left c l goal i) goal)=true then some x else fX left c l goal i:=by
 unfold fX bestOf
 rw [List.take_add_one,h,List.foldl_append]
 simp only [Option.toList_some,List.foldl_cons,List.foldl_nil]
 cases List.foldl _ none (List.take i l)<;>rfl
theorem zR {left:Bool} {c:Pt} {l:List (Pt×Nat)} {goal:Pt}:∀{i:Nat} {y:Pt×Nat},fX left c l goal i=some y→∃j,j<i∧l[j]?=some y
 | 0,y,h=>by cases h
 | i+1,y,h=>by
  cases hx:l[i]? with
  | none=>
   have:fX left c l goal (i+1)=fX left c l goal i:=by
    unfold fX
    have:=List.getElem?_eq_none_iff.1 hx
    rw [List.take_of_length_le (by omega),List.take_of_length_le (by omega)]
   rw [this]at h
   obtain ⟨j,h1,h2⟩:=zR h
   exact ⟨j,by omega,h2⟩
  | some x=>
   rw [GX hx]at h
   split at h
   ·cases h;exact ⟨i,by omega,hx⟩
   ·obtain ⟨j,h1,h2⟩:=zR h
    exact ⟨j,by omega,h2⟩
noncomputable def jQ (l:List (Pt×Nat)):Prop:=(l.map (·.2)).Nodup
theorem Ub {l:List (Pt×Nat)} (h:jQ l) {i j:Nat} {x y:Pt×Nat} (hi:l[i]?=some x) (hj:l[j]?=some y) (hne:i≠j):x.2≠y.2:=by
 intro e
 unfold jQ at h
 have h1:(l.map (·.2))[i]?=some x.2:=by rw [List.getElem?_map,hi];rfl
 have h2:(l.map (·.2))[j]?=some x.2:=by rw [List.getElem?_map,hj,e];rfl
 obtain ⟨l1,e1⟩:=List.getElem?_eq_some_iff.1 h1
 obtain ⟨l2,e2⟩:=List.getElem?_eq_some_iff.1 h2
 exact hne ((List.getElem_inj h).1 (e1.trans e2.symm))
theorem vg.look {left:Bool} {h d c goal:Pt} {l:List (Pt×Nat)} (H:vg left h d c goal l) (hn:jQ l) {i:Nat} {x:Pt×Nat} (hx:l[i]?=some x) :
  fX left c l goal (i+1)=if JH left c (vq (fX left c l goal i) goal) x.1=true then some x else fX left c l goal i:=by
 have kg:=qI H.BJ (il H.o4 H.wY) H.oK
 have kl:∀x∈l,0<dot (yL left d) (sub x.1 c):=fun x hx=>qI H.BJ (il (H.near x hx) H.wY) (H.XF x hx)
 have mx:=List.mem_of_getElem? hx
 rw [GX hx]
 cases hb:fX left c l goal i with
 | none=>
  rw [show JH left c (vq none goal) x.1=better left c x.1 goal from GR kg (kl x mx) (H.sX x mx)]
  rfl
 | some y=>
  obtain ⟨j,h1,h2⟩:=zR hb
  have my:=List.mem_of_getElem? h2
  have ne:=H.apart x mx y my (Ub hn hx h2 (by omega))
  rw [show JH left c (vq (some y) goal) x.1=better left c x.1 y.1 from GR (kl y my) (kl x mx) ne]
  rfl
theorem Hl (marks:List Pt) (u v w:Pt):jQ (cX marks u v w):=by
 unfold jQ cX
 rw [List.map_filterMap]
 have:∀(n:Nat) (g:Nat→Option (Pt×Nat)),(∀m x,g m=some x→x.2=m)→((List.range n).filterMap fun m=>Option.map (fun x=>x.2) (g m)).Nodup:=by
  intro n g hg
  induction n with
  | zero=>simp
  | succ n ih=>
   rw [List.range_succ,List.filterMap_append]
   refine List.nodup_append.2 ⟨ih,?_,?_⟩
   ·cases h:g n<;>simp [List.filterMap_cons,h]
   ·intro a ha b hb
    rw [List.mem_filterMap]at ha hb
    obtain ⟨m,hm,e⟩:=ha
    obtain ⟨m',hm',e'⟩:=hb
    simp only [List.mem_singleton]at hm'
    subst hm'
    have hm:=List.mem_range.1 hm
    cases h1:g m with
    | none=>rw [h1]at e;cases e
    | some x=>
     cases h2:g m' with
     | none=>rw [h2]at e';cases e'
     | some y=>
      rw [h1]at e;rw [h2]at e'
      simp at e e'
      have:=hg _ _ h1
      have:=hg _ _ h2
      omega
 refine this _ _ fun m x h=>?_
 split at h
 ·split at h
  ·cases h;rfl
  ·cases h
 ·cases h
theorem JK (marks:List Pt) (u v w:Pt):(cX marks u v w).length≤marks.length:=by
 unfold cX
 have:=List.length_filterMap_le (fun m=>match marks[m]? with
   | some p=>if inTriangle u v w p=true∧p≠u∧p≠w then some (p,m) else none
   | none=>none) (List.range marks.length)
 rw [List.length_range]at this
 exact this
theorem Q8 {l:List (Pt×Nat)} (hn:jQ l) (y:Pt×Nat) (hy:y∈l):(l.filter fun x=>x.2 != y.2).map (·.2)=(l.map (·.2)).erase y.2:=by
 rw [List.Nodup.erase_eq_filter hn]
 rw [List.filter_map]
 congr 1
theorem Hm {l:List (Pt×Nat)} (hn:jQ l) (y:Pt×Nat):jQ (l.filter fun x=>x.2 != y.2):=by
 unfold jQ at *
 exact hn.sublist (List.filter_sublist.map _)
theorem Uc {l:List (Pt×Nat)} (y:Pt×Nat) (hy:y∈l):(l.filter fun x=>x.2 != y.2).length<l.length:=by
 apply List.length_filter_lt_length_iff_exists.2
 exact ⟨y,hy,by simp⟩
noncomputable def fV (t:Pt) (v:Node) (w:Pt):Node:={ v with k:=match v.mark with
 | none=>0
 | some _=>v.k+bI (ray (sub w v.at_) (sub t v.at_)) }
noncomputable def cY:Pt→List Node→Pt→List Node
 | _,[],_=>[]
 | t,v::r,w=>fV t v (firstOf r w)::cY v.at_ r w
theorem wZ (a b:List Node) (w:Pt):firstOf (a++b) w=firstOf a (firstOf b w):=by
 cases a<;>rfl
theorem w6 (v:Node) (a:List Node) (t:Pt):lastOf (v::a) t=lastOf a v.at_:=by
 unfold lastOf
 cases a with
 | nil=>rfl
 | cons x a=>
  rw [List.getLast?_cons_cons]
  obtain ⟨q,hq⟩:∃q,(x::a).getLast?=some q:=⟨_,List.getLast?_eq_some_getLast (by simp)⟩
  rw [hq];rfl
theorem qm:∀(a b:List Node) (t w:Pt),cY t (a++b) w=cY t a (firstOf b w)++cY (lastOf a t) b w
 | [],b,t,w=>rfl
 | v::a,b,t,w=>by
  simp only [List.cons_append,cY,qm a b v.at_ w,wZ,w6]
noncomputable def oo:Pt:=⟨0,0⟩
noncomputable def fY (l:List Node):List Node:=cY oo l oo
theorem gR:∀(l:List Node) (t w:Pt),(cY t l w).length=l.length
 | [],_,_=>rfl
 | v::r,t,w=>by simp only [cY,List.length_cons,gR r]
theorem iQ (l:List Node):(fY l).length=l.length:=gR _ _ _
noncomputable def qP (n:Node) (a b:Pt):Node:=match n.mark with
 | none=>n
 | some _=>{ n with k:=n.k+rc (sub a n.at_) (sub b n.at_) }
noncomputable def Q9 (marks:List Pt) (u v w:Node):List Node:=
 qP u v.at_ (firstOf (bD marks u.at_ v.at_ w.at_) w.at_)::(cY u.at_ (bD marks u.at_ v.at_ w.at_) w.at_++[qP w (lastOf (bD marks u.at_ v.at_ w.at_) u.at_) v.at_])
theorem sY (t:Pt) (v:Node) (w:Pt):(fV t v w).at_=v.at_:=rfl
theorem lq (t:Pt) (v:Node) (w:Pt):(fV t v w).mark=v.mark:=rfl
theorem PX {v:Node} (h:v.mark=none) (t w t' w':Pt):fV t v w=fV t' v w':=by unfold fV;rw [h]
theorem zT {v:Node} (h:v.mark=none) (a b:Pt):qP v a b=v:=by unfold qP;rw [h]
theorem vz {n:Node} {m:Nat} (h:n.mark=some m) (a b:Pt):qP n a b={ n with k:=n.k+rc (sub a n.at_) (sub b n.at_) }:=by
 cases n
 dsimp only at h
 subst h
 rfl
theorem Ud {a b:Node} (h1:a.at_=b.at_) (h2:a.mark=b.mark) (h3:a.k=b.k):a=b:=by cases a;cases b;simp_all
theorem BR (Z r:List Node) (u v w:Node):fY (Z++u::v::w::r) =
  cY oo Z u.at_++fV (lastOf Z oo) u v.at_::fV u.at_ v w.at_::fV v.at_ w (firstOf r oo)::cY w.at_ r oo:=by
 unfold fY
 rw [qm]
 rfl
theorem Wh {marks:List Pt} {Z r:List Node} {u v w:Node} (T:zQ marks Z u v w r) (h0:Z=[]→u.mark=none) (h1:r=[]→w.mark=none) :
  fY (Z++(ql marks (Z.getLast?.getD u) u v w::(bD marks u.at_ v.at_ w.at_++[lG marks u v w r.head?])++r)) =
   cY oo Z u.at_++(Q9 marks (fV (lastOf Z oo) u v.at_) (fV u.at_ v w.at_) (fV v.at_ w (firstOf r oo))++cY w.at_ r oo):=by
 unfold fY
 have hu:fV (lastOf Z oo) (ql marks (Z.getLast?.getD u) u v w) (firstOf (bD marks u.at_ v.at_ w.at_) w.at_)=qP (fV (lastOf Z oo) u v.at_) v.at_ (firstOf (bD marks u.at_ v.at_ w.at_) w.at_):=by
  cases hm:u.mark with
  | none=>
   rw [zT (by rw [lq];exact hm)]
   have:ql marks (Z.getLast?.getD u) u v w=u:=Hj hm _ _ _
   rw [this]
   exact PX hm _ _ _ _
  | some m=>
   have hs:u.mark.isSome=true:=by rw [hm];rfl
   obtain ⟨Z1,t,rfl,d1,d2,d3,d4⟩:=T.next hs
   have e1:(Z1++[t]).getLast?.getD u=t:=by simp
   have e2:lastOf (Z1++[t]) oo=t.at_:=by simp [lastOf]
   rw [e1,e2]
   have k:=aaz hs d1 d2 d3 d4
   have mk:(qP (fV t.at_ u v.at_) v.at_ (firstOf (bD marks u.at_ v.at_ w.at_) w.at_))={ fV t.at_ u v.at_ with k:=(fV t.at_ u v.at_).k+rc (sub v.at_ u.at_) (sub (firstOf (bD marks u.at_ v.at_ w.at_) w.at_) u.at_) }:=by
    rw [vz (m:=m) (by rw [lq];exact hm)];rfl
   rw [mk]
   apply Ud
   ·rw [sY,oN];rfl
   ·rw [lq,uO];rfl
   ·simp only [fV,uO,hm,oN]
    exact k
 have hw:fV (lastOf (bD marks u.at_ v.at_ w.at_) u.at_) (lG marks u v w r.head?) (firstOf r oo)=qP (fV v.at_ w (firstOf r oo)) (lastOf (bD marks u.at_ v.at_ w.at_) u.at_) v.at_:=by
  cases hm:w.mark with
  | none=>
   rw [zT (by rw [lq];exact hm),Eg hm]
   exact PX hm _ _ _ _
  | some m=>
   have hs:w.mark.isSome=true:=by rw [hm];rfl
   obtain ⟨e,r',rfl,d1,d2,d3,d4⟩:=T.prev hs
   have k:=aaA hs d1 d2 d3 d4
   have mk:(qP (fV v.at_ w e.at_) (lastOf (bD marks u.at_ v.at_ w.at_) u.at_) v.at_)={ fV v.at_ w e.at_ with k:=(fV v.at_ w e.at_).k+rc (sub (lastOf (bD marks u.at_ v.at_ w.at_) u.at_) w.at_) (sub v.at_ w.at_) }:=by
    rw [vz (m:=m) (by rw [lq];exact hm)];rfl
   show fV _ (lG marks u v w (some e)) e.at_=qP (fV v.at_ w e.at_) _ _
   rw [mk]
   apply Ud
   ·rw [sY,jU];rfl
   ·rw [lq,yP];rfl
   ·simp only [fV,yP,hm,jU]
    exact k
 rw [qm]
 simp only [List.cons_append,List.append_assoc,List.singleton_append,cY,List.nil_append]
 have f1:firstOf (bD marks u.at_ v.at_ w.at_++lG marks u v w r.head?::r) oo=firstOf (bD marks u.at_ v.at_ w.at_) w.at_:=by
  rw [wZ]
  show firstOf _ (lG marks u v w r.head?).at_=_
  rw [jU]
 rw [f1,hu]
 have f2:firstOf (ql marks (Z.getLast?.getD u) u v w::(bD marks u.at_ v.at_ w.at_++lG marks u v w r.head?::r)) oo=u.at_:=oN
 rw [f2,oN,qm]
 have f3:firstOf (lG marks u v w r.head?::r) oo=w.at_:=jU
 rw [f3]
 simp only [cY]
 rw [hw,jU]
 simp only [Q9,sY,List.cons_append,List.append_assoc,List.singleton_append,List.nil_append]
noncomputable def BV (c a b:Pt):Bool:=decide (side c a b=0)&&decide (0<dot (sub a c) (sub b c))
noncomputable def jL (c t w:Pt) (laps:Int):Int:=
 let whole:=if ray (sub w c) (sub t c)=true then 2*laps-2 else 2*laps
 if 0<side c t w∨BV c t w=true then whole else whole+1
noncomputable def jR (c t w:Pt):Int:=if side c t w=0 then 1 else 0
noncomputable def GZ (whole:Int):Int:=if 0≤whole then 1 else -1
noncomputable def wJ (whole just:Int):Int:=if 0≤whole then whole else -whole-1+just
theorem Ue {t w:Pt} {v:Node} (hv:v.mark.isSome=true):jL v.at_ t w (fV t v w).k=2*v.k+(if 2≤qn t v w then 1 else 0):=by
 have e:(fV t v w).k=v.k+bI (ray (sub w v.at_) (sub t v.at_)):=by
  unfold fV
  cases hm:v.mark with
  | none=>rw [hm]at hv;cases hv
  | some m=>rfl
 have hs:side v.at_ t w=cross (sub t v.at_) (sub w v.at_):=rfl
 unfold jL BV qn quarter
 rw [e,hs]
 dsimp only
 generalize cross (sub t v.at_) (sub w v.at_)=c
 generalize dot (sub t v.at_) (sub w v.at_)=d
 cases ray (sub w v.at_) (sub t v.at_)<;>simp only [bI,Bool.false_eq_true,if_false,if_true]<;>by_cases h1:c=0<;>by_cases h2:0<c<;>by_cases h3:0<d<;>simp [h1,h2,h3]<;>omega
theorem Qa {t w:Pt} {v:Node}:jR v.at_ t w=(if qn t v w == 0||qn t v w == 2 then 1 else 0):=by
 have hs:side v.at_ t w=cross (sub t v.at_) (sub w v.at_):=rfl
 unfold jR qn quarter
 rw [hs]
 generalize cross (sub t v.at_) (sub w v.at_)=c
 generalize dot (sub t v.at_) (sub w v.at_)=d
 by_cases h1:c=0<;>by_cases h2:0<c<;>by_cases h3:0<d<;>simp [h1,h2,h3]
theorem JL (p d:Pt):quarter p d≤3:=by
 unfold quarter;split<;>split<;>omega
theorem vA {u v w:Node} {m:Nat} (hm:v.mark=some m):∃T,touchOf u v w=some T∧T.mark=m∧
  GZ (jL v.at_ u.at_ w.at_ (fV u.at_ v w.at_).k)=T.side∧wJ (jL v.at_ u.at_ w.at_ (fV u.at_ v w.at_).k) (jR v.at_ u.at_ w.at_)=(T.halves:Int)∧jR v.at_ u.at_ w.at_=(if T.just=true then 1 else 0):=by
 have hv:v.mark.isSome=true:=by rw [hm];rfl
 rw [Ue hv,Qa]
 have hq3:=JL (sub u.at_ v.at_) (sub w.at_ v.at_)
 unfold touchOf
 rw [hm]
 simp only [Option.map_some]
 refine ⟨_,rfl,?_⟩
 show _
 unfold qn
 generalize quarter (sub u.at_ v.at_) (sub w.at_ v.at_)=q at *
 unfold GZ wJ
 by_cases hk:0≤v.k
 ·simp only [if_pos hk]
  have h0:0≤2*v.k+(if 2≤q then 1 else 0):=by split<;>omega
  rw [if_pos h0,if_pos h0]
  refine ⟨by first | trivial | rfl,by first | trivial | rfl,?_,by first | trivial | rfl⟩
  by_cases h2:2≤q<;>simp [h2]<;>omega
 ·simp only [if_neg hk]
  have h0:¬0≤2*v.k+(if 2≤q then 1 else 0):=by split<;>omega
  rw [if_neg h0,if_neg h0]
  refine ⟨by first | trivial | rfl,by first | trivial | rfl,?_,by first | trivial | rfl⟩
  have:q=0∨q=1∨q=2∨q=3:=by omega
  rcases this with rfl | rfl | rfl | rfl<;>simp<;>omega
theorem YX {u v w:Node} (hv:v.mark.isSome=true):(1≤wJ (jL v.at_ u.at_ w.at_ (fV u.at_ v w.at_).k) (jR v.at_ u.at_ w.at_))↔held u v w=true:=by
 rw [uN,Ue hv,Qa]
 have hq3:=JL (sub u.at_ v.at_) (sub w.at_ v.at_)
 unfold jP ir qn wJ
 simp only [hv,true_and,if_true,Bool.false_eq_true,if_false]
 generalize quarter (sub u.at_ v.at_) (sub w.at_ v.at_)=q at *
 have:q=0∨q=1∨q=2∨q=3:=by omega
 rcases this with rfl | rfl | rfl | rfl<;>simp<;>split<;>omega
noncomputable def lH (r:List Int) (z:Int):List Int:=if r.getLast?=some (-z) then r.dropLast else r++[z]
noncomputable def zA (z:Int) (r:List Int):List Int:=match r with
 | y::q=>if y=-z then q else z::r
 | []=>[z]
theorem xf (z:Int) (w:List Int):reduce (z::w)=zA z (reduce w):=rfl
theorem Ei {q:List Int} (y z:Int) (h:q≠[]):lH (y::q) z=y::lH q z:=by
 obtain ⟨x,q',rfl⟩:∃x q',q=x::q':=by
  cases q with
  | nil=>exact absurd rfl h
  | cons x q=>exact ⟨x,q,rfl⟩
 unfold lH
 rw [List.getLast?_cons_cons]
 split
 ·simp [List.dropLast]
 ·rfl
theorem YZ (a z:Int):∀r:List Int,zA a (lH r z)=lH (zA a r) z
 | []=>by
  simp only [lH,zA,List.getLast?_nil,reduceCtorEq,if_false,List.nil_append]
  by_cases h:z=-a
  ·subst h;simp
  ·have:¬a=-z:=by omega
   simp [h,this]
 | [y]=>by
  simp only [lH,zA,List.getLast?_singleton,Option.some.injEq]
  by_cases h1:y=-z<;>by_cases h2:y=-a
  ·have:a=z:=by omega
   subst this
   simp [h1]
  ·simp [h1,zA]
   have:¬z=a:=by omega
   have h3:¬-z=-a:=by omega
   simp [this]
  ·subst h2
   have:¬(-a)=-z:=h1
   simp [zA,this]
  ·simp [h1,h2,zA]
 | y::x::q=>by
  rw [Ei y z (by simp)]
  simp only [zA]
  by_cases h2:y=-a
  ·simp [h2]
  ·simp only [if_neg h2]
   rw [Ei a z (by simp),Ei y z (by simp)]
theorem G3 (z:Int):∀w:List Int,reduce (w++[z])=lH (reduce w) z
 | []=>by simp [reduce,lH]
 | a::w=>by rw [List.cons_append,xf,G3 z w,xf,YZ]
theorem Ug {w:List Int} {i:Nat} {z:Int} (h:w[i]?=some z):reduce (w.take (i+1))=lH (reduce (w.take i)) z:=by
 rw [List.take_add_one,h];exact G3 z _
noncomputable def o6 (marks:List Pt) (m n:Nat):Bool:=match marks[m]?,marks[n]? with
 | some p,some q=>if p.x=q.x then decide (q.y<p.y) else decide (p.x<q.x)
 | _,_=>false
noncomputable def Ej (marks:List Pt) (a b:Pt) (m:Nat):Bool:=match marks[m]? with
 | some p=>if a.x≤p.x∧p.x<b.x then decide (side a b p<0) else if b.x≤p.x∧p.x<a.x then decide (0<side a b p) else false
 | none=>false
noncomputable def Ra (marks:List Pt) (m:Nat) (l:List Nat):List Nat:=(l.takeWhile fun n=>o6 marks n m)++m::l.dropWhile fun n=>o6 marks n m
theorem Rb (marks:List Pt) (a b:Pt):crossings marks a b=if a.x<b.x then (((List.range marks.length).filter (Ej marks a b)).foldr (Ra marks) []).map fun (m:Nat)=>-((m:Int)+1)
  else (((List.range marks.length).filter (Ej marks a b)).foldr (Ra marks) []).reverse.map fun (m:Nat)=>(m:Int)+1:=rfl
structure tQ (marks:List Pt) (R:List Nat):Prop where
 perm:R.Perm (List.range marks.length)
 order:R.Pairwise fun m n=>o6 marks m n=true
section
variable {marks:List Pt}
theorem Y0 {m n:Nat} (h1:o6 marks m n=true) (h2:o6 marks n m=true):False:=by
 unfold o6 at *
 cases hm:marks[m]?<;>cases hn:marks[n]?<;>rw [hm,hn]at h1 h2<;>simp at h1 h2
 rename_i p q
 by_cases e:p.x=q.x
 ·simp [e]at h1 h2;omega
 ·simp [e,Ne.symm e]at h1 h2;omega
theorem Y4 (hm:bK marks) {m n:Nat} (h1:m<marks.length) (h2:n<marks.length) (hne:m≠n) (h:o6 marks m n=false):o6 marks n m=true:=by
 unfold o6 at *
 have e1:=List.getElem?_eq_getElem h1
 have e2:=List.getElem?_eq_getElem h2
 rw [e1,e2]at h ⊢
 generalize hp:marks[m]=p at *
 generalize hq:marks[n]=q at *
 dsimp only at h ⊢
 have pq:p≠q:=by
  rintro rfl
  exact hne (hm.apart _ _ _ e1 e2)
 by_cases e:p.x=q.x
 ·have:p.y≠q.y:=by
   intro e'
   apply pq
   cases p;cases q;simp_all
  simp [e]at h ⊢;omega
 ·simp [e,Ne.symm e]at h ⊢;omega
theorem agX (p q:Pt):(if p.x=q.x then decide (q.y<p.y) else decide (p.x<q.x))=true↔(p.x<q.x∨(p.x=q.x∧q.y<p.y)):=by
 by_cases e:p.x=q.x
 ·rw [if_pos e,decide_eq_true_eq];omega
 ·rw [if_neg e,decide_eq_true_eq];omega
theorem Y5 {m n k:Nat} (h1:o6 marks m n=true) (h2:o6 marks n k=true):o6 marks m k=true:=by
 unfold o6 at *
 cases hm:marks[m]?<;>cases hn:marks[n]?<;>cases hk:marks[k]?<;>rw [hm,hn]at h1<;>rw [hn,hk]at h2<;>first | (cases h1;done) | (cases h2;done) | skip
 rw [agX]at *
 omega
theorem tR {α:Type} {f:α→Bool}:∀{l:List α} {x:α},x∈l.takeWhile f→f x=true∧x∈l
 | [],x,h=>by simp at h
 | y::l,x,h=>by
  rw [List.takeWhile_cons]at h
  split at h
  ·rcases List.mem_cons.1 h with rfl | h
   ·exact ⟨by assumption,by simp⟩
   ·exact ⟨(tR h).1,by simp [(tR h).2]⟩
  ·simp at h
theorem aaH (m:Nat) (l:List Nat):(Ra marks m l).Perm (m::l):=by
 unfold Ra
 refine List.perm_middle.trans ?_
 rw [List.takeWhile_append_dropWhile]
theorem Y6 (hm:bK marks) {m:Nat} {l:List Nat} (h1:m<marks.length) (h2:∀n∈l,n<marks.length) (h3:m∉l) (h4:l.Pairwise fun m n=>o6 marks m n=true):(Ra marks m l).Pairwise fun m n=>o6 marks m n=true:=by
 have e:l.takeWhile (fun n=>o6 marks n m)++l.dropWhile (fun n=>o6 marks n m)=l:=List.takeWhile_append_dropWhile
 have h5:=h4
 rw [←e,List.pairwise_append]at h5
 obtain ⟨a1,a2,a3⟩:=h5
 have tail:∀y∈l.dropWhile (fun n=>o6 marks n m),o6 marks m y=true:=by
  cases hd:l.dropWhile (fun n=>o6 marks n m) with
  | nil=>simp
  | cons d r=>
   have dm:d∈l:=by
    have:d∈l.dropWhile (fun n=>o6 marks n m):=by rw [hd];simp
    exact (List.dropWhile_sublist _).subset this
   have hd1:o6 marks d m=false:=by
    have:=List.head?_dropWhile_not (fun n=>o6 marks n m) l
    rw [hd]at this
    simpa using this
   have hmd:=Y4 hm (h2 d dm) h1 (by rintro rfl;exact h3 dm) hd1
   intro y hy
   rcases List.mem_cons.1 hy with rfl | hy
   ·exact hmd
   ·rw [hd]at a2
    exact Y5 hmd ((List.pairwise_cons.1 a2).1 y hy)
 unfold Ra
 rw [List.pairwise_append]
 refine ⟨a1,List.pairwise_cons.2 ⟨tail,a2⟩,fun x hx y hy=>?_⟩
 rcases List.mem_cons.1 hy with rfl | hy
 ·exact (tR hx).1
 ·exact a3 x hx y hy
theorem Rc (hm:bK marks):∀(l:List Nat),(∀n∈l,n<marks.length)→l.Nodup→(l.foldr (Ra marks) []).Perm l∧(l.foldr (Ra marks) []).Pairwise fun m n=>o6 marks m n=true
 | [],_,_=>by simp
 | x::l,h,hn=>by
  obtain ⟨hx,hl⟩:=List.nodup_cons.1 hn
  obtain ⟨p,o⟩:=Rc hm l (fun n hn=>h n (by simp [hn])) hl
  rw [List.foldr_cons]
  refine ⟨(aaH x _).trans (p.cons x),Y6 hm (h x (by simp)) (fun n hn=>h n (by simp [p.mem_iff.1 hn])) (fun hh=>hx (p.mem_iff.1 hh)) o⟩
theorem qQ (hm:bK marks) {R:List Nat} (hR:tQ marks R) (a b:Pt):crossings marks a b=if a.x<b.x then (R.filter (Ej marks a b)).map fun (m:Nat)=>-((m:Int)+1)
  else (R.reverse.filter (Ej marks a b)).map fun (m:Nat)=>(m:Int)+1:=by
 rw [Rb]
 have hl:∀n∈(List.range marks.length).filter (Ej marks a b),n<marks.length:=fun n hn=>List.mem_range.1 (List.mem_filter.1 hn).1
 obtain ⟨p,o⟩:=Rc hm _ hl (List.nodup_range.filter _)
 have e:((List.range marks.length).filter (Ej marks a b)).foldr (Ra marks) []=R.filter (Ej marks a b):=
  List.Perm.eq_of_pairwise (le:=fun m n=>o6 marks m n=true) (fun a b _ _ h1 h2=>(Y0 h1 h2).elim) o (hR.order.filter _) (p.trans (hR.perm.symm.filter _))
 rw [e,List.filter_reverse]
noncomputable def lu (a b p:Pt):Bool:=decide (a.x≤p.x∧p.x<b.x)&&decide (side a b p<0)
theorem Qc (a b p:Pt):side b a p=- side a b p:=by simp only [side,cross,sub];grind
theorem JM {a b:Pt} (h:a.x<b.x) {m:Nat} {p:Pt} (hp:marks[m]?=some p):Ej marks a b m=lu a b p:=by
 unfold Ej lu
 rw [hp]
 dsimp only
 by_cases h1:a.x≤p.x∧p.x<b.x
 ·rw [if_pos h1,decide_eq_true h1];rfl
 ·rw [if_neg h1,decide_eq_false h1,if_neg (by omega)];rfl
theorem JN {a b:Pt} (h:¬a.x<b.x) {m:Nat} {p:Pt} (hp:marks[m]?=some p):Ej marks a b m=lu b a p:=by
 unfold Ej lu
 rw [hp,Qc a b p]
 dsimp only
 rw [if_neg (by omega)]
 by_cases h1:b.x≤p.x∧p.x<a.x
 ·rw [if_pos h1,decide_eq_true h1,Bool.true_and]
  apply decide_eq_decide.2
  omega
 ·rw [if_neg h1,decide_eq_false h1];rfl
end
noncomputable def tU (a b p:Pt):Int:=if lu a b p=true then -1 else if lu b a p=true then 1 else 0
theorem aaI (a b p:Pt):lu a b p=true↔((sub a p).x≤0∧0<(sub b p).x∧cross (sub a p) (sub b p)<0):=by
 have e1:side a b p=cross (sub a p) (sub b p):=by simp only [side,cross,sub];grind
 have x1:(sub a p).x=a.x-p.x:=rfl
 have x2:(sub b p).x=b.x-p.x:=rfl
 unfold lu
 rw [Bool.and_eq_true,decide_eq_true_eq,decide_eq_true_eq,e1]
 omega
theorem Y7 (a b p:Pt):tU a b p=rc (sub a p) (sub b p):=by
 unfold tU rc
 simp only [aaI]
noncomputable def lJ (w:List Int) (z:Int):Int:=((w.filter fun y=>y == z).length:Int)
theorem zB (a b:List Int) (z:Int):lJ (a++b) z=lJ a z+lJ b z:=by unfold lJ;rw [List.filter_append,List.length_append];omega
theorem count_map (l:List Nat) (f:Nat→Int) (hf:∀a b,f a=f b→a=b) (m:Nat) (hn:l.Nodup):lJ (l.map f) (f m)=if m∈l then 1 else 0:=by
 induction l with
 | nil=>rfl
 | cons x l ih=>
  obtain ⟨h1,h2⟩:=List.nodup_cons.1 hn
  have ih:=ih h2
  unfold lJ at ih ⊢
  rw [List.map_cons,List.filter_cons]
  by_cases e:x=m
  ·subst e
   have:¬x∈l:=h1
   rw [if_neg this]at ih
   simp only [beq_self_eq_true,if_true,List.length_cons,List.mem_cons,true_or]
   try omega
  ·have:¬f x=f m:=fun h=>e (hf _ _ h)
   rw [if_neg (by simpa using this)]
   simp only [List.mem_cons,Ne.symm e,false_or]
   exact ih
theorem Uh (l:List Nat) (f:Nat→Int) (z:Int) (h:∀a∈l,f a≠z):lJ (l.map f) z=0:=by
 unfold lJ
 have:(l.map f).filter (fun y=>y == z)=[]:=by
  rw [List.filter_eq_nil_iff]
  intro y hy
  obtain ⟨a,ha,rfl⟩:=List.mem_map.1 hy
  simpa using h a ha
 rw [this];rfl
theorem JP {marks:List Pt} (hm:bK marks):∃R,tQ marks R:=by
 obtain ⟨p,o⟩:=Rc hm (List.range marks.length) (fun n hn=>List.mem_range.1 hn) List.nodup_range
 exact ⟨_,p,o⟩
theorem Hn {marks:List Pt} (hm:bK marks) {m:Nat} {p:Pt} (hp:marks[m]?=some p) (a b:Pt) :
  lJ (crossings marks a b) ((m:Int)+1)-lJ (crossings marks a b) (-((m:Int)+1))=tU a b p:=by
 obtain ⟨R,hR⟩:=JP hm
 rw [qQ hm hR]
 have hlt:m<marks.length:=(List.getElem?_eq_some_iff.1 hp).1
 have hmem:m∈R:=hR.perm.mem_iff.2 (List.mem_range.2 hlt)
 have nd:R.Nodup:=hR.perm.nodup_iff.2 List.nodup_range
 unfold tU
 by_cases h:a.x<b.x
 ·rw [if_pos h,count_map _ (fun m:Nat=>-((m:Int)+1)) (fun a b h=>by omega) m (nd.filter _),Uh _ _ _ (fun a _=>by omega)]
  have e2:lu b a p=false:=by unfold lu;rw [decide_eq_false (by omega)];rfl
  rw [e2]
  by_cases hh:lu a b p=true
  ·rw [if_pos (List.mem_filter.2 ⟨hmem,by rw [JM h hp];exact hh⟩),if_pos hh];rfl
  ·rw [if_neg (fun hm=>hh (by rw [←JM h hp];exact (List.mem_filter.1 hm).2)),if_neg hh];rfl
 ·rw [if_neg h,count_map _ (fun m:Nat=>(m:Int)+1) (fun a b h=>by omega) m (((List.reverse_perm R).nodup_iff.2 nd).filter _),Uh _ _ _ (fun a _=>by omega)]
  have e2:lu a b p=false:=by unfold lu;rw [decide_eq_false (by omega)];rfl
  rw [e2]
  by_cases hh:lu b a p=true
  ·rw [if_pos (List.mem_filter.2 ⟨List.mem_reverse.2 hmem,by rw [JN h hp];exact hh⟩),if_pos hh];rfl
  ·rw [if_neg (fun hm=>hh (by rw [←JN h hp];exact (List.mem_filter.1 hm).2)),if_neg hh];rfl
theorem Wi {marks:List Pt} (hm:bK marks) {m:Nat} {p:Pt} (hp:marks[m]?=some p):∀track:List Pt,
  lJ (wordOf marks track) ((m:Int)+1)-lJ (wordOf marks track) (-((m:Int)+1))=((segments track).map fun s=>tU s.1 s.2 p).sum:=by
 intro track
 unfold wordOf
 induction segments track with
 | nil=>rfl
 | cons s l ih=>
  rw [List.flatMap_cons,zB,zB,List.map_cons,List.sum_cons,←Hn hm hp]
  omega
noncomputable def wX:List Node→List (Pt×Touch)
 | u::v::w::r=>(match touchOf u v w with
  | some t=>[(v.at_,t)]
  | none=>[])++wX (v::w::r)
 | _=>[]
theorem xg:∀l:List Node,touches l=(wX l).map (·.2)
 | []=>rfl
 | [_]=>rfl
 | [_,_]=>rfl
 | u::v::w::r=>by
  rw [touches,wX,xg (v::w::r),List.map_append]
  cases touchOf u v w<;>rfl
theorem Ui:∀l:List Node,nodesTold.go l=(wX l).flatMap fun x=>[x.1.x,x.1.y,(x.2.mark:Int),x.2.side,(x.2.halves:Int),if x.2.just=true then 1 else 0]
 | []=>by simp [nodesTold.go,wX]
 | [_]=>by simp [nodesTold.go,wX]
 | [_,_]=>by simp [nodesTold.go,wX]
 | u::v::w::r=>by
  rw [nodesTold.go,wX,Ui (v::w::r),List.flatMap_append]
  cases touchOf u v w<;>simp
theorem zE (l:List Node):nodesTold l=((wX l).length:Int)::(wX l).flatMap fun x=>[x.1.x,x.1.y,(x.2.mark:Int),x.2.side,(x.2.halves:Int),if x.2.just=true then 1 else 0]:=by
 unfold nodesTold
 rw [Ui,xg,List.length_map]
theorem aaJ:∀(l:List Node) (i:Nat) (u v w:Node),qj jP l→l[i]?=some u→l[i+1]?=some v→l[i+2]?=some w→∃T,touchOf u v w=some T∧(wX l)[i]?=some (v.at_,T)
 | [],i,u,v,w,_,h,_,_=>by simp at h
 | [_],i,u,v,w,_,_,h,_=>by simp at h
 | [_,_],i,u,v,w,_,_,_,h=>by simp at h
 | a::b::c::r,i,u,v,w,H,h1,h2,h3=>by
  obtain ⟨m,hm⟩:∃m,b.mark=some m:=Option.isSome_iff_exists.1 H.1.1
  obtain ⟨T0,hT,_⟩:=vA (u:=a) (w:=c) hm
  cases i with
  | zero=>
   simp at h1 h2 h3
   subst h1;subst h2;subst h3
   exact ⟨T0,hT,by rw [wX,hT];rfl⟩
  | succ i=>
   obtain ⟨T,e1,e2⟩:=aaJ (b::c::r) i u v w H.2 (by simpa using h1) (by simpa using h2) (by simpa using h3)
   refine ⟨T,e1,?_⟩
   rw [wX,hT]
   simpa using e2
theorem zU:∀(l:List Node),qj jP l→(wX l).length=l.length-2
 | [],_=>rfl
 | [_],_=>rfl
 | [_,_],_=>rfl
 | a::b::c::r,H=>by
  obtain ⟨m,hm⟩:∃m,b.mark=some m:=Option.isSome_iff_exists.1 H.1.1
  obtain ⟨T0,hT,_⟩:=vA (u:=a) (w:=c) hm
  rw [wX,hT,List.length_append,zU (b::c::r) H.2]
  simp only [List.length_cons,List.length_nil]
  omega
theorem BW {marks:List Pt} {l:List Node} {n:Nat} (I:Inv marks l n) (h:l.length≤n+1):qj jP l:=by
 rcases I.form with ⟨Z0,u0,v0,M,b,B,L,e0,n0,h1,h2,h3,h4,h5,h6,h7,h8⟩ | ⟨Z0,u0,b,B,e0,n0,h1,h4,h5,h6⟩
 ·rw [e0]at h
  simp only [List.length_append,List.length_cons]at h
  omega
 ·rw [e0]at h
  simp only [List.length_append,List.length_cons]at h
  have:B=[]:=by cases B with
   | nil=>rfl
   | cons x B=>simp only [List.length_cons]at h;omega
  subst this
  rw [e0];exact h6
structure uP (marks:List Pt) (l:List Node):Prop where
 ok:∀x∈l,NodeOk marks x
 held:qj jP l
 two:2≤l.length
theorem XX:∀(l:List Node) (x:Pt×Touch),x∈wX l→∃n∈l,n.at_=x.1∧n.mark=some x.2.mark
 | [],x,h=>by simp [wX]at h
 | [_],x,h=>by simp [wX]at h
 | [_,_],x,h=>by simp [wX]at h
 | a::b::c::r,x,h=>by
  rw [wX,List.mem_append]at h
  rcases h with h | h
  ·cases hm:b.mark with
   | none=>
    have:touchOf a b c=none:=by unfold touchOf;rw [hm];rfl
    rw [this]at h;simp at h
   | some m=>
    obtain ⟨T0,hT,hk,_⟩:=vA (u:=a) (w:=c) hm
    rw [hT]at h
    simp only [List.mem_singleton]at h
    subst h
    exact ⟨b,by simp,rfl,by rw [hm,hk]⟩
  ·obtain ⟨n,h1,h2⟩:=XX (b::c::r) x h
   exact ⟨n,List.mem_cons_of_mem _ h1,h2⟩
theorem Qd {α:Type} (f:α→Int):∀(l:List α) (z:Int),l.foldl (fun z s=>z+f s) z=z+(l.map f).sum
 | [],z=>by simp
 | x::l,z=>by
  rw [List.foldl_cons,Qd f l,List.map_cons,List.sum_cons];omega
theorem Uj (rates l:List Pt):Vbreab.measure rates l=((segments l).map fun s=>rate rates (sub s.2 s.1)).sum:=by
 unfold Vbreab.measure
 rw [Qd];omega
theorem foldl_max (f:Pt→Int):∀(l:List Pt) (z:Int),(∃x,(x=z∨∃q∈l,f q=x)∧l.foldl (fun z q=>max z (f q)) z=x)∧z≤l.foldl (fun z q=>max z (f q)) z∧∀q∈l,f q≤l.foldl (fun z q=>max z (f q)) z
 | [],z=>⟨⟨z,.inl rfl,rfl⟩,Int.le_refl _,by simp⟩
 | x::l,z=>by
  obtain ⟨⟨y,h1,h2⟩,h3,h4⟩:=foldl_max f l (max z (f x))
  rw [List.foldl_cons]
  refine ⟨⟨y,?_,h2⟩,by omega,fun q hq=>?_⟩
  ·rcases h1 with h1 | ⟨q,hq,e⟩
   ·by_cases hz:f x≤z
    ·left;omega
    ·right;exact ⟨x,by simp,by omega⟩
   ·right;exact ⟨q,by simp [hq],e⟩
  ·rcases List.mem_cons.1 hq with rfl | hq
   ·omega
   ·exact h4 q hq
theorem aaK {rates:List Pt} (h0:rates≠[]) (d:Pt) {M:Int} (h1:M∈rates.map fun q=>dot q d) (h2:∀a∈rates.map (fun q=>dot q d),a≤M):rate rates d=M:=by
 cases rates with
 | nil=>exact absurd rfl h0
 | cons r l=>
  unfold rate
  obtain ⟨⟨x,hx,e⟩,h3,h4⟩:=foldl_max (fun q=>dot q d) l (dot r d)
  have hle:l.foldl (fun z q=>max z (dot q d)) (dot r d)≤M:=by
   rw [e]
   rcases hx with rfl | ⟨q,hq,rfl⟩
   ·exact h2 _ (by simp)
   ·exact h2 _ (List.mem_map.2 ⟨q,by simp [hq],rfl⟩)
  obtain ⟨q,hq,rfl⟩:=List.mem_map.1 h1
  have hge:dot q d≤l.foldl (fun z q=>max z (dot q d)) (dot r d):=by
   rcases List.mem_cons.1 hq with rfl | hq
   ·exact h3
   ·exact h4 q hq
  show l.foldl (fun z q=>max z (dot q d)) (dot r d)=dot q d
  omega
end az
namespace L2
open PySem PySem.Spec PyProof.Rows
noncomputable abbrev Key:=Sum Int Str
noncomputable def ado:Key→Value→Bool
 | .inl k,v=>Value.isInt k v
 | .inr x,v=>Value.isStrOf x v
noncomputable def agY (w:World):Key→Int
 | .inl k=>hashInt k
 | .inr x=>hashStr w x
theorem gb:∀{k:Key} {v:Value},ado k v=true→(∃i t,k=Sum.inl i∧v=Value.int i t)∨(∃x t,k=Sum.inr x∧v=Value.str x t)
 | .inl i,v,h=>by
  obtain ⟨t,e⟩:=Value.isInt_shape (k:=i) (v:=v) h
  exact .inl ⟨i,t,rfl,e⟩
 | .inr x,v,h=>by
  obtain ⟨t,e⟩:=Value.isStrOf_shape (x:=x) (v:=v) h
  exact .inr ⟨x,t,rfl,e⟩
theorem adV (a b:Int):decide ((Sum.inl a:Key)=Sum.inl b)=(a == b):=by
 by_cases e:a=b
 ·subst e;simp
 ·have h:¬(Sum.inl a:Key)=Sum.inl b:=fun q=>e (Sum.inl.inj q)
  rw [decide_eq_false h]
  exact (beq_eq_false_iff_ne.mpr e).symm
theorem adW (a b:Str):decide ((Sum.inr a:Key)=Sum.inr b)=decide (a=b):=by
 by_cases e:a=b
 ·subst e;simp
 ·have h:¬(Sum.inr a:Key)=Sum.inr b:=fun q=>e (Sum.inr.inj q)
  rw [decide_eq_false h,decide_eq_false e]
theorem adX (a:Int) (b:Str):decide ((Sum.inl a:Key)=Sum.inr b)=false:=decide_eq_false (fun q=>nomatch q)
theorem adY (a:Str) (b:Int):decide ((Sum.inr a:Key)=Sum.inl b)=false:=decide_eq_false (fun q=>nomatch q)
noncomputable def X3 (prog:Program) (w:World):PySem.KeyKind prog w Key where
 is:=ado
 hash:=agY w
 inj:=fun v a b ha hb=>by
  rcases gb ha with ⟨i,t,rfl,rfl⟩ | ⟨x,t,rfl,rfl⟩
  ·rcases gb hb with ⟨j,u,rfl,e⟩ | ⟨y,u,rfl,e⟩
   ·injection e with e1 _;rw [e1]
   ·exact nomatch e
  ·rcases gb hb with ⟨j,u,rfl,e⟩ | ⟨y,u,rfl,e⟩
   ·exact nomatch e
   ·injection e with e1 _;rw [e1]
 byValue:=fun k v h=>by
  rcases gb h with ⟨i,t,rfl,rfl⟩ | ⟨x,t,rfl,rfl⟩<;>rfl
 pyHash:=fun hv h=>by
  rcases gb hv with ⟨i,t,rfl,rfl⟩ | ⟨x,t,rfl,rfl⟩
  ·exact wpAny_pyHash_int h
  ·exact wpAny_pyHash_str h
 eqBool:=fun hu hv h=>by
  rcases gb hu with ⟨i,t,rfl,rfl⟩ | ⟨x,t,rfl,rfl⟩
  ·rcases gb hv with ⟨j,u,rfl,rfl⟩ | ⟨y,u,rfl,rfl⟩
   ·rw [adV]at h;exact wpAny_eqBool_int h
   ·rw [adX]at h;exact SeqAt.EqAt.int_str i t y u _ _ _ _ h
  ·rcases gb hv with ⟨j,u,rfl,rfl⟩ | ⟨y,u,rfl,rfl⟩
   ·rw [adY]at h;exact SeqAt.EqAt.str_int x t j u _ _ _ _ h
   ·rw [adW]at h;exact wpAny_eqBool_str h
 «strs»:=fun k x t v h=>by
  rcases gb h with ⟨i,u,rfl,e⟩ | ⟨y,u,rfl,e⟩
  ·exact nomatch e
  ·injection e with e1 _
   subst e1
   cases v<;>rfl
end L2
namespace L2
open PySem PySem.Spec PyProof.Rows
inductive V where
 | non | bl (b:Bool) | int (i:Int) | str (x:Str) | V0 (b:Array UInt8) | flt (b:UInt64) | ref (a:Addr) | ty (n:String)
 deriving DecidableEq
noncomputable def RelV:V→Value→Prop
 | .non,u=>u=Value.none
 | .bl b,u=>u=Value.bool b
 | .int i,u=>∃t,u=Value.int i t
 | .str x,u=>∃t,u=Value.str x t
 | .V0 b,u=>∃t,u=Value.bytes b t
 | .flt b,u=>∃t,u=Value.float b t
 | .ref a,u=>u=Value.ref a
 | .ty n,u=>u=Value.type n
noncomputable abbrev Vals:List V→List Value→Prop:=Paired RelV
theorem Vals.length {xs:List V} {us:List Value} (r:Vals xs us):xs.length=us.length:=Paired.length r
theorem Vals.get:∀{xs:List V} {us:List Value} {i:Nat} {x:V},Vals xs us→xs[i]?=some x→∃u,us[i]?=some u∧RelV x u
 | _,_,_,_,.nil,e=>by simp at e
 | _,_,0,_,.cons r _,e=>by simp at e;subst e;exact ⟨_,rfl,r⟩
 | _,_,i+1,x,.cons _ t,e=>by
  obtain ⟨u,h1,h2⟩:=Vals.get (i:=i) (x:=x) t (by simpa using e)
  exact ⟨u,by simpa using h1,h2⟩
theorem Vals.set {x:V} {u:Value} (r:RelV x u):∀{xs:List V} {us:List Value} (i:Nat),Vals xs us→Vals (xs.set i x) (us.set i u)
 | _,_,_,.nil=>.nil
 | _,_,0,.cons _ t=>.cons r t
 | _,_,i+1,.cons q t=>.cons q (Vals.set r i t)
theorem Vals.append:∀{xs ys:List V} {us ws:List Value},Vals xs us→Vals ys ws→Vals (xs++ys) (us++ws)
 | _,_,_,_,.nil,s=>s
 | _,_,_,_,.cons r t,s=>.cons r (Vals.append t s)
theorem Vals.take:∀{xs:List V} {us:List Value} (n:Nat),Vals xs us→Vals (xs.take n) (us.take n)
 | _,_,0,_=>.nil
 | _,_,_+1,.nil=>.nil
 | _,_,n+1,.cons r t=>.cons r (Vals.take n t)
theorem Vals.drop:∀{xs:List V} {us:List Value} (n:Nat),Vals xs us→Vals (xs.drop n) (us.drop n)
 | _,_,0,r=>r
 | _,_,_+1,.nil=>.nil
 | _,_,n+1,.cons _ t=>Vals.drop n t
noncomputable def Nm:Option V→Option Value→Prop
 | some v,some u=>RelV v u
 | none,none=>True
 | _,_=>False
noncomputable def KV {κ:Type}:List (κ×V)→List (κ×Value)→Prop:=Paired fun (p:κ×V) (q:κ×Value)=>p.1=q.1∧RelV p.2 q.2
noncomputable def kV:Key→V
 | .inl i=>.int i
 | .inr x=>.str x
inductive HO where
 | lst (xs:List V)
 | tup (xs:List V)
 | dK (kvs:List (Key×V)) | dT (kvs:List (List Key×V))
 | set (S:Int→Bool) (n:Nat)
 | ins (C dx:Addr) (fs:List (Str×V))
 | own (x:Addr)
 | xd (fs:List (Str×V))
 | met (f x:Addr)
 | rng (lo hi:Int)
 | G4 (o:Obj) (u:HO)
 | Ja (ps:Array Value)
 | ext (φ:Heap→Prop)
noncomputable abbrev Hp:=Addr→Option HO
noncomputable def upd (H:Hp) (a:Addr) (o:HO):Hp:=fun b=>if b=a then some o else H b
theorem aA {H:Hp} {a:Addr} {o:HO}:upd H a o a=some o:=by unfold upd;rw [if_pos rfl]
theorem aJ {H:Hp} {a b:Addr} {o:HO} (h:b≠a):upd H a o b=H b:=by unfold upd;rw [if_neg h]
theorem sZ {H:Hp} {a:Addr} {o u:HO}:upd (upd H a o) a u=upd H a u:=by
 funext b;unfold upd;split<;>rfl
theorem ji {H:Hp} {a b:Addr} {o u:HO} (h:H a=some o) (h':H b=some u) (d:o≠u):a≠b:=by
 intro e;subst e;rw [h]at h';exact d (Option.some.inj h')
theorem bw {H:Hp} {a b:Addr} {o:HO} (h:H a=some o) (h':H b=none):a≠b:=by
 intro e;subst e;rw [h]at h';cases h'
section
variable (P:Program) (w:World)
noncomputable def mV (H:Hp) (h:Heap) (a:Addr):HO→Prop
 | .lst xs=>xs.length≤sizeLine∧∃(its:List Value) (n:Nat),Vals xs its∧h.get? a=some { cls:=.type "list",data:=.seq its.toArray n }
 | .tup xs=>xs.length≤sizeLine∧∃its:List Value,Vals xs its∧IsTup h a its.toArray
 | .dK kvs=>kvs.length≤sizeLine∧(a == sysModules)=false∧∃vs,KV kvs vs∧h.DictOf (X3 P w) a vs
 | .dT kvs=>kvs.length≤sizeLine∧(a == sysModules)=false∧∃xs:List (List Key×Addr×Value),
   Paired (fun (p:List Key×V) (q:List Key×Addr×Value)=>p.1=q.1∧H q.2.1=some (.tup (p.1.map kV))∧RelV p.2 q.2.2) kvs xs∧
   ∃o es ep,h.get? a=some o∧o.ExactDict∧o.data=.dict es ep∧es.toList=xs.map (entryOfKey (tupleKind (X3 P w)))∧(xs.map (·.1)).Nodup
 | .set S n=>h.SetOf (intKind P w) a S n
 | .ins C dx fs=>H dx=some (.own a)∧fs.length≤1000∧dx≠a∧h.get? a=some (PySem.W.instObj C dx)∧
   ∃mA,h.Ns1 dx mA∧(∀f,Nm (fs.lookup f) (mA f))∧PySem.Within mA (fs.map (·.1))
 | .own _=>∃o,h.get? a=some o
 | .xd fs=>∃mA,h.Ns1 a mA∧∀f,Nm (fs.lookup f) (mA f)
 | .rng lo hi=>∃t u v,h.get? a=some { cls:=.type "range",data:=.fields #[.int lo t,.int hi u,.int 1 v] }
 | .G4 o u=>h.get? a=some o∧mV H h a u
 | .Ja ps=>h.get? a=some { cls:=.none,data:=.fields ps }
 | .met f x=>h.get? a=some (PySem.W.methodObj (.ref f) (.ref x))
 | .ext φ=>φ h∧(∃o,h.get? a=some o)∧∀h1 h2:Heap,φ h1→(∀o,h1.get? a=some o→h2.get? a=some o)→φ h2
noncomputable def zg (H:Hp) (h:Heap):Prop:=∀a o,H a=some o→mV P w H h a o
end
section
variable {P:Program} {w:World} {H H':Hp} {h h':Heap} {a:Addr} {o:HO}
theorem mV.lt (x:mV P w H h a o):a<h.objs.size:=by
 cases o with
 | lst xs=>obtain ⟨_,_,_,_,e⟩:=x;exact Heap.lt_size e
 | tup xs=>obtain ⟨_,_,_,p⟩:=x;exact p.lt
 | dK kvs=>obtain ⟨_,_,_,_,o,_,_,e,_⟩:=x;exact Heap.lt_size e
 | dT kvs=>obtain ⟨_,_,_,_,o,_,_,e,_⟩:=x;exact Heap.lt_size e
 | set S n=>obtain ⟨o,_,_,_,e,_⟩:=x;exact Heap.lt_size e
 | ins C dx fs=>obtain ⟨_,_,_,e,_⟩:=x;exact Heap.lt_size e
 | own y=>obtain ⟨_,e⟩:=x;exact Heap.lt_size e
 | xd fs=>obtain ⟨_,⟨_,_,_,e,_⟩,_⟩:=x;exact Heap.lt_size e
 | rng lo hi=>obtain ⟨_,_,_,e⟩:=x;exact Heap.lt_size e
 | G4 ob u=>obtain ⟨e,_⟩:=x;exact Heap.lt_size e
 | Ja ps=>exact Heap.lt_size (show h.get? a=some _ from x)
 | met f y=>exact Heap.lt_size (show h.get? a=some _ from x)
 | ext φ=>obtain ⟨_,⟨_,e⟩,_⟩:=x;exact Heap.lt_size e
theorem Paired.Y8 {α β:Type} {F G:α→β→Prop}:∀{l₁:List α} {l₂:List β},Paired F l₁ l₂→(∀a b,F a b→G a b)→Paired G l₁ l₂
 | _,_,.nil,_=>.nil
 | _,_,.cons r t,f=>.cons (f _ _ r) (Paired.Y8 t f)
theorem mV.stay (x:mV P w H h a o) (k:∀b u,(b=a∨H b=some (.own a))→h.get? b=some u→h'.get? b=some u)
  (ho:∀b,H b=some (.own a)→H' b=some (.own a)) (ht:∀b xs,H b=some (.tup xs)→H' b=some (.tup xs)):mV P w H' h' a o:=by
 induction o with
 | lst xs=>obtain ⟨z,its,n,r,e⟩:=x;exact ⟨z,its,n,r,k _ _ (.inl rfl) e⟩
 | tup xs=>obtain ⟨z,its,r,ob,e,c⟩:=x;exact ⟨z,its,r,ob,k _ _ (.inl rfl) e,c⟩
 | dK kvs=>obtain ⟨z,y,vs,r,ob,es,ep,e,c⟩:=x;exact ⟨z,y,vs,r,ob,es,ep,k _ _ (.inl rfl) e,c⟩
 | dT kvs=>
  obtain ⟨z,y,xs,r,ob,es,ep,e,c⟩:=x
  exact ⟨z,y,xs,Paired.Y8 r fun p q z=>⟨z.1,ht _ _ z.2.1,z.2.2⟩,ob,es,ep,k _ _ (.inl rfl) e,c⟩
 | set S n=>obtain ⟨ob,es,ep,t,e,c⟩:=x;exact ⟨ob,es,ep,t,k _ _ (.inl rfl) e,c⟩
 | ins C dx fs=>
  obtain ⟨d,z,ne,e,mA,⟨od,es,ep,e2,c⟩,r⟩:=x
  exact ⟨ho _ d,z,ne,k _ _ (.inl rfl) e,mA,⟨od,es,ep,k _ _ (.inr d) e2,c⟩,r⟩
 | own y=>obtain ⟨ob,e⟩:=x;exact ⟨ob,k _ _ (.inl rfl) e⟩
 | xd fs=>obtain ⟨mA,⟨od,es,ep,e,c⟩,r⟩:=x;exact ⟨mA,⟨od,es,ep,k _ _ (.inl rfl) e,c⟩,r⟩
 | rng lo hi=>obtain ⟨t,u,v,e⟩:=x;exact ⟨t,u,v,k _ _ (.inl rfl) e⟩
 | G4 ob u ih=>obtain ⟨e,q⟩:=x;exact ⟨k _ _ (.inl rfl) e,ih q⟩
 | Ja ps=>
  have e:h.get? a=some { cls:=.none,data:=.fields ps }:=x
  show h'.get? a=some { cls:=.none,data:=.fields ps }
  exact k a _ (.inl rfl) e
 | met f y=>
  have e:h.get? a=some (PySem.W.methodObj (.ref f) (.ref y)):=x
  show h'.get? a=some (PySem.W.methodObj (.ref f) (.ref y))
  exact k a _ (.inl rfl) e
 | ext φ=>obtain ⟨p,⟨o,e⟩,st⟩:=x;exact ⟨st _ _ p fun o q=>k _ _ (.inl rfl) q,⟨o,k _ _ (.inl rfl) e⟩,st⟩
theorem zg.lt (x:zg P w H h) (e:H a=some o):a<h.objs.size:=(x a o e).lt
theorem zg.fresh (x:zg P w H h) (e:h.objs.size≤a):H a=none:=by
 cases q:H a with
 | none=>rfl
 | some u=>exact absurd (Nat.lt_of_lt_of_le (x.lt q) e) (Nat.lt_irrefl _)
theorem zg.kept (x:zg P w H h) (k:∀b u,h.get? b=some u→h'.get? b=some u):zg P w H h':=fun a o e=>
 (x a o e).stay (fun b u _ q=>k b u q) (fun _ q=>q) fun _ _ q=>q
theorem zg.laid (x:zg P w H h) (k:∀b u,h.get? b=some u→h'.get? b=some u) (hp:h.objs.size≤a) (new:mV P w (upd H a o) h' a o):zg P w (upd H a o) h':=fun b u e=>by
 have hn:=x.fresh hp
 by_cases hb:b=a
 ·subst hb;rw [aA]at e;cases e;exact new
 ·rw [aJ hb]at e
  exact (x b u e).stay (fun c v _ q=>k c v q) (fun c q=>by rw [aJ (bw q hn)];exact q) fun c xs q=>by rw [aJ (bw q hn)];exact q
end
noncomputable def Rd (H:Hp) (a:Addr) (u:HO):Prop:=H a=some u∨∃o,H a=some (.G4 o u)
theorem Rd.ok {P:Program} {w:World} {H:Hp} {h:Heap} {a:Addr} {u:HO} (r:Rd H a u) (x:zg P w H h):mV P w H h a u:=by
 rcases r with r | ⟨o,r⟩
 ·exact x a u r
 ·obtain ⟨_,q⟩:=x a _ r
  exact q
noncomputable def Mut:Option HO→Prop
 | some (.lst _)=>True
 | some (.dK _)=>True
 | some (.dT _)=>True
 | some (.set _ _)=>True
 | some (.ins _ _ _)=>True
 | some (.ext _)=>True
 | _=>False
section
variable {P:Program} {w:World} {H:Hp} {h h':Heap} {x e:Addr} {o':HO}
theorem zg.write (ok:zg P w H h) (mu:Mut (H x)) (he:e=x∨H e=some (.own x)) (k:∀b u,b≠e→h.get? b=some u→h'.get? b=some u) (heo:∃u,h'.get? e=some u)
  (new:mV P w (upd H x o') h' x o'):zg P w (upd H x o') h':=fun b u q=>by
 have afy:∀c y,H c=some (.own y)→c≠x:=fun c y r z=>by subst z;rw [r]at mu;exact mu
 have agZ:∀c xs,H c=some (.tup xs)→c≠x:=fun c xs r z=>by subst z;rw [r]at mu;exact mu
 by_cases hb:b=x
 ·subst hb;rw [aA]at q;cases q;exact new
 ·rw [aJ hb]at q
  by_cases hbe:b=e
  ·have q':H b=some (.own x):=by
    rcases he with z | z
    ·exact absurd (hbe.trans z) hb
    ·rw [hbe];exact z
   rw [q]at q';cases q'
   obtain ⟨v,hv⟩:=heo
   exact ⟨v,by rw [hbe];exact hv⟩
  ·refine (ok b u q).stay (fun c v hc r=>k c v ?_ r) (fun c r=>by rw [aJ (afy c b r)];exact r) fun c xs r=>by rw [aJ (agZ c xs r)];exact r
   rcases hc with rfl | hc
   ·exact hbe
   ·rintro rfl
    rcases he with z | z
    ·exact afy c b hc z
    ·rw [hc]at z;cases z;exact hb rfl
end
structure Un (fs ex:List Addr) (H H':Hp) (h h':Heap):Prop where
 keep:∀b o,h.get? b=some o→H b=none→b∉fs→b∉ex→h'.get? b=some o
 slot:∀b o,h.get? b=some o→H b=none→b∈fs→b∉ex→∃sl,h'.get? b=some { o with slots:=sl }
 free:∀b o,h.get? b=some o→H b=none→b∉ex→H' b=none
 there:∀b o,h.get? b=some o→b∉ex→∃o',h'.get? b=some o'
 tups:∀b xs,H b=some (.tup xs)→H' b=some (.tup xs)
 Rf:∀b o u,H b=some (.G4 o u)→H' b=some (.G4 o u)
 Rg:∀b ps,H b=some (.Ja ps)→∃more,H' b=some (.Ja (ps++more))
section
variable {fs fs' ex ex':List Addr} {H H1 H2:Hp} {h h1 h2 h':Heap} {a x e:Addr} {o:HO}
theorem Un.any (u:Un fs ex H H1 h h1) {b:Addr} {ob:Obj} (q:h.get? b=some ob) (n:H b=none) (hx:b∉ex):∃sl,h1.get? b=some { ob with slots:=sl }:=by
 by_cases hb:b∈fs
 ·exact u.slot b ob q n hb hx
 ·exact ⟨ob.slots,u.keep b ob q n hb hx⟩
theorem Un.kept (k:∀b u,h.get? b=some u→h'.get? b=some u):Un fs ex H H h h':=
 ⟨fun b ob q _ _ _=>k b ob q,fun b ob q _ _ _=>⟨ob.slots,k b ob q⟩,fun _ _ _ n _=>n,fun b ob q _=>⟨ob,k b ob q⟩,fun _ _ q=>q,fun _ _ _ q=>q,fun _ ps q=>⟨#[],by rw [q];simp⟩⟩
theorem Un.refl:Un fs ex H H h h:=Un.kept fun _ _ q=>q
theorem Un.laid (k:∀b u,h.get? b=some u→h'.get? b=some u) (hp:h.objs.size≤a) (hn:H a=none):Un fs ex H (upd H a o) h h' where
 keep:=fun b u q _ _ _=>k b u q
 slot:=fun b u q _ _ _=>⟨u.slots,k b u q⟩
 free:=fun b u q n _=>by rw [aJ (Nat.ne_of_lt (Nat.lt_of_lt_of_le (Heap.lt_size q) hp))];exact n
 there:=fun b u q _=>⟨u,k b u q⟩
 tups:=fun b xs q=>by rw [aJ (bw q hn)];exact q
 Rf:=fun b u xs q=>by rw [aJ (bw q hn)];exact q
 Rg:=fun b ps q=>⟨#[],by rw [aJ (bw q hn),q];simp⟩
theorem Un.write (mu:Mut (H x)) (he:e=x∨H e=some (.own x)) (k:∀b u,b≠e→h.get? b=some u→h'.get? b=some u) (heo:∃u,h'.get? e=some u):Un fs ex H (upd H x o) h h':=by
 have hx:∀b,H b=none→b≠x:=fun b n z=>by subst z;rw [n]at mu;exact mu
 have hb:∀b,H b=none→b≠e:=fun b n z=>by
  subst z
  rcases he with r | r
  ·exact hx b n r
  ·rw [n]at r;cases r
 have hm:∀b u,H b=some u→¬Mut (some u)→b≠x:=fun b u q nm z=>by subst z;rw [q]at mu;exact nm mu
 refine ⟨fun b u q n _ _=>k b u (hb b n) q,fun b u q n _ _=>⟨u.slots,k b u (hb b n) q⟩,fun b u q n _=>by rw [aJ (hx b n)];exact n,fun b u q _=>?_,
  fun b xs q=>by rw [aJ (hm b _ q fun z=>z)];exact q,fun b u xs q=>by rw [aJ (hm b _ q fun z=>z)];exact q,fun b ps q=>⟨#[],by rw [aJ (hm b _ q fun z=>z),q];simp⟩⟩
 by_cases hbe:b=e
 ·subst hbe;exact heo
 ·exact ⟨u,k b u hbe q⟩
end
noncomputable def trk (h:Heap) (H:Hp):List Addr:=(List.range h.objs.size).filter fun a=>(H a).isSome
noncomputable def Np (h:Heap) (H:Hp):Heap:=PySem.W.hideAll h (trk h H)
theorem Y9 (h:Heap) (H:Hp):(Np h H).objs.size=h.objs.size:=PySem.W.hideAll_size _ _
theorem aaL {h:Heap} {H:Hp} {b:Addr} {o:Obj} (e:h.get? b=some o) (n:H b=none):(Np h H).get? b=some o:=
 PySem.W.hideAll_get _ e fun hm=>by
  have q:(H b).isSome=true:=(List.mem_filter.mp hm).2
  rw [n]at q;simp at q
theorem aci {h:Heap} {H:Hp} {b:Addr} {o:Obj} (e:(Np h H).get? b=some o):h.get? b=some o∧H b=none:=by
 have e':h.get? b=some o:=PySem.W.of_hideAll (trk h H) e
 refine ⟨e',?_⟩
 cases q:H b with
 | none=>rfl
 | some x=>
  have hm:b∈trk h H:=List.mem_filter.mpr ⟨List.mem_range.mpr (Heap.lt_size e'),by simp [q]⟩
  have z:(Np h H).get? b=none:=PySem.W.hideAll_none (trk h H) hm
  rw [z]at e;cases e
end L2
namespace L2
open PySem PySem.Spec PyProof.Rows
structure Mod (K:PySem.W.Frag) (mg:Str→Option Value) (base:Heap):Prop where
 kin:K.In base
 glob:base.Ns mainGlobals mg
 blt:∃mb,base.Ns builtinsNs mb∧∀x:Str,x ≠ "__name__" → mb x=bootBuiltins x
 nolimit:base.NoLimit
structure Cx where
 prog:Program
 w:World
 K:PySem.W.Frag
 mg:Str→Option Value
 base:Heap
 A:Around
 N:List Str
 Nf:Shared
 H_0:Hp
 env:Env
 outer:List Env
 stack:List Env
 ex:List Addr
 fn:Str→Bool
 calm:Bool
 pn:List (Addr×Obj)
 xe:Value→Shared→Prop
noncomputable def frs (l:List Env):List Addr:=l.filterMap (·.frame)
noncomputable abbrev Cx.fs (X:Cx):List Addr:=frs X.outer
noncomputable def Vis (sc:Scope) (x:Str):Prop:=sc.names.lookup x=some .local∨sc.names.lookup x=some .cell∨sc.names.lookup x=some .free
noncomputable def Loc (sc:Scope) (x:Str):Prop:=sc.names.lookup x=some .local∨sc.names.lookup x=some .cell
noncomputable def Look (env:Env) (h:Heap) (m:Str→Option Value) (x:Str) (u:Value):Prop:=
 (env.kindOf x=some .local∧m x=some u)∨((env.kindOf x=some .cell∨env.kindOf x=some .free)∧∃c,env.cells.lookup x=some c∧h.IsCell c (some u))
structure Cx.Ok (X:Cx):Prop where
 mod:Mod X.K X.mg X.base
 kind:X.env.scope.kind=.function
 glob:X.env.globals=mainGlobals
 blt:X.env.builtins=builtinsNs
 above:X.Nf.heap.objs.size≤X.env.locals
 inj:∀x y c,X.env.cells.lookup x=some c→X.env.cells.lookup y=some c→x=y
 has:∀x,(X.env.kindOf x=some .cell∨X.env.kindOf x=some .free)→∃c,X.env.cells.lookup x=some c
 cab:∀x c,X.fn x=true→X.env.cells.lookup x=some c→X.Nf.heap.objs.size≤c
 hd:X.calm=true→X.A.handled=none
 frames:X.A.frames=some X.stack
 stk:X.stack=X.outer∨(X.stack=X.env::X.outer∧X.env.frame=some X.env.locals)
 exf:∀b∈X.ex,b≠X.env.locals∧∀x c,X.env.cells.lookup x=some c→c≠b
 bs:∀b o,X.base.get? b=some o→X.Nf.heap.get? b=some o∧X.H_0 b=none
 bsz:X.base.objs.size≤X.Nf.heap.objs.size
 aaN:∀b o,X.base.get? b=some o→b∉X.ex
 aaO:∀b∈X.ex,b∉X.fs
 Ek:X.Nf.heap.FunFrames X.base X.outer
 frf:∀b∈X.fs,X.H_0 b=none
structure Inv (X:Cx) (pins:List (Addr×Obj)) (σ:List (Option V)) (H:Hp) (s:Shared):Prop where
 ok:X.Ok
 os:s.os=X.Nf.os
 bare:AllBare s.gens
 base:Un X.fs X.ex X.H_0 H X.Nf.heap s.heap
 loc:∃m,s.heap.Ns X.env.locals m∧∀(i:Nat) (x:Str) (v:V),X.N[i]?=some x→σ[i]?=some (some v)→Vis X.env.scope x→∃u,RelV v u∧Look X.env s.heap m x u
 cell:∀x c,X.env.cells.lookup x=some c→∃v,s.heap.IsCell c v
 free:H X.env.locals=none
 wK:∀x c,X.env.cells.lookup x=some c→H c=none
 pin:∀p∈X.pn++pins,s.heap.get? p.1=some p.2∧H p.1=none∧p.1≠X.env.locals∧p.1∉X.fs∧∀v,p.2.data≠.cell v
 hok:zg X.prog X.w H s.heap
 len:σ.length=X.N.length
section
variable {X:Cx} {pins:List (Addr×Obj)} {σ:List (Option V)} {H H':Hp} {s:Shared} {h':Heap}
theorem Cx.Ok.ag0 (ok:X.Ok) {b:Addr} {o:Obj} (e:X.base.get? b=some o):b∉X.fs:=fun hb=>by
 have:=(ok.Ek.mem hb).1
 rw [e]at this;cases this
theorem Inv.bs (I:Inv X pins σ H s):∀b o,X.base.get? b=some o→s.heap.get? b=some o∧H b=none:=fun b o e=>
 ⟨I.base.keep b o (I.ok.bs b o e).1 (I.ok.bs b o e).2 (I.ok.ag0 e) (I.ok.aaN b o e),I.base.free b o (I.ok.bs b o e).1 (I.ok.bs b o e).2 (I.ok.aaN b o e)⟩
theorem Inv.bk (I:Inv X pins σ H s):∀b o,X.base.get? b=some o→s.heap.get? b=some o:=fun b o e=>(I.bs b o e).1
theorem Inv.mod (I:Inv X pins σ H s):Mod X.K X.mg X.base:=I.ok.mod
theorem Inv.Tt (I:Inv X pins σ H s):X.K.In s.heap:=I.ok.mod.kin.keeps I.bk
theorem Inv.nolimit (I:Inv X pins σ H s):s.heap.NoLimit:=I.ok.mod.nolimit.keeps I.bk
theorem Inv.fr (I:Inv X pins σ H s):∃m,Fr X.base X.env.locals s.heap m:=
 let ⟨m,hn,_⟩:=I.loc
 ⟨m,hn,I.bk,Nat.le_trans I.ok.bsz I.ok.above⟩
theorem Inv.lt (I:Inv X pins σ H s):X.env.locals<s.heap.objs.size:=let ⟨_,hn,_⟩:=I.loc;hn.lt
theorem Inv.sz (I:Inv X pins σ H s):X.Nf.heap.objs.size≤s.heap.objs.size:=Nat.le_trans I.ok.above (Nat.le_of_lt I.lt)
theorem Inv.Za (I:Inv X pins σ H s) {a:Addr} (h:s.heap.objs.size≤a):a∉X.fs:=fun hb=>by
 obtain ⟨_,o,ho,_⟩:=I.ok.Ek.mem hb
 exact absurd (Nat.lt_of_lt_of_le (Heap.lt_size ho) (Nat.le_trans I.sz h)) (Nat.lt_irrefl _)
theorem Inv.cne (I:Inv X pins σ H s):∀x c,X.env.cells.lookup x=some c→c≠X.env.locals:=fun x c e z=>by
 obtain ⟨v,o,ho,hd⟩:=I.cell x c e
 obtain ⟨m,⟨o',es,ep,ho',hd',_⟩,_⟩:=I.loc
 rw [z,ho']at ho;cases ho;rw [hd']at hd;cases hd
theorem Inv.Ek (I:Inv X pins σ H s):s.heap.FunFrames X.base X.outer:=by
 have all:∀(l:List Env),(∀b∈frs l,b∈X.fs)→X.Nf.heap.FunFrames X.base l→s.heap.FunFrames X.base l:=by
  intro l
  induction l with
  | nil=>intro _ _;trivial
  | cons env r ih=>
   intro hs hl
   obtain ⟨hk,⟨L,o,hf,hn,ho,hd⟩,hr⟩:=hl
   have hL:L∈X.fs:=hs L (by unfold frs;rw [List.filterMap_cons,hf];exact List.mem_cons_self)
   obtain ⟨sl,e⟩:=I.base.slot L o ho (I.ok.frf L hL) hL fun z=>I.ok.aaO L z hL
   exact ⟨hk,⟨L,_,hf,hn,e,hd⟩,ih (fun b hb=>hs b (by unfold frs;rw [List.filterMap_cons,hf];exact List.mem_cons_of_mem _ hb)) hr⟩
 exact all X.outer (fun _ hb=>hb) I.ok.Ek
theorem Inv.stack (I:Inv X pins σ H s):s.heap.FunFrames X.base X.stack:=by
 rcases I.ok.stk with e | ⟨e,hf⟩
 ·rw [e];exact I.Ek
 ·rw [e]
  obtain ⟨m,hn,_⟩:=I.loc
  refine .cons (by rw [I.ok.kind];decide) hf hn ?_ I.Ek
  exact Heap.get?_none_of_le (Nat.le_trans I.ok.bsz I.ok.above)
theorem Inv.Wj (I:Inv X pins σ H s):∀b∈frs X.stack,b∈X.env.locals::X.fs:=fun b hb=>by
 rcases I.ok.stk with e | ⟨e,hf⟩
 ·rw [e]at hb;exact List.mem_cons_of_mem _ hb
 ·rw [e]at hb
  unfold frs at hb
  rw [List.filterMap_cons,hf]at hb
  exact hb
theorem Inv.X4 (I:Inv X pins σ H s):∀b∈frs X.stack,H b=none:=fun b hb=>by
 rcases List.mem_cons.mp (I.Wj b hb) with e | hb
 ·rw [e];exact I.free
 ·obtain ⟨_,o,ho,_⟩:=I.ok.Ek.mem hb
  exact I.base.free b o ho (I.ok.frf b hb) fun z=>I.ok.aaO b z hb
theorem Inv.step {g':Array GenState} {t':Nat} {d':Drawn} {ch:List Addr} (I:Inv X pins σ H s)
  (hch:∀b∈ch,(b∈X.ex∨X.Nf.heap.objs.size≤b)∧b≠X.env.locals∧(∀x c,X.env.cells.lookup x=some c→c≠b)∧∀p∈X.pn++pins,p.1≠b)
  (keep:∀b o,b≠X.env.locals→b∉X.fs→b∉ch→s.heap.get? b=some o→H b=none→h'.get? b=some o)
  (slot:∀b o,b≠X.env.locals→b∈X.fs→b∉ch→s.heap.get? b=some o→H b=none→∃sl,h'.get? b=some { o with slots:=sl }) (free:∀b o,b∉ch→s.heap.get? b=some o→H b=none→H' b=none)
  (there:∀b o,b∉ch→s.heap.get? b=some o→∃o',h'.get? b=some o')
  (tups:∀b xs,H b=some (.tup xs)→H' b=some (.tup xs)) (Rf:∀b o u,H b=some (.G4 o u)→H' b=some (.G4 o u)) (Rg:∀b ps,H b=some (.Ja ps)→∃more,H' b=some (.Ja (ps++more)))
  (ns:∀m,s.heap.Ns X.env.locals m→h'.Ns X.env.locals m) (hok:zg X.prog X.w H' h') (hg:AllBare g') :
  Inv X pins σ H' { s with heap:=h',gens:=g',drawn:=d',toks:=t' }:=by
 have neL:∀b o,X.Nf.heap.get? b=some o→b≠X.env.locals:=fun b o e=>Nat.ne_of_lt (Nat.lt_of_lt_of_le (Heap.lt_size e) I.ok.above)
 have neC:∀b o,X.Nf.heap.get? b=some o→b∉X.ex→b∉ch:=fun b o e hx hb=>by
  rcases (hch b hb).1 with z | z
  ·exact hx z
  ·exact absurd (Nat.lt_of_lt_of_le (Heap.lt_size e) z) (Nat.lt_irrefl _)
 have cellK:∀x c,X.env.cells.lookup x=some c→∀v,s.heap.IsCell c v→h'.IsCell c v:=fun x c e v ⟨o,ho,hd⟩=>by
  have nch:c∉ch:=fun z=>(hch c z).2.2.1 x c e rfl
  by_cases hc:c∈X.fs
  ·obtain ⟨sl,q⟩:=slot c o (I.cne x c e) hc nch ho (I.wK x c e)
   exact ⟨_,q,hd⟩
  ·exact ⟨o,keep c o (I.cne x c e) hc nch ho (I.wK x c e),hd⟩
 refine ⟨I.ok,I.os,hg,⟨fun b o e n hb hx=>?_,fun b o e n hb hx=>?_,fun b o e n hx=>?_,fun b o e hx=>?_,fun b xs e=>tups b xs (I.base.tups b xs e),fun b o xs e=>Rf b o xs (I.base.Rf b o xs e),fun b ps e=>?_⟩,?_,fun x c e=>?_,?_,fun x c e=>?_,fun p hp=>?_,hok,I.len⟩
 ·exact keep b o (neL b o e) hb (neC b o e hx) (I.base.keep b o e n hb hx) (I.base.free b o e n hx)
 ·obtain ⟨sl,e1⟩:=I.base.slot b o e n hb hx
  obtain ⟨sl',e2⟩:=slot b _ (neL b o e) hb (neC b o e hx) e1 (I.base.free b o e n hx)
  exact ⟨sl',e2⟩
 ·obtain ⟨o',e1⟩:=I.base.there b o e hx
  exact free b o' (neC b o e hx) e1 (I.base.free b o e n hx)
 ·obtain ⟨o',e1⟩:=I.base.there b o e hx
  exact there b o' (neC b o e hx) e1
 ·obtain ⟨m1,e1⟩:=I.base.Rg b ps e
  obtain ⟨m2,e2⟩:=Rg b _ e1
  exact ⟨m1++m2,by rw [e2,Array.append_assoc]⟩
 ·obtain ⟨m,hn,hl⟩:=I.loc
  refine ⟨m,ns m hn,fun i x v e1 e2 e3=>?_⟩
  obtain ⟨u,r,l⟩:=hl i x v e1 e2 e3
  refine ⟨u,r,?_⟩
  rcases l with l | ⟨k,c,e,z⟩
  ·exact .inl l
  ·exact .inr ⟨k,c,e,cellK x c e _ z⟩
 ·obtain ⟨v,z⟩:=I.cell x c e
  exact ⟨v,cellK x c e v z⟩
 ·obtain ⟨m,⟨o,_,_,ho,_⟩,_⟩:=I.loc
  exact free _ o (fun z=>(hch _ z).2.1 rfl) ho I.free
 ·obtain ⟨v,o,ho,hd⟩:=I.cell x c e
  exact free c o (fun z=>(hch c z).2.2.1 x c e rfl) ho (I.wK x c e)
 ·obtain ⟨e,n,ne,nf,d⟩:=I.pin p hp
  have nch:p.1∉ch:=fun z=>(hch p.1 z).2.2.2 p hp rfl
  exact ⟨keep p.1 p.2 ne nf nch e n,free p.1 p.2 nch e n,ne,nf,d⟩
theorem Inv.un {t':Nat} (I:Inv X pins σ H s) (u:Un X.fs [] H H' s.heap h') (hok:zg X.prog X.w H' h'):Inv X pins σ H' { s with heap:=h',toks:=t' }:=by
 obtain ⟨m,⟨o,es,ep,ho,r⟩,_⟩:=id I.loc
 obtain ⟨sl,hL⟩:=u.any ho I.free (by simp)
 exact I.step (g':=s.gens) (d':=s.drawn) (ch:=[]) (fun _ z=>nomatch z) (fun b o _ hb _ e n=>u.keep b o e n hb (by simp)) (fun b o _ hb _ e n=>u.slot b o e n hb (by simp)) (fun b o _ e n=>u.free b o e n (by simp)) (fun b o _ e=>u.there b o e (by simp)) u.tups u.Rf u.Rg (fun m' hm=>by
  obtain ⟨o',es',ep',ho',r'⟩:=hm
  rw [ho]at ho';cases ho'
  exact ⟨_,es',ep',hL,r'⟩) hok I.bare
theorem Inv.call {g':Array GenState} {t':Nat} {d':Drawn} {ch:List Addr} (I:Inv X pins σ H s) (u:Un (frs X.stack) ch H H' s.heap h') (hok:zg X.prog X.w H' h') (hg:AllBare g')
  (hch:∀b∈ch,(b∈X.ex∨X.Nf.heap.objs.size≤b)∧b≠X.env.locals∧(∀x c,X.env.cells.lookup x=some c→c≠b)∧∀p∈X.pn++pins,p.1≠b) :
  Inv X pins σ H' { s with heap:=h',gens:=g',drawn:=d',toks:=t' }:=by
 obtain ⟨m,⟨o,es,ep,ho,r⟩,_⟩:=id I.loc
 obtain ⟨sl,hL⟩:=u.any ho I.free fun z=>(hch _ z).2.1 rfl
 exact I.step (ch:=ch) hch (fun b o hL hb hc e n=>u.keep b o e n (fun z=>(List.mem_cons.mp (I.Wj b z)).elim hL hb) hc) (fun b o _ _ hc e n=>u.any e n hc) (fun b o hc e n=>u.free b o e n hc) (fun b o hc e=>u.there b o e hc) u.tups u.Rf u.Rg (fun m' hm=>by
  obtain ⟨o',es',ep',ho',r'⟩:=hm
  rw [ho]at ho';cases ho'
  exact ⟨_,es',ep',hL,r'⟩) hok hg
theorem Inv.turned {t':Nat} {it:Addr} (I:Inv X pins σ H s) (k:∀b o,b≠it→s.heap.get? b=some o→h'.get? b=some o) (hn:H it=none) (hL:it≠X.env.locals)
  (h1:it∈X.ex∨X.Nf.heap.objs.size≤it) (h2:∀x c,X.env.cells.lookup x=some c→c≠it) (h3:∀p∈X.pn++pins,p.1≠it):Inv X pins σ H { s with heap:=h',toks:=t' }:=by
 have nit:∀b u,H b=some u→b≠it:=fun b u e z=>by rw [z,hn]at e;cases e
 refine I.step (g':=s.gens) (d':=s.drawn) (ch:=[it]) (fun b hb=>?_) (fun b o _ _ hc e _=>k b o (fun z=>hc (by simp [z])) e) (fun b o _ _ hc e _=>⟨o.slots,k b o (fun z=>hc (by simp [z])) e⟩) (fun _ _ _ _ n=>n)
  (fun b o hc e=>⟨o,k b o (fun z=>hc (by simp [z])) e⟩) (fun _ _ e=>e) (fun _ _ _ e=>e) (fun b ps e=>⟨#[],by rw [e];simp⟩) (fun m hm=>?_) (fun b u e=>?_) I.bare
 ·have e:b=it:=by simpa using hb
  subst e
  exact ⟨h1,hL,h2,h3⟩
 ·obtain ⟨o,es,ep,ho,r⟩:=hm
  exact ⟨o,es,ep,k _ o (Ne.symm hL) ho,r⟩
 ·refine (I.hok b u e).stay (fun c v hc q=>k c v ?_ q) (fun _ q=>q) fun _ _ q=>q
  rcases hc with z | z
  ·rw [z];exact nit b u e
  ·exact nit c _ z
theorem Inv.tok (I:Inv X pins σ H s) (t:Nat):Inv X pins σ H { s with toks:=t }:=I.un (h':=s.heap) (t':=t) Un.refl I.hok
theorem Inv.kept {t':Nat} (I:Inv X pins σ H s) (k:∀b u,s.heap.get? b=some u→h'.get? b=some u):Inv X pins σ H { s with heap:=h',toks:=t' }:=I.un (Un.kept k) (I.hok.kept k)
theorem Inv.laid {a:Addr} {o:HO} {t':Nat} (I:Inv X pins σ H s) (k:∀b u,s.heap.get? b=some u→h'.get? b=some u) (hp:s.heap.objs.size≤a) (new:mV X.prog X.w (upd H a o) h' a o) :
  Inv X pins σ (upd H a o) { s with heap:=h',toks:=t' }:=I.un (Un.laid k hp (I.hok.fresh hp)) (I.hok.laid k hp new)
theorem Inv.write {x e:Addr} {o:HO} {t':Nat} (I:Inv X pins σ H s) (mu:Mut (H x)) (he:e=x∨H e=some (.own x)) (k:∀b u,b≠e→s.heap.get? b=some u→h'.get? b=some u) (heo:∃u,h'.get? e=some u)
  (new:mV X.prog X.w (upd H x o) h' x o):Inv X pins σ (upd H x o) { s with heap:=h',toks:=t' }:=I.un (Un.write mu he k heo) (I.hok.write mu he k heo new)
theorem Inv.weak {σ':List (Option V)} (I:Inv X pins σ H s) (hl:σ'.length=σ.length) (w:∀(i:Nat) v,σ'[i]?=some (some v)→σ[i]?=some (some v)):Inv X pins σ' H s:=
 ⟨I.ok,I.os,I.bare,I.base,let ⟨m,hn,hl'⟩:=I.loc;⟨m,hn,fun i x v e1 e2 e3=>hl' i x v e1 (w i v e2) e3⟩,I.cell,I.free,I.wK,I.pin,I.hok,hl.trans I.len⟩
theorem Inv.qp {pins':List (Addr×Obj)} (I:Inv X pins σ H s) (h:∀p∈pins',s.heap.get? p.1=some p.2∧H p.1=none∧p.1≠X.env.locals∧p.1∉X.fs∧∀v,p.2.data≠.cell v):Inv X pins' σ H s:=
 ⟨I.ok,I.os,I.bare,I.base,I.loc,I.cell,I.free,I.wK,fun p hp=>(List.mem_append.mp hp).elim (fun z=>I.pin p (List.mem_append_left _ z)) (h p),I.hok,I.len⟩
theorem JQ {N:List Str} (hN:N.Nodup) {i j:Nat} {x:Str} (a:N[i]?=some x) (b:N[j]?=some x):i=j:=by
 obtain ⟨h1,e1⟩:=List.getElem?_eq_some_iff.mp a
 obtain ⟨h2,e2⟩:=List.getElem?_eq_some_iff.mp b
 exact (List.getElem_inj hN).mp (e1.trans e2.symm)
theorem Qe {M:Model} {A:Around} {E:Value→Shared→Prop} {i:Nat} {x:Str} {v:V} {u:Value} {Q:Unit→Shared→Prop} (I:Inv X pins σ H s) (hN:X.N.Nodup) (hi:X.N[i]?=some x) (hx:Loc X.env.scope x) (r:RelV v u)
  (h:∀s',Inv X pins (σ.set i (some v)) H s'→(∃a,Heap.SameBut a s.heap s'.heap∧(a=X.env.locals∨X.env.cells.lookup x=some a))→Q () s') (hf:X.fn x=true∨X.env.scope.names.lookup x=some .local:=by first | exact .inl rfl | exact .inr rfl | assumption):wpAny M A (storeName X.env x u) Q E s:=by
 obtain ⟨m,hn,hl⟩:=id I.loc
 have hcls:(X.env.scope.kind == .class||(X.env.scope.kind == .module&&X.env.locals != X.env.globals))=false:=by rw [I.ok.kind];rfl
 have hiσ:i<σ.length:=by rw [I.len];exact (List.getElem?_eq_some_iff.mp hi).1
 have cne:=I.cne
 have tracked:∀{a:Addr} {h':Heap},(∃o,s.heap.get? a=some o∧H a=none)→Heap.SameBut a s.heap h'→zg X.prog X.w H h':=fun {a h'} ha hs b ob e=>by
  obtain ⟨_,_,hfree⟩:=ha
  refine (I.hok b ob e).stay (fun c w' hc q=>(hs.2 c ?_).trans q) (fun _ q=>q) fun _ _ q=>q
  rintro rfl
  rcases hc with rfl | hc
  ·rw [hfree]at e;cases e
  ·rw [hfree]at hc;cases hc
 rcases hx with hk | hk
 ·refine wpAny_storeName_local hk hn (fun h' hn' hs=>?_) hcls
  obtain ⟨oL,_,_,hoL,_⟩:=id hn
  refine h _ ⟨I.ok,I.os,I.bare,⟨fun b o e n hb hx=>?_,fun b o e n hb hx=>?_,I.base.free,fun b o e hx=>?_,I.base.tups,I.base.Rf,I.base.Rg⟩,⟨_,hn',fun j y v' e1 e2 e3=>?_⟩,fun y c e=>?_,I.free,I.wK,fun p hp=>?_,tracked ⟨oL,hoL,I.free⟩ hs,by simpa using I.len⟩ ⟨_,hs,.inl rfl⟩
  ·exact (hs.2 b (Nat.ne_of_lt (Nat.lt_of_lt_of_le (Heap.lt_size e) I.ok.above))).trans (I.base.keep b o e n hb hx)
  ·obtain ⟨sl,e1⟩:=I.base.slot b o e n hb hx
   exact ⟨sl,(hs.2 b (Nat.ne_of_lt (Nat.lt_of_lt_of_le (Heap.lt_size e) I.ok.above))).trans e1⟩
  ·obtain ⟨o',e1⟩:=I.base.there b o e hx
   exact ⟨o',(hs.2 b (Nat.ne_of_lt (Nat.lt_of_lt_of_le (Heap.lt_size e) I.ok.above))).trans e1⟩
  ·by_cases hj:j=i
   ·subst hj
    rw [hi]at e1;cases e1
    rw [List.getElem?_set_self hiσ]at e2
    cases e2
    exact ⟨u,r,.inl ⟨hk,by simp⟩⟩
   ·rw [List.getElem?_set_ne (Ne.symm hj)]at e2
    obtain ⟨u',r',q⟩:=hl j y v' e1 e2 e3
    refine ⟨u',r',?_⟩
    rcases q with ⟨k,e⟩ | ⟨k,c,e,z⟩
    ·refine .inl ⟨k,?_⟩
     have:y≠x:=fun e=>hj (JQ hN e1 (e▸hi))
     simp [this,e]
    ·exact .inr ⟨k,c,e,z.sameBut hs (cne y c e)⟩
  ·obtain ⟨w',z⟩:=I.cell y c e
   exact ⟨w',z.sameBut hs (cne y c e)⟩
  ·obtain ⟨e,n,ne,nf,d⟩:=I.pin p hp
   exact ⟨(hs.2 p.1 ne).trans e,n,ne,nf,d⟩
 ·have hfn:X.fn x=true:=by
   rcases hf with z | z
   ·exact z
   ·rw [z]at hk;cases hk
  obtain ⟨c,hc⟩:=I.ok.has x (.inl hk)
  obtain ⟨w',z⟩:=I.cell x c hc
  refine wpAny_storeName_cell I.ok.kind hk hc z (fun h' hc' hs=>?_)
  obtain ⟨oc,hoc,ag1⟩:=id z
  refine h { s with heap:=h' } ⟨I.ok,I.os,I.bare,⟨fun b o e n hb hx=>?_,fun b o e n hb hx=>?_,I.base.free,fun b o e hx=>?_,I.base.tups,I.base.Rf,I.base.Rg⟩,⟨m,hn.sameBut hs (Ne.symm (cne x c hc)),fun j y v' e1 e2 e3=>?_⟩,fun y c' e=>?_,I.free,I.wK,fun p hp=>?_,tracked ⟨oc,hoc,I.wK x c hc⟩ hs,by simpa using I.len⟩ ⟨c,hs,.inr hc⟩
  ·exact (hs.2 b (Nat.ne_of_lt (Nat.lt_of_lt_of_le (Heap.lt_size e) (I.ok.cab x c hfn hc)))).trans (I.base.keep b o e n hb hx)
  ·obtain ⟨sl,e1⟩:=I.base.slot b o e n hb hx
   exact ⟨sl,(hs.2 b (Nat.ne_of_lt (Nat.lt_of_lt_of_le (Heap.lt_size e) (I.ok.cab x c hfn hc)))).trans e1⟩
  ·obtain ⟨o',e1⟩:=I.base.there b o e hx
   exact ⟨o',(hs.2 b (Nat.ne_of_lt (Nat.lt_of_lt_of_le (Heap.lt_size e) (I.ok.cab x c hfn hc)))).trans e1⟩
  ·by_cases hj:j=i
   ·subst hj
    rw [hi]at e1;cases e1
    rw [List.getElem?_set_self hiσ]at e2
    cases e2
    exact ⟨u,r,.inr ⟨.inl hk,c,hc,hc'⟩⟩
   ·rw [List.getElem?_set_ne (Ne.symm hj)]at e2
    obtain ⟨u',r',q⟩:=hl j y v' e1 e2 e3
    refine ⟨u',r',?_⟩
    rcases q with q | ⟨k,c',e,z'⟩
    ·exact .inl q
    ·refine .inr ⟨k,c',e,z'.sameBut hs ?_⟩
     rintro rfl
     exact hj (JQ hN e1 (I.ok.inj _ _ _ e hc▸hi))
  ·by_cases hcc:c'=c
   ·subst hcc;exact ⟨_,hc'⟩
   ·obtain ⟨w2,z2⟩:=I.cell y c' e
    exact ⟨w2,z2.sameBut hs hcc⟩
  ·obtain ⟨e,n,ne,nf,d⟩:=I.pin p hp
   refine ⟨(hs.2 p.1 ?_).trans e,n,ne,nf,d⟩
   intro q
   rw [q,hoc]at e
   have q':oc=p.2:=Option.some.inj e
   exact d w' (by rw [←q'];exact ag1)
theorem Uk {M:Model} {A:Around} {E:Value→Shared→Prop} {i:Nat} {x:Str} {v:V} {u:Value} {Q:Unit→Shared→Prop} (I:Inv X pins σ H s) (hN:X.N.Nodup) (hi:X.N[i]?=some x) (hx:Loc X.env.scope x) (r:RelV v u)
  (h:∀s',Inv X pins (σ.set i (some v)) H s'→Q () s') (hf:X.fn x=true∨X.env.scope.names.lookup x=some .local:=by first | exact .inl rfl | exact .inr rfl | assumption):wpAny M A (storeName X.env x u) Q E s:=
 Qe I hN hi hx r (fun s' I' _=>h s' I') hf
theorem Inv.call' {s':Shared} {ch:List Addr} (I:Inv X pins σ H s) (ho:s'.os=s.os) (u:Un (frs X.stack) ch H H' s.heap s'.heap) (hok:zg X.prog X.w H' s'.heap) (hg:AllBare s'.gens)
  (hch:∀b∈ch,(b∈X.ex∨X.Nf.heap.objs.size≤b)∧b≠X.env.locals∧(∀x c,X.env.cells.lookup x=some c→c≠b)∧∀p∈X.pn++pins,p.1≠b):Inv X pins σ H' s':=by
 obtain ⟨h',g',d',t',o'⟩:=s'
 have e:o'=s.os:=ho
 subst e
 exact I.call (g':=g') (t':=t') (d':=d') u hok hg hch
end
noncomputable abbrev XK:=Value→Option Addr→Hp→Prop
noncomputable abbrev St:=List (Option V)
noncomputable abbrev VK:=V→Hp→Prop
noncomputable abbrev TE:=St→Hp→VK→Prop
noncomputable abbrev TT:=St→Hp→(Bool→Hp→Prop)→Prop
noncomputable abbrev TA:=St→Hp→(List V→Hp→Prop)→Prop
structure Ends where
 nx:St→Hp→Prop
 rt:VK
 bk:St→Hp→Prop:=fun _ _=>False
 ct:St→Hp→Prop:=fun _ _=>False
noncomputable abbrev TS:=Ends→St→Hp→Prop
noncomputable def EP (X:Cx) (pins:List (Addr×Obj)) (σ:St) (Q:VK) (u:Value) (s':Shared):Prop:=∃v H',Inv X pins σ H' s'∧RelV v u∧Q v H'
noncomputable def TP (X:Cx) (pins:List (Addr×Obj)) (σ:St) (Q:Bool→Hp→Prop) (b:Bool) (s':Shared):Prop:=∃H',Inv X pins σ H' s'∧Q b H'
noncomputable def AP (X:Cx) (pins:List (Addr×Obj)) (σ:St) (Q:List V→Hp→Prop) (us:List Value) (s':Shared):Prop:=∃vs H',Inv X pins σ H' s'∧Vals vs us∧Q vs H'
noncomputable def SP (X:Cx) (pins:List (Addr×Obj)) (D:Ends) (f:Flow) (s':Shared):Prop:=
 match f with
 | .next=>∃σ' H',Inv X pins σ' H' s'∧D.nx σ' H'
 | .brk=>∃σ' H',Inv X pins σ' H' s'∧D.bk σ' H'
 | .cont=>∃σ' H',Inv X pins σ' H' s'∧D.ct σ' H'
 | .ret u=>∃v σ' H',Inv X pins σ' H' s'∧RelV v u∧D.rt v H'
noncomputable def PE (X:Cx) (e:Expr) (t:TE):Prop:=
 ∀(pins:List (Addr×Obj)) (s:Shared) (σ:St) (H:Hp) (Q:VK),Inv X pins σ H s→t σ H Q→wpAny (model X.prog X.w) X.A (eval e X.env) (EP X pins σ Q) X.xe s
noncomputable def PT (X:Cx) (e:Expr) (t:TT):Prop:=
 ∀(pins:List (Addr×Obj)) (s:Shared) (σ:St) (H:Hp) (Q:Bool→Hp→Prop),Inv X pins σ H s→t σ H Q→wpAny (model X.prog X.w) X.A (isTrue e X.env (eval e X.env)) (TP X pins σ Q) X.xe s
noncomputable def PW (X:Cx) (e:Expr) (t:TT):Prop:=
 ∀(whole:Sem Value) (pins:List (Addr×Obj)) (s:Shared) (σ:St) (H:Hp) (Q:Bool→Hp→Prop),Inv X pins σ H s→t σ H Q→wpAny (model X.prog X.w) X.A (isTrue e X.env whole) (TP X pins σ Q) X.xe s
theorem PW.pt {X:Cx} {e:Expr} {t:TT} (h:PW X e t):PT X e t:=h _
noncomputable def PA (X:Cx) (es:List Expr) (t:TA):Prop:=
 ∀(pos:Pos) (pins:List (Addr×Obj)) (s:Shared) (σ:St) (H:Hp) (Q:List V→Hp→Prop),Inv X pins σ H s→t σ H Q→wpAny (model X.prog X.w) X.A (spliced (backTo pos (starEach es X.env))) (AP X pins σ Q) X.xe s
noncomputable def PS (X:Cx) (st:Stmt) (t:TS):Prop:=
 ∀(pins:List (Addr×Obj)) (s:Shared) (σ:St) (H:Hp) (D:Ends),Inv X pins σ H s→t D σ H→wpAny (model X.prog X.w) X.A (exec st X.env) (SP X pins D) X.xe s
noncomputable def Zb (X:Cx) (st:List Stmt) (t:TS):Prop:=
 ∀(pins:List (Addr×Obj)) (s:Shared) (σ:St) (H:Hp) (D:Ends),Inv X pins σ H s→t D σ H→wpAny (model X.prog X.w) X.A (execs st X.env) (SP X pins D) X.xe s
theorem fW {α:Type} {t:Sem α} {Q Q':α→Shared→Prop} {M:Model} {A:Around} {E:Value→Shared→Prop} {s:Shared} (h:wpAny M A t Q E s) (hQ:∀a s,Q a s→Q' a s):wpAny M A t Q' E s:=wpAny_mono h hQ fun _ _ x=>x
end L2
namespace L2
open PySem PySem.Spec PyProof.Rows
section
variable {X:Cx}
theorem bin {a b:Expr} {ta tb:TE} (ha:PE X a ta) (hb:PE X b tb) {pins:List (Addr×Obj)} {s:Shared} {σ:St} {H:Hp} {R:V→V→Hp→Prop} (I:Inv X pins σ H s) (h:ta σ H fun x H1=>tb σ H1 fun y H2=>R x y H2)
  {α:Type} {Q:α→Shared→Prop} {f:Value→Value→Sem α}
  (hf:∀v u s2 x y H2,Inv X pins σ H2 s2→RelV x v→RelV y u→R x y H2→wpAny (model X.prog X.w) X.A (f v u) Q X.xe s2) :
  wpAny (model X.prog X.w) X.A (eval a X.env) (fun v s₁=>wpAny (model X.prog X.w) X.A (eval b X.env) (fun u s₂=>wpAny (model X.prog X.w) X.A (f v u) Q X.xe s₂) X.xe s₁) X.xe s:=by
 refine fW (ha pins s σ H _ I h) fun v s1 ⟨x,H1,I1,r1,q1⟩=>?_
 refine fW (hb pins s1 σ H1 _ I1 q1) fun u s2 ⟨y,H2,I2,r2,q2⟩=>?_
 exact hf v u s2 x y H2 I2 r1 r2 q2
noncomputable def aaP (i:Nat):TE:=fun σ H Q=>∃v,σ[i]?=some (some v)∧Q v H
noncomputable def tC (v:V):TE:=fun _ H Q=>Q v H
theorem aaQ {i:Nat} {x:Str} {pos:Pos} (hN:X.N[i]?=some x) (hv:Vis X.env.scope x) (hd:(x == ("__debug__" : Str))=false:=by decide) (hcd:(x == ("__classdict__" : Str))=false:=by decide):PE X (.Name x pos) (aaP i):=by
 intro pins s σ H Q I h
 obtain ⟨v,e,h⟩:=h
 obtain ⟨m,hn,hl⟩:=I.loc
 obtain ⟨u,r,l⟩:=hl i x v hN e hv
 have fin:EP X pins σ Q u s:=⟨v,H,I,r,h⟩
 rcases l with ⟨hk,hm⟩ | ⟨hk,c,hc,hcell⟩
 ·exact wpAny_Name (wpAny_loadName_local I.ok.kind hk hn hm fin) hd
 ·rcases hk with hk | hk
  ·exact wpAny_Name (wpAny_loadName_cell I.ok.kind hk hc hcell fin) hd
  ·exact wpAny_Name (wpAny_loadName_free I.ok.kind hk hc hcell fin hcd) hd
theorem aG {i j pos}:PE X (.Constant (.int i) j pos) (tC (.int i)):=fun _ _ _ H _ I h=>wpAny_Constant_int ⟨.int i,H,I.tok _,⟨_,rfl⟩,h⟩
theorem adt {b j pos}:PE X (.Constant (.bool b) j pos) (tC (.bl b)):=fun _ _ _ H _ I h=>Constant_bool ⟨.bl b,H,I,rfl,h⟩
theorem eU {j pos}:PE X (.Constant .none j pos) (tC .non):=fun _ _ _ H _ I h=>Constant_none ⟨.non,H,I,rfl,h⟩
noncomputable def Gl (X:Cx) (x:Str):Prop:=X.env.kindOf x=some .globalImplicit
theorem Jb {E:Value→Shared→Prop} {pins:List (Addr×Obj)} {s:Shared} {σ:St} {H:Hp} {x:Str} {u:Value} {pos:Pos} {Q:Value→Shared→Prop} (I:Inv X pins σ H s) (hg:Gl X x) (hm:X.mg x=some u) (h:Q u s)
  (hd:(x == ("__debug__" : Str))=false:=by decide):wpAny (model X.prog X.w) X.A (eval (.Name x pos) X.env) Q E s:=
 Calls.Name_function_global I.ok.kind hg (Calls.loadGlobal_global (by rw [I.ok.glob];exact I.mod.glob.keeps I.bk) hm h) hd
theorem tV {E:Value→Shared→Prop} {pins:List (Addr×Obj)} {s:Shared} {σ:St} {H:Hp} {x:Str} {u:Value} {pos:Pos} {Q:Value→Shared→Prop} (I:Inv X pins σ H s) (hg:Gl X x) (hm:X.mg x=none) (hv:bootBuiltins x=some u) (h:Q u s)
  (hn:x ≠ "__name__" := by decide) (hd:(x == ("__debug__" : Str))=false:=by decide):wpAny (model X.prog X.w) X.A (eval (.Name x pos) X.env) Q E s:=by
 obtain ⟨mb,h1,h2⟩:=I.mod.blt
 exact Calls.Name_function_global I.ok.kind hg (Calls.loadGlobal_builtin (by rw [I.ok.glob];exact I.mod.glob.keeps I.bk) hm (by rw [I.ok.blt];exact h1.keeps I.bk) ((h2 x hn).trans hv) h) hd
theorem X5 {x:Str} {v:V} {u:Value} {pos:Pos} (hg:Gl X x) (hm:X.mg x=some u) (r:RelV v u) (hd:(x == ("__debug__" : Str))=false:=by decide):PE X (.Name x pos) (tC v):=
 fun _ _ _ H _ I h=>Jb I hg hm ⟨v,H,I,r,h⟩ hd
variable {a b:Expr} {ta tb:TE} {pos:Pos}
noncomputable def PC (X:Cx) (op:CmpOp) (a b:Expr) (t:TE):Prop:=
 ∀(pins:List (Addr×Obj)) (s:Shared) (σ:St) (H:Hp) (Q:VK),Inv X pins σ H s→t σ H Q→
  wpAny (model X.prog X.w) X.A (eval a X.env) (fun v s₁=>wpAny (model X.prog X.w) X.A (eval b X.env) (fun u s₂=>wpAny (model X.prog X.w) X.A (compareOp op v u) (EP X pins σ Q) X.xe s₂) X.xe s₁) X.xe s
noncomputable def tB (t:TE):TT:=fun σ H Q=>t σ H fun x H1=>∃c,x=.bl c∧Q c H1
theorem ag2 {op:CmpOp} {t:TE} (h:PC X op a b t) (h1:behindInMarks op b=false:=by first | exact afB _ (by decide) (by decide) | rfl):PT X (.Compare a [op] [b] pos) (tB t):=by
 intro pins s σ H Q I hw
 refine wpAny_isTrue_Compare1 (fW (h pins s σ H _ I hw) fun v s1 h1=>fW h1 fun u s2 h2=>fW h2 fun c s3 ⟨x,H1,I1,r1,q1⟩=>?_) h1
 obtain ⟨d,rfl,q⟩:=q1
 cases r1
 exact wpAny_truthy_bool ⟨H1,I1,q⟩
theorem cP {e:Expr} {t:TE} (h:PE X e t) (he:∀whole,isTrue e X.env whole=(do let v ←whole;standAt e.pos;holding [v] (truthy v)):=by intro _;rfl):PT X e (tB t):=by
 intro pins s σ H Q I hw
 refine isTrue_plain (fW (h pins s σ H _ I hw) fun v s1 ⟨x,H1,I1,r1,q1⟩=>?_) (he _)
 obtain ⟨d,rfl,q⟩:=q1
 cases r1
 exact wpAny_truthy_bool ⟨H1,I1,q⟩
variable {tA tB':TT} {rest:List Expr}
noncomputable def acj (t u:TT):TT:=fun σ H Q=>t σ H fun c H1=>if c=true then u σ H1 Q else Q false H1
noncomputable def tOr (t u:TT):TT:=fun σ H Q=>t σ H fun c H1=>if c=true then Q true H1 else u σ H1 Q
noncomputable def ack (t:TT):TT:=fun σ H Q=>t σ H fun c H1=>Q (!c) H1
theorem BX (ha:PT X a tA):PW X (.BoolOp .And [a] pos) tA:=by
 intro wh pins s σ H Q I h
 refine isTrue_and (fW (ha pins s σ H Q I h) fun c s1 e=>?_)
 cases c with
 | true=>exact isTrue_and_nil e
 | false=>exact e
theorem El (ha:PT X a tA):PW X (.BoolOp .Or [a] pos) tA:=by
 intro wh pins s σ H Q I h
 refine isTrue_or (fW (ha pins s σ H Q I h) fun c s1 e=>?_)
 cases c with
 | false=>exact isTrue_or_nil e
 | true=>exact e
theorem Em (ha:PT X a tA) (hb:PW X (.BoolOp .And (b::rest) pos) tB'):PW X (.BoolOp .And (a::b::rest) pos) (acj tA tB'):=by
 intro wh pins s σ H Q I h
 refine isTrue_and (fW (ha pins s σ H _ I h) fun c s1 ⟨H1,I1,q1⟩=>?_)
 cases c with
 | true=>exact hb wh pins s1 σ H1 Q I1 q1
 | false=>exact ⟨H1,I1,q1⟩
theorem Qg (ha:PT X a tA) (hb:PW X (.BoolOp .Or (b::rest) pos) tB'):PW X (.BoolOp .Or (a::b::rest) pos) (tOr tA tB'):=by
 intro wh pins s σ H Q I h
 refine isTrue_or (fW (ha pins s σ H _ I h) fun c s1 ⟨H1,I1,q1⟩=>?_)
 cases c with
 | true=>exact ⟨H1,I1,q1⟩
 | false=>exact hb wh pins s1 σ H1 Q I1 q1
theorem eV (ha:PT X a tA):PT X (.UnaryOp .Not a pos) (ack tA):=by
 intro pins s σ H Q I h
 exact isTrue_not (ha pins s σ H (fun c H1=>Q (!c) H1) I h)
noncomputable def X6 (ta tb:TE):TE:=fun σ H Q=>ta σ H fun x H1=>∃c,x=.bl c∧if c=true then tb σ H1 Q else Q (.bl false) H1
noncomputable def acn (ta tb:TE):TE:=fun σ H Q=>ta σ H fun x H1=>∃c,x=.bl c∧if c=true then Q (.bl true) H1 else tb σ H1 Q
noncomputable def aaR (ta:TE):TE:=fun σ H Q=>ta σ H fun x H1=>∃c,x=.bl c∧Q (.bl (!c)) H1
theorem pD {op} {t:TE} (h:PE X a t):PE X (.BoolOp op [a] pos) t:=fun pins s σ H Q I hw=>BoolOp_one (h pins s σ H Q I hw)
theorem vB (ha:PE X a ta) (hb:PE X (.BoolOp .And (b::rest) pos) tb):PE X (.BoolOp .And (a::b::rest) pos) (X6 ta tb):=by
 intro pins s σ H Q I h
 refine BoolOp_and (fW (ha pins s σ H _ I h) fun v s1 ⟨x,H1,I1,r1,q1⟩=>?_)
 obtain ⟨c,rfl,q1⟩:=q1
 cases r1
 refine wpAny_truthy_bool ?_
 cases c with
 | true=>exact hb pins s1 σ H1 Q I1 q1
 | false=>exact ⟨.bl false,H1,I1,rfl,q1⟩
theorem aaS (ha:PE X a ta) (hb:PE X (.BoolOp .Or (b::rest) pos) tb):PE X (.BoolOp .Or (a::b::rest) pos) (acn ta tb):=by
 intro pins s σ H Q I h
 refine BoolOp_or (fW (ha pins s σ H _ I h) fun v s1 ⟨x,H1,I1,r1,q1⟩=>?_)
 obtain ⟨c,rfl,q1⟩:=q1
 cases r1
 refine wpAny_truthy_bool ?_
 cases c with
 | false=>exact hb pins s1 σ H1 Q I1 q1
 | true=>exact ⟨.bl true,H1,I1,rfl,q1⟩
noncomputable def tIf (t:TT) (ta tb:TE):TE:=fun σ H Q=>t σ H fun c H1=>if c=true then ta σ H1 Q else tb σ H1 Q
theorem o7 {c:Expr} (hc:PT X c tA) (ha:PE X a ta) (hb:PE X b tb):PE X (.IfExp c a b pos) (tIf tA ta tb):=by
 intro pins s σ H Q I h
 refine wpAny_IfExp (fW (hc pins s σ H _ I h) fun d s1 ⟨H1,I1,q1⟩=>?_)
 cases d with
 | true=>exact ha pins s1 σ H1 Q I1 q1
 | false=>exact hb pins s1 σ H1 Q I1 q1
end
end L2
namespace L2
open PySem PySem.Spec PyProof.Rows
noncomputable def b7 (K:PySem.W.Frag) (H:Hp) (a:Addr) (xs:List V):Prop:=
 Rd H a (.lst xs)∨
  ∃(o:Obj) (its:Array Value) (n:Nat),K.lookup a=some o∧o.cls=.type "list" ∧ o.dict=none∧o.data=.seq its n∧its.size≤sizeLine∧Vals xs its.toList
noncomputable def zj (K:PySem.W.Frag) (H:Hp) (a:Addr) (xs:List V):Prop:=
 Rd H a (.tup xs)∨
  ∃(o:Obj) (its:Array Value) (n:Nat),K.lookup a=some o∧o.cls=.type "tuple" ∧ o.data=.seq its n∧its.size≤sizeLine∧Vals xs its.toList
noncomputable def ag3:Value→Option V
 | .none=>some .non
 | .bool b=>some (.bl b)
 | .int i _=>some (.int i)
 | .str x _=>some (.str x)
 | .bytes b _=>some (.V0 b)
 | .float b _=>some (.flt b)
 | .ref a=>some (.ref a)
 | .type n=>some (.ty n)
 | _=>none
theorem RelV.abs {x:V} {u:Value} (r:RelV x u):ag3 u=some x:=by
 cases x with
 | non=>cases r;rfl
 | bl _=>cases r;rfl
 | int _=>obtain ⟨t,rfl⟩:=r;rfl
 | str _=>obtain ⟨t,rfl⟩:=r;rfl
 | V0 _=>obtain ⟨t,rfl⟩:=r;rfl
 | flt _=>obtain ⟨t,rfl⟩:=r;rfl
 | ref _=>cases r;rfl
 | ty _=>cases r;rfl
theorem RelV.inj {x y:V} {u:Value} (r:RelV x u) (q:RelV y u):x=y:=Option.some.inj (r.abs.symm.trans q.abs)
theorem Vals.inj:∀{xs ys:List V} {us:List Value},Vals xs us→Vals ys us→xs=ys
 | _,_,_,.nil,.nil=>rfl
 | _,_,_,.cons r t,.cons r' t'=>by rw [r.inj r',Vals.inj t t']
section
variable {X:Cx} {pins:List (Addr×Obj)} {σ:St} {H:Hp} {s:Shared} {a:Addr} {xs ys:List V}
theorem b7.of {K:PySem.W.Frag} (h:H a=some (.lst xs)):b7 K H a xs:=.inl (.inl h)
theorem zj.of {K:PySem.W.Frag} (h:H a=some (.tup xs)):zj K H a xs:=.inl (.inl h)
theorem Inv.list (I:Inv X pins σ H s) (h:b7 X.K H a xs):∃its:List Value,Vals xs its∧PlainL s.heap a its.toArray∧xs.length≤sizeLine:=by
 rcases h with h | ⟨o,its,n,hk,hc,hd,hs,hz,r⟩
 ·obtain ⟨z,its,n,r,e⟩:=h.ok I.hok
  exact ⟨its,r,⟨_,n,e,rfl,rfl,rfl⟩,z⟩
 ·refine ⟨its.toList,r,⟨o,n,I.Tt a o hk,hc,hd,by simpa using hs⟩,?_⟩
  have e:=r.length
  simp only [Array.length_toList]at e
  omega
theorem Inv.tuple (I:Inv X pins σ H s) (h:zj X.K H a xs):∃its:List Value,Vals xs its∧IsTup s.heap a its.toArray∧xs.length≤sizeLine:=by
 rcases h with h | ⟨o,its,n,hk,hc,hs,hz,r⟩
 ·obtain ⟨z,its,r,p⟩:=h.ok I.hok
  exact ⟨its,r,p,z⟩
 ·refine ⟨its.toList,r,⟨o,I.Tt a o hk,hc,n,by simpa using hs⟩,?_⟩
  have e:=r.length
  simp only [Array.length_toList]at e
  omega
theorem Inv.JR (I:Inv X pins σ H s) (h:b7 X.K H a xs) (h':b7 X.K H a ys):xs=ys:=by
 obtain ⟨its,r,⟨o,n,e,_,_,d⟩,_⟩:=I.list h
 obtain ⟨its',r',⟨o',n',e',_,_,d'⟩,_⟩:=I.list h'
 rw [e]at e';cases e'
 rw [d]at d'
 injection d' with d1 _
 have:its=its':=by simpa using congrArg Array.toList d1
 subst this
 exact r.inj r'
end
noncomputable abbrev Cx.wish (X:Cx) (E:Value→Shared→Prop):Cx:={ X with xe:=E }
noncomputable abbrev Cx.nox (X:Cx):Cx:=X.wish fun _ _=>False
theorem Cx.Ok.wish {X:Cx} (ok:X.Ok) (E:Value→Shared→Prop):(X.wish E).Ok:=
 ⟨ok.mod,ok.kind,ok.glob,ok.blt,ok.above,ok.inj,ok.has,ok.cab,ok.hd,ok.frames,ok.stk,ok.exf,ok.bs,ok.bsz,ok.aaN,ok.aaO,ok.Ek,ok.frf⟩
theorem Cx.Ok.xj {X:Cx} {E:Value→Shared→Prop} (ok:(X.wish E).Ok):X.Ok:=
 ⟨ok.mod,ok.kind,ok.glob,ok.blt,ok.above,ok.inj,ok.has,ok.cab,ok.hd,ok.frames,ok.stk,ok.exf,ok.bs,ok.bsz,ok.aaN,ok.aaO,ok.Ek,ok.frf⟩
section
variable {X:Cx} {pins:List (Addr×Obj)} {σ:St} {H:Hp} {s:Shared} {E:Value→Shared→Prop}
theorem Inv.wish (I:Inv X pins σ H s) (E:Value→Shared→Prop):Inv (X.wish E) pins σ H s:=⟨I.ok.wish E,I.os,I.bare,I.base,I.loc,I.cell,I.free,I.wK,I.pin,I.hok,I.len⟩
theorem Inv.xj (I:Inv (X.wish E) pins σ H s):Inv X pins σ H s:=⟨I.ok.xj,I.os,I.bare,I.base,I.loc,I.cell,I.free,I.wK,I.pin,I.hok,I.len⟩
theorem SP.xj {D:Ends} {f:Flow} {s':Shared} (h:SP (X.wish E) pins D f s'):SP X pins D f s':=by
 cases f with
 | next=>obtain ⟨σ',H',I,q⟩:=h;exact ⟨σ',H',I.xj,q⟩
 | brk=>obtain ⟨σ',H',I,q⟩:=h;exact ⟨σ',H',I.xj,q⟩
 | cont=>obtain ⟨σ',H',I,q⟩:=h;exact ⟨σ',H',I.xj,q⟩
 | ret u=>obtain ⟨v,σ',H',I,r,q⟩:=h;exact ⟨v,σ',H',I.xj,r,q⟩
theorem Zb.nox {st:List Stmt} {t:TS} (h:Zb X.nox st t):Zb X st t:=fun pins s σ H D I hw=>
 wpAny_mono (h pins s σ H D (I.wish _) hw) (fun _ _ q=>q.xj) fun _ _ z=>False.elim z
end
section
variable {X:Cx} {st:Stmt} {rest:List Stmt} {t u:TS} {e:Expr} {te:TE} {pos:Pos}
noncomputable def X7:TS:=fun D σ H=>D.nx σ H
noncomputable def acp (t u:TS):TS:=fun D σ H=>t { D with nx:=u D } σ H
theorem bH:Zb X [] X7:=fun _ _ σ H _ I h=>wpAny_execs_nil ⟨σ,H,I,h⟩
theorem ao (h1:PS X st t) (h2:Zb X rest u):Zb X (st::rest) (acp t u):=by
 intro pins s σ H D I h
 refine wpAny_execs_cons (fW (h1 pins s σ H { D with nx:=u D } I h) fun f s1 q=>?_)
 cases f with
 | next=>
  obtain ⟨σ',H',I',q⟩:=q
  exact h2 pins s1 σ' H' D I' q
 | ret v=>exact q
 | brk=>exact q
 | cont=>exact q
theorem aB (h1:PS X st t):Zb X [st] t:=by
 intro pins s σ H D I h
 refine wpAny_execs_cons (fW (h1 pins s σ H D I h) fun f s1 q=>?_)
 cases f with
 | next=>exact wpAny_execs_nil q
 | ret v=>exact q
 | brk=>exact q
 | cont=>exact q
noncomputable def aaT:TS:=fun D σ H=>D.bk σ H
theorem aaU:PS X (.Break pos) aaT:=fun _ _ σ H _ I h=>wpAny_Break ⟨σ,H,I,h⟩
theorem Inv.quiet {pins:List (Addr×Obj)} {σ:St} {H:Hp} {s:Shared} (I:Inv X pins σ H s):interactive X.env=false:=by simp [interactive,I.ok.kind]
noncomputable def X8 (te:TE):TS:=fun D σ H=>te σ H fun _ H1=>D.nx σ H1
theorem gU (he:PE X e te) (hs:swapsWith e none pos.line X.env=pure false:=by rfl):PS X (.Expr e pos) (X8 te):=by
 intro pins s σ H D I h
 exact wpAny_Expr_any (fW (he pins s σ H _ I h) fun v s1 ⟨x,H1,I1,r1,q1⟩=>⟨σ,H1,I1,q1⟩) I.quiet hs
noncomputable def acq (te:TE):TS:=fun D σ H=>te σ H D.rt
theorem aH (he:PE X e te):PS X (.Return (some e) pos) (acq te):=by
 intro pins s σ H D I h
 exact wpAny_Return_some (fW (he pins s σ H _ I h) fun v s1 ⟨x,H1,I1,r1,q1⟩=>⟨x,σ,H1,I1,r1,q1⟩)
noncomputable def aaV:TS:=fun D _ H=>D.rt .non H
noncomputable def acr (c:TT) (t u:TS):TS:=fun D σ H=>c σ H fun b H1=>if b=true then t D σ H1 else u D σ H1
theorem cC {c:Expr} {a b:List Stmt} {tc:TT} (hc:PT X c tc) (ha:Zb X a t) (hb:Zb X b u):PS X (.If c a b pos) (acr tc t u):=by
 intro pins s σ H D I h
 refine wpAny_If (fW (hc pins s σ H _ I h) fun d s1 ⟨H1,I1,q1⟩=>?_)
 cases d with
 | true=>exact ha pins s1 σ H1 D I1 q1
 | false=>exact hb pins s1 σ H1 D I1 q1
end
noncomputable abbrev TG:=V→St→Hp→(St→Hp→Prop)→Prop
noncomputable abbrev TGs:=List V→St→Hp→(St→Hp→Prop)→Prop
noncomputable def PG (X:Cx) (target:Expr) (t:TG):Prop:=
 ∀(pins:List (Addr×Obj)) (s:Shared) (σ:St) (H:Hp) (v:V) (u:Value) (Q:St→Hp→Prop),Inv X pins σ H s→RelV v u→t v σ H Q→
  wpAny (model X.prog X.w) X.A (assign target X.env u) (fun _ s'=>∃σ' H',Inv X pins σ' H' s'∧Q σ' H') X.xe s
noncomputable def PGs (X:Cx) (ts:List Expr) (t:TGs):Prop:=
 ∀(pins:List (Addr×Obj)) (s:Shared) (σ:St) (H:Hp) (vs:List V) (us:List Value) (Q:St→Hp→Prop),Inv X pins σ H s→Vals vs us→t vs σ H Q→
  wpAny (model X.prog X.w) X.A (assignInOrder ((assignEach ts X.env).map (·.2)) us) (fun _ s'=>∃σ' H',Inv X pins σ' H' s'∧Q σ' H') X.xe s
noncomputable abbrev ad1:=V→V→V→Hp→(Hp→Prop)→Prop
noncomputable def afD (X:Cx) (t:ad1):Prop:=
 ∀(pins:List (Addr×Obj)) (s:Shared) (σ:St) (H:Hp) (o i v:V) (ov iv u:Value) (Q:Hp→Prop),Inv X pins σ H s→RelV o ov→RelV i iv→RelV v u→t o i v H Q→
  wpAny (model X.prog X.w) X.A (setItem ov iv u) (fun _ s'=>∃H',Inv X pins σ H' s'∧Q H') X.xe s
section
variable {X:Cx} {pos:Pos}
noncomputable def JS (i:Nat):TG:=fun v σ H Q=>Q (σ.set i (some v)) H
theorem cA {i:Nat} {x:Str} (hN:X.N.Nodup) (hi:X.N[i]?=some x) (hx:Loc X.env.scope x) (hf:X.fn x=true∨X.env.scope.names.lookup x=some .local:=by first | exact .inl rfl | exact .inr rfl | assumption):PG X (.Name x pos) (JS i):=by
 intro pins s σ H v u Q I r h
 exact wpAny_assign_Name (Uk I hN hi hx r (fun s' I'=>⟨_,H,I',h⟩) hf)
noncomputable def Ho:TGs:=fun vs σ H Q=>vs=[]∧Q σ H
noncomputable def wL (t:TG) (u:TGs):TGs:=fun vs σ H Q=>∃v r,vs=v::r∧t v σ H fun σ' H'=>u r σ' H' Q
theorem lK:PGs X [] Ho:=by
 intro pins s σ H vs us Q I r h
 obtain ⟨e,h⟩:=h
 subst e
 cases r
 exact assignInOrder_nil ⟨σ,H,I,h⟩
theorem cR {e:Expr} {es:List Expr} {t:TG} {u:TGs} (h1:PG X e t) (h2:PGs X es u)
  (hs:(assignEach (e::es) X.env).map (·.2)=assign e X.env::(assignEach es X.env).map (·.2):=by rfl):PGs X (e::es) (wL t u):=by
 intro pins s σ H vs us Q I r h
 obtain ⟨v,vr,e1,h⟩:=h
 subst e1
 cases r with
 | cons r rr=>
  rw [hs]
  refine assignInOrder_cons (fW (h1 pins s σ H _ _ _ I r h) fun _ s1 ⟨σ1,H1,I1,q1⟩=>?_)
  exact h2 pins s1 σ1 H1 _ _ Q I1 rr q1
noncomputable def Ul (K:PySem.W.Frag) (n:Nat) (t:TGs):TG:=fun v σ H Q=>∃a xs,v=.ref a∧zj K H a xs∧xs.length=n∧t xs σ H Q
theorem qR {es:List Expr} {k:Nat} {t:TGs} {n:Nat} (hc:X.calm=true) (h:PGs X es t)
  (hn:(assignEach es X.env).length=n:=by rfl) (hst:(assignEach es X.env).findIdx? (·.1)=none:=by rfl):PG X (.Tuple es k pos) (Ul X.K n t):=by
 intro pins s σ H v u Q I r hw
 obtain ⟨a,xs,e1,hq,hl,hw⟩:=hw
 subst e1
 cases r
 obtain ⟨its,rv,ht,hz⟩:=I.tuple hq
 refine assign_Tuple_tuple (I.ok.hd hc) ht (by simp [hn,←hl,rv.length]) hst fun h' hx=>?_
 have I1:Inv X pins σ H { s with heap:=h' }:=I.kept (t':=s.toks) fun b o e=>hx b o (Nat.ne_of_lt (Heap.lt_size e)) e
 exact h pins _ σ H xs _ Q I1 (by simpa using rv) hw
noncomputable def afE (to ti:TE) (t:ad1):TG:=fun v σ H Q=>to σ H fun o H1=>ti σ H1 fun i H2=>t o i v H2 fun H3=>Q σ H3
theorem ad2 {o i:Expr} {to ti:TE} {t:ad1} (ho:PE X o to) (hi:PE X i ti) (hs:afD X t)
  (ha:∀v,assign (.Subscript o i pos) X.env v=(do
   let ov ←holding [v] (eval o X.env)
   let iv ←holding [v,ov] (eval i X.env)
   standAt pos
   holding [v,ov,iv] (setItem ov iv v)
   release [v,ov,iv] []):=by intro _;rfl):PG X (.Subscript o i pos) (afE to ti t):=by
 intro pins s σ H v u Q I r h
 rw [ha]
 refine wpAny_bind (wpAny_holding (fW (ho pins s σ H _ I h) fun ov s1 ⟨x,H1,I1,r1,q1⟩=>?_))
 refine wpAny_bind (wpAny_holding (fW (hi pins s1 σ H1 _ I1 q1) fun iv s2 ⟨y,H2,I2,r2,q2⟩=>?_))
 refine wpAny_bind (wpAny_standAt (wpAny_bind (wpAny_holding (fW (hs pins s2 σ H2 x y v ov iv u _ I2 r1 r2 r q2) fun _ s3 ⟨H3,I3,q3⟩=>?_))))
 exact wpAny_release ⟨σ,H3,I3,q3⟩
noncomputable def Zc (te:TE) (g:TG):TS:=fun D σ H=>te σ H fun x H1=>g x σ H1 D.nx
theorem ad3 {tg e:Expr} {te:TE} {g:TG} (he:PE X e te) (hg:PG X tg g) (hs:swapsWithSole [tg] e pos.line X.env=pure false:=by rfl) (hw:swappedStores [tg] e X.env=pure none:=by rfl)
  (h1:(assignEach [tg] X.env).map (·.2)=[assign tg X.env]:=by rfl):PS X (.Assign [tg] e pos) (Zc te g):=by
 intro pins s σ H D I h
 refine wpAny_Assign_stores (fW (he pins s σ H _ I h) fun v s1 ⟨x,H1,I1,r1,q1⟩=>?_) hs hw
 rw [h1]
 exact fW (hg pins s1 σ H1 x v _ I1 r1 q1) fun _ s2 q=>q
theorem aY {i:Nat} {x:Str} {e:Expr} {te:TE} {pos':Pos} (hN:X.N.Nodup) (hi:X.N[i]?=some x) (hx:Loc X.env.scope x) (he:PE X e te) (hs:swapsWith e (some (.Name x pos')) pos.line X.env=pure false:=by rfl) (hf:X.fn x=true∨X.env.scope.names.lookup x=some .local:=by first | exact .inl rfl | exact .inr rfl | assumption) :
  PS X (.Assign [.Name x pos'] e pos) (Zc te (JS i)):=by
 intro pins s σ H D I h
 refine wpAny_Assign_Name (fW (he pins s σ H _ I h) fun v s1 ⟨y,H1,I1,r1,q1⟩=>?_) hs
 exact Uk I1 hN hi hx r1 (fun s2 I2=>⟨_,H1,I2,q1⟩) hf
end
section
variable {X:Cx} {pos:Pos}
noncomputable def Rh (c:TT) (tb:TS):TS:=fun D σ H=>∃W:Nat→St→Hp→Prop,(∃m,W m σ H)∧∀m σ H,W m σ H→
 c σ H fun b H1=>if b=true then ∃N:St→Hp→Prop,(∀σ' H',N σ' H'→∃m',m'<m∧W m' σ' H')∧tb { D with nx:=N,ct:=N,bk:=D.nx } σ H1 else D.nx σ H1
theorem JT {c:Expr} {body:List Stmt} {tc:TT} {tb:TS} (hp:PassesOwn (model X.prog X.w) X.A X.env X.xe) (hc:PT X c tc) (hb:Zb X body tb):PS X (.While c body [] pos) (Rh tc tb):=by
 intro pins s σ H D I h
 obtain ⟨W,⟨m0,w0⟩,turn⟩:=h
 refine wpAny_While (codeAny_whileLoop (fun n s'=>∃σ' H',Inv X pins σ' H' s'∧W n σ' H') ?_ m0 ⟨σ,H,I,w0⟩)
 rintro n s1 ⟨σ1,H1,I1,w1⟩
 refine wpAny_passesOwn hp (fW (hc pins s1 σ1 H1 _ I1 (turn n σ1 H1 w1)) fun b s2 ⟨H2,I2,q2⟩=>?_)
 cases b with
 | true=>
  obtain ⟨N,hN,q2⟩:=q2
  rw [if_pos rfl]
  refine wpAny_passesOwn hp (fW (hb pins s2 σ1 H2 _ I2 q2) fun f s3 q3=>?_)
  cases f with
  | next=>
   obtain ⟨σ3,H3,I3,n3⟩:=q3
   obtain ⟨m',hm,w3⟩:=hN σ3 H3 n3
   exact ⟨m',hm,σ3,H3,I3,w3⟩
  | cont=>
   obtain ⟨σ3,H3,I3,n3⟩:=q3
   obtain ⟨m',hm,w3⟩:=hN σ3 H3 n3
   exact ⟨m',hm,σ3,H3,I3,w3⟩
  | brk=>exact q3
  | ret v=>exact q3
 | false=>
  rw [if_neg Bool.false_ne_true]
  exact wpAny_execs_nil ⟨σ1,H2,I2,q2⟩
end
structure It where
 go:Nat→Hp→Prop
 yld:Nat→Hp→V→Hp→Prop
 stop:Nat→Hp→Prop
noncomputable def JV (X:Cx) (pins:List (Addr×Obj)) (H:Hp) (b:Addr):Prop:=
 H b=none∧b≠X.env.locals∧b∉X.fs∧(b∈X.ex∨X.Nf.heap.objs.size≤b)∧(∀x c,X.env.cells.lookup x=some c→c≠b)∧∀p∈X.pn++pins,p.1≠b
theorem Inv.aaW {X:Cx} {pins:List (Addr×Obj)} {σ:St} {H H':Hp} {s:Shared} {b:Addr} (I:Inv X pins σ H s) (hb:s.heap.objs.size≤b) (hn:H' b=none):JV X pins H' b:=by
 refine ⟨hn,Nat.ne_of_gt (Nat.lt_of_lt_of_le I.lt hb),I.Za hb,.inr (Nat.le_trans I.sz hb),fun x c e z=>?_,fun p hp z=>?_⟩
 ·obtain ⟨v,q⟩:=I.cell x c e
  exact absurd (Nat.lt_of_lt_of_le q.lt (by rw [z];exact hb)) (Nat.lt_irrefl _)
 ·exact absurd (Nat.lt_of_lt_of_le (Heap.lt_size (I.pin p hp).1) (by rw [z];exact hb)) (Nat.lt_irrefl _)
structure Turn (P:Program) (w:World) (K:PySem.W.Frag) (tg:Expr) (J:It) (fp:List Addr) (it:Addr) (tn:Nat→Heap→Prop):Prop where
 mem:it∈fp
 obj:∀i h,tn i h→∀b∈fp,∃o,h.get? b=some o∧∀v,o.data≠.cell v
 keep:∀i h h',tn i h→(∀b∈fp,∀o,h.get? b=some o→h'.get? b=some o)→tn i h'
 item:∀(X:Cx),X.prog=P→X.w=w→X.K=K→X.calm=true→∀(i:Nat) (pins:List (Addr×Obj)) (s:Shared) (σ:St) (H:Hp) (E:Value→Shared→Prop),Inv X pins σ H s→(∀b∈fp,JV X pins H b)→tn i s.heap→J.go i H→
  wpAny (model P w) X.A (pyNext (.ref it)) (fun r s1=>∃u,r=some u∧
   wpAny (model P w) X.A (letOwnedTupleGo tg (.ref it) u) (fun _ s2=>∃x H',Inv X pins σ H' s2∧RelV x u∧J.yld i H x H'∧tn (i+1) s2.heap∧∀b∈fp,H' b=none) E s1) E s
 done:∀(X:Cx),X.prog=P→X.w=w→X.K=K→X.calm=true→∀(i:Nat) (pins:List (Addr×Obj)) (s:Shared) (σ:St) (H:Hp) (E:Value→Shared→Prop),Inv X pins σ H s→(∀b∈fp,JV X pins H b)→tn i s.heap→J.stop i H→
  wpAny (model P w) X.A (pyNext (.ref it)) (fun r s1=>r=none∧Inv X pins σ H s1) E s
 self:∀(A:Around) (i:Nat) (s:Shared) (Q:Value→Shared→Prop) (E:Value→Shared→Prop),tn i s.heap→Q (.ref it) s→wpAny (model P w) A (pyIter (.ref it)) Q E s
noncomputable abbrev TI:=St→Hp→(It→Hp→Prop)→Prop
noncomputable def PIE (X:Cx) (pins:List (Addr×Obj)) (σ:St) (tg:Expr) (R:It→Hp→Prop) (itv:Value) (s2:Shared):Prop:=
 ∃(it:Addr) (fp:List Addr) (tn:Nat→Heap→Prop) (J:It) (H':Hp),itv=.ref it∧Inv X pins σ H' s2∧Turn X.prog X.w X.K tg J fp it tn∧tn 0 s2.heap∧(∀b∈fp,JV X pins H' b)∧R J H'
noncomputable def PI (X:Cx) (tg iter:Expr) (wi:TI):Prop:=
 ∀(pins:List (Addr×Obj)) (s:Shared) (σ:St) (H:Hp) (R:It→Hp→Prop),Inv X pins σ H s→wi σ H R→
  wpAny (model X.prog X.w) X.A (eval iter X.env) (fun v s1=>wpAny (model X.prog X.w) X.A (pyIter v) (PIE X pins σ tg R) X.xe s1) X.xe s
theorem Yb {M:Model} {A:Around} {E:Value→Shared→Prop} {s:Shared} {tg:Expr} {it:Addr} {u:Value} {o:Obj} {n:String} {vs:Array Value} {Q:Unit→Shared→Prop} (ho:s.heap.get? it=some o) (hc:o.cls=.type n) (hd:o.data=.fields vs)
  (hn:["enumerate","zip","dict_itemiterator","dict_reverseitemiterator","odict_iterator","itertools.zip_longest","itertools.pairwise"].contains n=false) (hQ:Q () s):wpAny M A (letOwnedTupleGo tg (.ref it) u) Q E s:=by
 unfold letOwnedTupleGo
 cases tg<;>first
  | exact wpAny_pure hQ
  | (cases u<;>first
    | exact wpAny_pure hQ
    | (refine wpAny_bind (wpAny_load ho ?_)
       rw [hc,hd]
       show wpAny M A (if (["enumerate","zip","dict_itemiterator","dict_reverseitemiterator","odict_iterator","itertools.zip_longest","itertools.pairwise"].contains n&&vs[0]? == some (rawInt _))=true then _ else _) Q E s
       rw [if_neg (by intro h;rw [hn,Bool.false_and]at h;cases h)]
       exact wpAny_pure hQ))
noncomputable def Itl (K:PySem.W.Frag) (a:Addr):It:=
 ⟨fun i H=>∃xs x,b7 K H a xs∧xs[i]?=some x,fun i H x H'=>H'=H∧∀xs,b7 K H a xs→xs[i]?=some x,fun i H=>∃xs,b7 K H a xs∧xs.length≤i⟩
noncomputable def Yc (lo:Int) (n:Nat):It:=⟨fun i _=>i<n,fun i H x H'=>H'=H∧x=.int (lo+i),fun i _=>n≤i⟩
theorem Zd {P:Program} {w:World} {K:PySem.W.Frag} {tg:Expr} (a it:Addr):Turn P w K tg (Itl K a) [it] it (fun i h=>h.IsListIter it a i) where
 mem:=by simp
 obj:=fun i h st b hb=>by
  have e:b=it:=by simpa using hb
  subst e
  obtain ⟨o,e,c,d⟩:=st
  exact ⟨o,e,fun v z=>by rw [d]at z;cases z⟩
 keep:=fun i h h' st k=>st.at fun o e=>k it (by simp) o e
 item:=by
  intro X hP hw hK hc i pins s σ H E I hf st hg
  subst hP hw hK
  obtain ⟨xs,x,hq,hx⟩:=hg
  obtain ⟨its,rv,p,hz⟩:=I.list hq
  obtain ⟨u,hu,ru⟩:=rv.get hx
  obtain ⟨f0,f1,f2,f3,f4,f5⟩:=hf it (by simp)
  refine wpAny_pyNext_list_item st p.isList (x:=u) (by simpa using hu) fun h' st' sb=>?_
  have I1:Inv X pins σ H { s with heap:=h' }:=I.turned (t':=s.toks) (fun b o hb e=>(sb.2 b hb).trans e) f0 f1 f3 f4 f5
  obtain ⟨o,e,c,d⟩:=id st'
  exact ⟨u,rfl,Yb (s:={ s with heap:=h' }) e c d (by decide) ⟨x,H,I1,ru,⟨rfl,fun ys hy=>by rw [I.JR hy hq];exact hx⟩,st',fun b hb=>(hf b hb).1⟩⟩
 done:=by
  intro X hP hw hK hc i pins s σ H E I hf st hg
  subst hP hw hK
  obtain ⟨xs,hq,hx⟩:=hg
  obtain ⟨its,rv,p,hz⟩:=I.list hq
  obtain ⟨f0,f1,f2,f3,f4,f5⟩:=hf it (by simp)
  have hl:=rv.length
  exact wpAny_pyNext_list_end (I.ok.hd hc) st p.isList (by simp;omega) fun h' eb=>⟨rfl,I.turned (t':=s.toks) (fun b o hb e=>eb b o hb e) f0 f1 f3 f4 f5⟩
 self:=fun _ _ _ _ _ st h=>wpAny_pyIter_listiter st h
theorem Wk {P:Program} {w:World} {K:PySem.W.Frag} {tg:Expr} (it:Addr) (lo:Int) (n:Nat):Turn P w K tg (Yc lo n) [it] it (fun i h=>IsRangeIter h it (lo+(i:Nat)*1) ((n:Int)-(i:Nat)) 1) where
 mem:=by simp
 obj:=fun i h st b hb=>by
  have e:b=it:=by simpa using hb
  subst e
  exact ⟨_,st,fun v z=>by
   have z':Data.fields _=Data.cell v:=z
   cases z'⟩
 keep:=fun i h h' st k=>k it (by simp) _ st
 item:=by
  intro X hP hw hK hc i pins s σ H E I hf st hg
  subst hP hw hK
  obtain ⟨f0,f1,f2,f3,f4,f5⟩:=hf it (by simp)
  have W:=Walks.range (prog:=X.prog) (w:=X.w) (I.ok.hd hc) it lo 1 n
  refine W.item i s _ _ hg st fun v h' tk hv st' kk=>?_
  obtain ⟨t,rfl⟩:=hv
  have I1:Inv X pins σ H { s with heap:=h',toks:=tk }:=I.turned (fun b o hb e=>kk b o (by simpa using hb) e) f0 f1 f3 f4 f5
  refine ⟨_,rfl,Yb (s:={ s with heap:=h',toks:=tk }) (n := "range_iterator") st' rfl rfl (by decide) ⟨.int (lo+i),H,I1,⟨t,?_⟩,⟨rfl,rfl⟩,st',fun b hb=>(hf b hb).1⟩⟩
  rw [Int.mul_one]
 done:=by
  intro X hP hw hK hc i pins s σ H E I hf st hg
  subst hP hw hK
  obtain ⟨f0,f1,f2,f3,f4,f5⟩:=hf it (by simp)
  exact wpAny_pyNext_range_end (I.ok.hd hc) st (by have:n≤i:=hg;omega) fun h' eb=>⟨rfl,I.turned (t':=s.toks) (fun b o hb e=>eb b o hb e) f0 f1 f3 f4 f5⟩
 self:=fun _ _ _ _ _ st h=>wpAny_pyIter_rangeiter st h
end L2
namespace L2
open PySem PySem.Spec PyProof.Rows
section
variable {X:Cx} {tg:Expr}
noncomputable def Yd (K:PySem.W.Frag) (tl:TE):TI:=fun σ H R=>tl σ H fun x H1=>∃a,x=.ref a∧(∃xs,b7 K H1 a xs)∧R (Itl K a) H1
theorem jA {l:Expr} {tl:TE} (hl:PE X l tl):PI X tg l (Yd X.K tl):=by
 intro pins s σ H R I h
 refine fW (hl pins s σ H _ I h) fun v s1 ⟨x,H1,I1,r1,q1⟩=>?_
 obtain ⟨a,e,⟨xs,hq⟩,q⟩:=q1
 subst e
 cases r1
 obtain ⟨its,rv,p,hz⟩:=I1.list hq
 refine wpAny_pyIter_list p.isList ?_
 refine ⟨s1.heap.objs.size,[s1.heap.objs.size],_,_,H1,rfl,I1.kept (t':=s1.toks) fun b o e=>Heap.get?_push_of_some _ e,Zd a _,⟨_,Heap.get?_push_size _ rfl,rfl,rfl⟩,fun b hb=>?_,q⟩
 have e:b=s1.heap.objs.size:=by simpa using hb
 subst e
 exact I1.aaW (Nat.le_refl _) (I1.hok.fresh (Nat.le_refl _))
theorem Um {pins:List (Addr×Obj)} {σ:St} {H:Hp} {s:Shared} {R:It→Hp→Prop} {E:Value→Shared→Prop} {lo hi:Int} {t u v:Tok} {tk:Nat} (I:Inv X pins σ H s) (h1:-(2 ^ 62)≤lo) (h2:lo<2 ^ 62) (h3:-(2 ^ 62)≤hi) (h4:hi<2 ^ 62)
  (q:R (Yc lo (hi-lo).toNat) H):wpAny (model X.prog X.w) X.A (pyIter (.ref s.heap.objs.size)) (PIE X pins σ tg R) E { s with heap:=s.heap.push { cls:=.type "range",data:=.fields #[.int lo t,.int hi u,.int 1 v] },toks:=tk }:=by
 refine wpAny_pyIter_range (IsRange.new ..) (small_one h1 h2 h3 h4) ?_
 have I1:Inv X pins σ H { s with heap:=s.heap.push { cls:=.type "range",data:=.fields #[.int lo t,.int hi u,.int 1 v] },toks:=tk }:=I.kept fun b o e=>Heap.get?_push_of_some _ e
 refine ⟨(s.heap.push { cls:=.type "range",data:=.fields #[.int lo t,.int hi u,.int 1 v] }).objs.size,[(s.heap.push { cls:=.type "range",data:=.fields #[.int lo t,.int hi u,.int 1 v] }).objs.size],_,_,H,rfl,
  I1.kept (t':=tk) fun b o e=>Heap.get?_push_of_some _ e,Wk _ lo (hi-lo).toNat,?_,fun b hb=>?_,q⟩
 ·have e1:lo+((0:Nat):Int)*1=lo:=by simp
  have e2:(((hi-lo).toNat:Nat):Int)-((0:Nat):Int)=Builtin.Range.rangeSize lo hi 1:=by rw [rangeSize_one];split<;>omega
  show IsRangeIter _ _ (lo+((0:Nat):Int)*1) ((((hi-lo).toNat:Nat):Int)-((0:Nat):Int)) 1
  rw [e1,e2]
  exact Heap.get?_push_size _ rfl
 ·have e:b=(s.heap.push { cls:=.type "range",data:=.fields #[.int lo t,.int hi u,.int 1 v] }).objs.size:=by simpa using hb
  subst e
  exact I1.aaW (Nat.le_refl _) (I1.hok.fresh (Nat.le_refl _))
noncomputable def aaX (ta:TA):TI:=fun σ H R=>ta σ H fun vs H1=>∃j:Int,vs=[.int j]∧-(2 ^ 62)≤j∧j<2 ^ 62∧R (Yc 0 j.toNat) H1
noncomputable def aaY (ta:TA):TI:=fun σ H R=>ta σ H fun vs H1=>∃i j:Int,vs=[.int i,.int j]∧(-(2 ^ 62)≤i∧i<2 ^ 62∧-(2 ^ 62)≤j∧j<2 ^ 62)∧R (Yc i (j-i).toNat) H1
theorem yQ {a:Expr} {ta:TA} {p pos:Pos} (hg:Gl X "range") (hm:X.mg "range" = none) (ha:PA X [a] ta) (hs:starEach [a] X.env=[(false,eval a X.env)]:=by rfl):PI X tg (.Call (.Name "range" p) [a] [] pos) (aaX ta):=by
 intro pins s σ H R I h
 refine Call_ (tV I hg hm boot_range (PyProof.Rows.callWith_type1 (fW (ha pos pins s σ H _ I h) fun us s1 ⟨vs,H1,I1,r1,q1⟩=>?_) hs rfl))
 obtain ⟨j,e,q1,q2,q⟩:=q1
 subst e
 cases r1 with
 | cons r rr=>
  cases rr
  obtain ⟨t,rfl⟩:=r
  exact call_range_1 (Um I1 (by omega) (by omega) q1 q2 (by simpa using q))
theorem Ze {a b:Expr} {ta:TA} {p pos:Pos} (hg:Gl X "range") (hm:X.mg "range" = none) (ha:PA X [a,b] ta) (hs:starEach [a,b] X.env=[(false,eval a X.env),(false,eval b X.env)]:=by rfl) (hs2:starEach [b] X.env=[(false,eval b X.env)]:=by rfl) :
  PI X tg (.Call (.Name "range" p) [a,b] [] pos) (aaY ta):=by
 intro pins s σ H R I h
 refine Call_ (tV I hg hm boot_range (PyProof.Rows.callWith_type1 (fW (ha pos pins s σ H _ I h) fun us s1 ⟨vs,H1,I1,r1,q1⟩=>?_) (by rw [hs,hs2]) (by rw [hs2];rfl)))
 obtain ⟨i,j,e,⟨q1,q2,q3,q4⟩,q⟩:=q1
 subst e
 cases r1 with
 | cons r rr=>
  cases rr with
  | cons r' rr=>
   cases rr
   obtain ⟨t,rfl⟩:=r
   obtain ⟨t',rfl⟩:=r'
   exact call_range_2 (Um I1 q1 q2 q3 q4 q)
noncomputable def Wl (wi:TI) (g:TG) (tb:TS):TS:=fun D σ H=>wi σ H fun J H1=>∃W:Nat→Nat→St→Hp→Prop,(∃m,W 0 m σ H1)∧∀i m σ H,W i m σ H→
 (J.stop i H∧D.nx σ H)∨(J.go i H∧∃N:St→Hp→Prop,(∀σ' H',N σ' H'→∃m',m'<m∧W (i+1) m' σ' H')∧∀x H',J.yld i H x H'→g x σ H' fun σ2 H2=>tb { D with nx:=N,ct:=N,bk:=D.nx } σ2 H2)
noncomputable def JW (fp:List Addr) (h:Heap):List (Addr×Obj):=fp.filterMap fun b=>(h.get? b).map fun o=>(b,o)
theorem zV {fp:List Addr} {h:Heap} {b:Addr} {o:Obj} (hb:b∈fp) (e:h.get? b=some o):(b,o)∈JW fp h:=List.mem_filterMap.mpr ⟨b,hb,by rw [e];rfl⟩
theorem Zf {fp:List Addr} {h:Heap} {p:Addr×Obj} (hp:p∈JW fp h):p.1∈fp∧h.get? p.1=some p.2:=by
 obtain ⟨b,hb,e⟩:=List.mem_filterMap.mp hp
 cases q:h.get? b with
 | none=>rw [q]at e;cases e
 | some o=>
  rw [q]at e
  have e':(b,o)=p:=Option.some.inj e
  subst e'
  exact ⟨hb,q⟩
theorem Inv.pinned {pins:List (Addr×Obj)} {σ:St} {H:Hp} {s:Shared} {fp:List Addr} (I:Inv X pins σ H s) (hf:∀b∈fp,JV X pins H b) (ho:∀b∈fp,∃o,s.heap.get? b=some o∧∀v,o.data≠.cell v):Inv X (pins++JW fp s.heap) σ H s:=
 I.qp fun p hp=>(List.mem_append.mp hp).elim (fun z=>I.pin p (List.mem_append_right _ z)) fun z=>by
  obtain ⟨hb,e⟩:=Zf z
  obtain ⟨f0,f1,f2,_⟩:=hf p.1 hb
  obtain ⟨o,e',d⟩:=ho p.1 hb
  rw [e]at e';cases e'
  exact ⟨e,f0,f1,f2,d⟩
theorem Inv.BZ {pins pl:List (Addr×Obj)} {σ:St} {H:Hp} {s:Shared} (I:Inv X (pins++pl) σ H s):Inv X pins σ H s:=I.qp fun p hp=>I.pin p (List.mem_append_right _ (List.mem_append_left _ hp))
theorem vC {iter:Expr} {body:List Stmt} {wi:TI} {g:TG} {tb:TS} {pos:Pos} (hp:PassesOwn (model X.prog X.w) X.A X.env X.xe) (hc:X.calm=true) (hi:PI X tg iter wi) (hg:PG X tg g) (hb:Zb X body tb)
  (hs:∀x,foldedSetIterable iter X.env x=pure x:=by intro _;rfl):PS X (.For tg iter body [] pos) (Wl wi g tb):=by
 intro pins s σ H D I h
 refine wpAny_For (fW (hi pins s σ H _ I h) fun v s1 h1=>fW h1 fun itv s2 h2=>?_) hs
 obtain ⟨it,fp,tn,J,H2,e,I2,T,st2,f2,W,⟨m0,w0⟩,turn⟩:=h2
 subst e
 have stat:∀{H':Hp},(∀b∈fp,H' b=none)→∀b∈fp,JV X pins H' b:=fun hn b hb=>⟨hn b hb,(f2 b hb).2⟩
 refine codeAny_forLoop_any (fun n s'=>∃i σ' H',Inv X pins σ' H' s'∧tn i s'.heap∧(∀b∈fp,H' b=none)∧W i n σ' H') ?_ m0 ⟨0,σ,H2,I2,st2,fun b hb=>(f2 b hb).1,w0⟩
 rintro n s3 ⟨i,σ3,H3,I3,st3,fr3,w3⟩
 rcases turn i n σ3 H3 w3 with ⟨stop,qn⟩ | ⟨go,N,hN,step⟩
 ·refine wpAny_passesOwn hp (fW (T.done X rfl rfl rfl hc i pins s3 σ3 H3 X.xe I3 (stat fr3) st3 stop) fun r s4 ⟨hr,I4⟩=>?_)
  subst hr
  exact wpAny_execs_nil ⟨σ3,H3,I4,qn⟩
 ·refine wpAny_passesOwn hp (fW (T.item X rfl rfl rfl hc i pins s3 σ3 H3 X.xe I3 (stat fr3) st3 go) fun r s4 ⟨u,hr,h4⟩=>?_)
  subst hr
  refine wpAny_passesOwn hp (fW h4 fun _ s5 ⟨x,H5,I5,r5,y5,st5,fr5⟩=>?_)
  have I5':=I5.pinned (stat fr5) (T.obj _ _ st5)
  refine wpAny_passesOwn hp (fW (hg _ s5 σ3 H5 x u _ I5' r5 (step x H5 y5)) fun _ s6 ⟨σ6,H6,I6,q6⟩=>?_)
  refine wpAny_passesOwn hp (fW (hb _ s6 σ6 H6 _ I6 q6) fun f s7 q7=>?_)
  have again:∀{σ7:St} {H7:Hp},Inv X (pins++JW fp s5.heap) σ7 H7 s7→N σ7 H7→∃m,m<n∧∃i σ' H',Inv X pins σ' H' s7∧tn i s7.heap∧(∀b∈fp,H' b=none)∧W i m σ' H':=fun {σ7 H7} I7 n7=>by
   obtain ⟨m',hm,w7⟩:=hN σ7 H7 n7
   refine ⟨m',hm,i+1,σ7,H7,I7.BZ,T.keep _ _ _ st5 fun b hb o e=>(I7.pin (b,o) (List.mem_append_right _ (List.mem_append_right _ (zV hb e)))).1,fun b hb=>?_,w7⟩
   obtain ⟨o,e,d⟩:=T.obj _ _ st5 b hb
   exact (I7.pin (b,o) (List.mem_append_right _ (List.mem_append_right _ (zV hb e)))).2.1
  cases f with
  | next=>obtain ⟨σ7,H7,I7,n7⟩:=q7;exact again I7 n7
  | cont=>obtain ⟨σ7,H7,I7,n7⟩:=q7;exact again I7 n7
  | brk=>obtain ⟨σ7,H7,I7,q7⟩:=q7;exact ⟨σ7,H7,I7.BZ,q7⟩
  | ret v=>obtain ⟨x7,σ7,H7,I7,r7,q7⟩:=q7;exact ⟨x7,σ7,H7,I7.BZ,r7,q7⟩
end
theorem aaZ {K:PySem.W.Frag} {a:Addr} {xs:List V} {g:TG} {tb:TS} {D:Ends} {σ:St} {H:Hp} (Pv:Nat→St→Hp→Prop) (h0:Pv 0 σ H) (hl:∀i σ H,i≤xs.length→Pv i σ H→b7 K H a xs)
  (hs:∀i x σ H,xs[i]?=some x→Pv i σ H→g x σ H fun σ2 H2=>tb { D with nx:=Pv (i+1),ct:=Pv (i+1),bk:=D.nx } σ2 H2) (hd:∀σ H,Pv xs.length σ H→D.nx σ H) :
  ∃W:Nat→Nat→St→Hp→Prop,(∃m,W 0 m σ H)∧∀i m σ H,W i m σ H→
   ((Itl K a).stop i H∧D.nx σ H)∨((Itl K a).go i H∧∃N:St→Hp→Prop,(∀σ' H',N σ' H'→∃m',m'<m∧W (i+1) m' σ' H')∧∀x H',(Itl K a).yld i H x H'→g x σ H' fun σ2 H2=>tb { D with nx:=N,ct:=N,bk:=D.nx } σ2 H2):=by
 refine ⟨fun i m σ H=>m=xs.length-i∧i≤xs.length∧Pv i σ H,⟨xs.length,by simp,Nat.zero_le _,h0⟩,?_⟩
 rintro i m σ H ⟨rfl,hi,p⟩
 have q:=hl i σ H hi p
 by_cases hlt:i<xs.length
 ·refine .inr ⟨⟨xs,xs[i],q,by simp [hlt]⟩,Pv (i+1),fun σ' H' p'=>⟨xs.length-(i+1),by omega,rfl,hlt,p'⟩,fun x H' y=>?_⟩
  obtain ⟨e,y⟩:=y
  subst e
  exact hs i x σ _ (y xs q) p
 ·have e:i=xs.length:=by omega
  subst e
  exact .inl ⟨⟨xs,q,Nat.le_refl _⟩,hd σ H p⟩
theorem Zg {lo:Int} {n:Nat} {g:TG} {tb:TS} {D:Ends} {σ:St} {H:Hp} (Pv:Nat→St→Hp→Prop) (h0:Pv 0 σ H)
  (hs:∀i σ H,i<n→Pv i σ H→g (.int (lo+i)) σ H fun σ2 H2=>tb { D with nx:=Pv (i+1),ct:=Pv (i+1),bk:=D.nx } σ2 H2) (hd:∀σ H,Pv n σ H→D.nx σ H) :
  ∃W:Nat→Nat→St→Hp→Prop,(∃m,W 0 m σ H)∧∀i m σ H,W i m σ H→
   ((Yc lo n).stop i H∧D.nx σ H)∨((Yc lo n).go i H∧∃N:St→Hp→Prop,(∀σ' H',N σ' H'→∃m',m'<m∧W (i+1) m' σ' H')∧∀x H',(Yc lo n).yld i H x H'→g x σ H' fun σ2 H2=>tb { D with nx:=N,ct:=N,bk:=D.nx } σ2 H2):=by
 refine ⟨fun i m σ H=>m=n-i∧i≤n∧Pv i σ H,⟨n,by simp,Nat.zero_le _,h0⟩,?_⟩
 rintro i m σ H ⟨rfl,hi,p⟩
 by_cases hlt:i<n
 ·refine .inr ⟨hlt,Pv (i+1),fun σ' H' p'=>⟨n-(i+1),by omega,rfl,hlt,p'⟩,fun x H' y=>?_⟩
  obtain ⟨e,y⟩:=y
  subst e y
  exact hs i σ _ hlt p
 ·have e:i=n:=by omega
  subst e
  exact .inl ⟨Nat.le_refl _,hd σ H p⟩
end L2
namespace L2
open PySem PySem.Spec PyProof.Rows
noncomputable abbrev R2:=V→V→Hp→VK→Prop
noncomputable def Ca (X:Cx) (f:Value→Value→Sem Value) (r:R2):Prop:=
 ∀(pins:List (Addr×Obj)) (s:Shared) (σ:St) (H:Hp) (x y:V) (v u:Value) (Q:VK),Inv X pins σ H s→RelV x v→RelV y u→r x y H Q→
  wpAny (model X.prog X.w) X.A (f v u) (EP X pins σ Q) X.xe s
noncomputable def UnR (X:Cx) (f:Value→Sem Value) (r:V→Hp→VK→Prop):Prop:=
 ∀(pins:List (Addr×Obj)) (s:Shared) (σ:St) (H:Hp) (x:V) (v:Value) (Q:VK),Inv X pins σ H s→RelV x v→r x H Q→
  wpAny (model X.prog X.w) X.A (f v) (EP X pins σ Q) X.xe s
noncomputable def Cd (X:Cx) (f:Value) (r:List V→Hp→VK→Prop):Prop:=
 ∀(pins:List (Addr×Obj)) (s:Shared) (σ:St) (H:Hp) (xs:List V) (us:List Value) (Q:VK),Inv X pins σ H s→Vals xs us→r xs H Q→
  wpAny (model X.prog X.w) X.A (call f us) (EP X pins σ Q) X.xe s
noncomputable def tOp (r:R2) (ta tb:TE):TE:=fun σ H Q=>ta σ H fun x H1=>tb σ H1 fun y H2=>r x y H2 Q
noncomputable def tUn (r:V→Hp→VK→Prop) (ta:TE):TE:=fun σ H Q=>ta σ H fun x H1=>r x H1 Q
noncomputable def rI (C:Int→Int→Prop) (g:Int→Int→V):R2:=fun x y H Q=>∃i j,x=.int i∧y=.int j∧C i j∧Q (g i j) H
noncomputable def rI0 (g:Int→Int→V):R2:=fun x y H Q=>∃i j,x=.int i∧y=.int j∧Q (g i j) H
noncomputable def rU (g:Int→V):V→Hp→VK→Prop:=fun x H Q=>∃i,x=.int i∧Q (g i) H
section
variable {X:Cx} {a b c:Expr} {ta tb tc:TE} {pos:Pos}
theorem ad5 (ha:PE X a ta) (hb:PE X b tb) {pins:List (Addr×Obj)} {s:Shared} {σ:St} {H:Hp} {R:V→V→Hp→Prop} (I:Inv X pins σ H s)
  (h:ta σ H fun x H1=>tb σ H1 fun y H2=>R x y H2) {Q:Value→Shared→Prop} {f:Value→Value→Sem Value}
  (hf:∀v u s2 x y H2,Inv X pins σ H2 s2→RelV x v→RelV y u→R x y H2→wpAny (model X.prog X.w) X.A (f v u) Q X.xe s2) :
  wpAny (model X.prog X.w) X.A (eval a X.env) (fun v s₁=>wpAny (model X.prog X.w) X.A (eval b X.env) (fun u s₂=>wpAny (model X.prog X.w) X.A (f v u) Q X.xe s₂) X.xe s₁) X.xe s:=by
 refine fW (ha pins s σ H _ I h) fun v s1 ⟨x,H1,I1,r1,q1⟩=>?_
 refine fW (hb pins s1 σ H1 _ I1 q1) fun u s2 ⟨y,H2,I2,r2,q2⟩=>?_
 exact hf v u s2 x y H2 I2 r1 r2 q2
theorem bU {op:Operator} {r:R2} (ho:Ca X (binaryOp op) r) (ha:PE X a ta) (hb:PE X b tb):PE X (.BinOp a op b pos) (tOp r ta tb):=by
 intro pins s σ H Q I h
 exact wpAny_BinOp (ad5 ha hb I h fun v u s2 x y H2 I2 rx ry q=>ho pins s2 σ H2 x y v u Q I2 rx ry q)
theorem o8 {op:UnaryOp} {r:V→Hp→VK→Prop} (ho:UnR X (unaryOp op) r) (ha:PE X a ta):PE X (.UnaryOp op a pos) (tUn r ta):=by
 intro pins s σ H Q I h
 exact UnaryOp_ (fW (ha pins s σ H _ I h) fun v s1 ⟨x,H1,I1,r1,q1⟩=>ho pins s1 σ H1 x v Q I1 r1 q1)
theorem opI {f:Value→Value→Sem Value} {C:Int→Int→Prop} {g:Int→Int→Int}
  (rule:∀(i j:Int) (t u:Tok) (s:Shared) (Q:Value→Shared→Prop) (E:Value→Shared→Prop),C i j→Q (.int (g i j) s.toks) { s with toks:=s.toks+1 }→wpAny (model X.prog X.w) X.A (f (.int i t) (.int j u)) Q E s) :
  Ca X f (rI C fun i j=>.int (g i j)):=by
 intro pins s σ H x y v u Q I rx ry h
 obtain ⟨i,j,rfl,rfl,hc,q⟩:=h
 obtain ⟨t,rfl⟩:=rx
 obtain ⟨t',rfl⟩:=ry
 exact rule i j t t' s _ _ hc ⟨.int (g i j),H,I.tok _,⟨_,rfl⟩,q⟩
theorem afF {f:Value→Value→Sem Value} {g:Int→Int→Int}
  (rule:∀(i j:Int) (t u:Tok) (s:Shared) (Q:Value→Shared→Prop) (E:Value→Shared→Prop),Q (.int (g i j) s.toks) { s with toks:=s.toks+1 }→wpAny (model X.prog X.w) X.A (f (.int i t) (.int j u)) Q E s) :
  Ca X f (rI0 fun i j=>.int (g i j)):=by
 intro pins s σ H x y v u Q I rx ry h
 obtain ⟨i,j,rfl,rfl,q⟩:=h
 obtain ⟨t,rfl⟩:=rx
 obtain ⟨t',rfl⟩:=ry
 exact rule i j t t' s _ _ ⟨.int (g i j),H,I.tok _,⟨_,rfl⟩,q⟩
theorem acs {f:Value→Value→Sem Value} {g:Int→Int→Bool}
  (rule:∀(i j:Int) (t u:Tok) (s:Shared) (Q:Value→Shared→Prop) (E:Value→Shared→Prop),Q (.bool (g i j)) s→wpAny (model X.prog X.w) X.A (f (.int i t) (.int j u)) Q E s) :
  Ca X f (rI0 fun i j=>.bl (g i j)):=by
 intro pins s σ H x y v u Q I rx ry h
 obtain ⟨i,j,rfl,rfl,q⟩:=h
 obtain ⟨t,rfl⟩:=rx
 obtain ⟨t',rfl⟩:=ry
 exact rule i j t t' s _ _ ⟨.bl (g i j),H,I,rfl,q⟩
noncomputable def zW (i j:Int):Prop:=(-(2 ^ 64)<i∧i<2 ^ 64)∨(-(2 ^ 64)<j∧j<2 ^ 64)
theorem zW.ok {i j:Int} (h:zW i j):IntMulOk i j:=by
 rcases h with ⟨h1,h2⟩ | ⟨h1,h2⟩
 ·exact .of_left (intBits_le_64 h1 h2)
 ·exact .of_right (intBits_le_64 h1 h2)
theorem d8:Ca X (binaryOp .Add) (rI0 fun i j=>.int (i+j)):=afF fun _ _ _ _ _ _ _ q=>add_int q
theorem dh:Ca X (binaryOp .Sub) (rI0 fun i j=>.int (i-j)):=afF fun _ _ _ _ _ _ _ q=>sub_int q
theorem qT:Ca X (binaryOp .Mult) (rI zW fun i j=>.int (i*j)):=opI fun _ _ _ _ _ _ _ hc q=>mul_int q hc.ok
theorem ad6:Ca X (binaryOp .Mod) (rI (fun _ j=>0<j) fun i j=>.int (i % j)):=opI fun i j _ _ _ _ _ hc q=>by
 have h1:(0:Int)<j:=hc
 exact mod_int' (by omega) (by rw [Int.fmod_eq_emod_of_nonneg i (by omega)];exact q)
theorem unI {f:Value→Sem Value} {g:Int→Int}
  (rule:∀(i:Int) (t:Tok) (s:Shared) (Q:Value→Shared→Prop) (E:Value→Shared→Prop),Q (.int (g i) s.toks) { s with toks:=s.toks+1 }→wpAny (model X.prog X.w) X.A (f (.int i t)) Q E s) :
  UnR X f (rU fun i=>.int (g i)):=by
 intro pins s σ H x v Q I rx h
 obtain ⟨i,rfl,q⟩:=h
 obtain ⟨t,rfl⟩:=rx
 exact rule i t s _ _ ⟨.int (g i),H,I.tok _,⟨_,rfl⟩,q⟩
theorem jj:UnR X (unaryOp .USub) (rU fun i=>.int (-i)):=unI fun _ _ _ _ _ q=>neg_int q
end
noncomputable def aa1:V→V→Bool
 | .non,.non=>true | .non,.int _=>true | .int _,.non=>true | .non,.bl _=>true | .bl _,.non=>true | .non,.str _=>true | .str _,.non=>true
 | .int _,.int _=>true | .bl _,.bl _=>true | .str _,.str _=>true | .V0 _,.V0 _=>true
 | .int _,.str _=>true | .str _,.int _=>true | .bl _,.str _=>true | .str _,.bl _=>true
 | _,_=>false
noncomputable def rEq:R2:=fun x y H Q=>aa1 x y=true∧Q (.bl (decide (x=y))) H
noncomputable def rNe:R2:=fun x y H Q=>aa1 x y=true∧Q (.bl (!decide (x=y))) H
theorem Ye {i j:Int}:decide (V.int i=V.int j)=(i == j):=by
 rw [Bool.eq_iff_iff]
 simp
theorem aa2 {i j:Bool}:decide (V.bl i=V.bl j)=(i == j):=by
 rw [Bool.eq_iff_iff]
 simp
theorem Yg {i j:Str}:decide (V.str i=V.str j)=(i == j):=by
 rw [Bool.eq_iff_iff]
 simp
theorem Yh {i j:Array UInt8}:decide (V.V0 i=V.V0 j)=(i.toList == j.toList):=by
 rw [Bool.eq_iff_iff]
 cases i
 cases j
 simp
section
variable {X:Cx} {a b c:Expr} {ta tb tc:TE} {pos:Pos}
theorem cU {pins:List (Addr×Obj)} {σ:St} {H:Hp} {s:Shared} {Q:VK} {k k':Bool} (I:Inv X pins σ H s) (q:Q (.bl k) H) (e:k=k'):EP X pins σ Q (.bool k') s:=by
 subst e
 exact ⟨.bl k,H,I,rfl,q⟩
theorem uQ:Ca X (compareOp .Eq) rEq:=by
 intro pins s σ H x y v u Q I rx ry h
 obtain ⟨hs,q⟩:=h
 cases x with
 | non=>
  cases rx
  cases y with
  | non=>cases ry;exact PySem.EqNone.eq_none_none (cU I q (by simp))
  | bl j=>cases ry;exact PySem.EqNone.eq_none_bool (cU I q (by simp))
  | int j=>obtain ⟨t',rfl⟩:=ry;exact PySem.EqNone.eq_none_int (cU I q (by simp))
  | str j=>obtain ⟨t',rfl⟩:=ry;exact PySem.EqNone.eq_none_str (cU I q (by simp))
  | _=>exact absurd (show false=true from hs) Bool.false_ne_true
 | bl i=>
  cases rx
  cases y with
  | non=>cases ry;exact PySem.EqNone.eq_bool_none (cU I q (by simp))
  | bl j=>cases ry;exact eq_bool (cU I q aa2)
  | str j=>obtain ⟨t',rfl⟩:=ry;exact PySem.EqMixed.eq_bool_str (cU I q (by simp))
  | _=>exact absurd (show false=true from hs) Bool.false_ne_true
 | int i=>
  obtain ⟨t,rfl⟩:=rx
  cases y with
  | non=>cases ry;exact PySem.EqNone.eq_int_none (cU I q (by simp))
  | int j=>obtain ⟨t',rfl⟩:=ry;exact eq_int (cU I q Ye)
  | str j=>obtain ⟨t',rfl⟩:=ry;exact PySem.EqMixed.eq_int_str (cU I q (by simp))
  | _=>exact absurd (show false=true from hs) Bool.false_ne_true
 | str i=>
  obtain ⟨t,rfl⟩:=rx
  cases y with
  | non=>cases ry;exact PySem.EqNone.eq_str_none (cU I q (by simp))
  | bl j=>cases ry;exact PySem.EqMixed.eq_str_bool (cU I q (by simp))
  | int j=>obtain ⟨t',rfl⟩:=ry;exact PySem.EqMixed.eq_str_int (cU I q (by simp))
  | str j=>obtain ⟨t',rfl⟩:=ry;exact eq_str (cU I q Yg)
  | _=>exact absurd (show false=true from hs) Bool.false_ne_true
 | V0 i=>
  obtain ⟨t,rfl⟩:=rx
  cases y with
  | V0 j=>obtain ⟨t',rfl⟩:=ry;exact PySem.W.eq_bytes (cU I q Yh)
  | _=>exact absurd (show false=true from hs) Bool.false_ne_true
 | _=>cases y<;>exact absurd (show false=true from hs) Bool.false_ne_true
theorem Uo:Ca X (compareOp .NotEq) rNe:=by
 intro pins s σ H x y v u Q I rx ry h
 obtain ⟨hs,q⟩:=h
 cases x with
 | non=>
  cases rx
  cases y with
  | non=>cases ry;exact PySem.EqNone.ne_none_none (cU I q (by simp))
  | bl j=>cases ry;exact PySem.EqNone.ne_none_bool (cU I q (by simp))
  | int j=>obtain ⟨t',rfl⟩:=ry;exact PySem.EqNone.ne_none_int (cU I q (by simp))
  | str j=>obtain ⟨t',rfl⟩:=ry;exact PySem.EqNone.ne_none_str (cU I q (by simp))
  | _=>exact absurd (show false=true from hs) Bool.false_ne_true
 | bl i=>
  cases rx
  cases y with
  | non=>cases ry;exact PySem.EqNone.ne_bool_none (cU I q (by simp))
  | bl j=>cases ry;exact ne_bool (cU I q (congrArg not aa2))
  | str j=>obtain ⟨t',rfl⟩:=ry;exact PySem.EqMixed.ne_bool_str (cU I q (by simp))
  | _=>exact absurd (show false=true from hs) Bool.false_ne_true
 | int i=>
  obtain ⟨t,rfl⟩:=rx
  cases y with
  | non=>cases ry;exact PySem.EqNone.ne_int_none (cU I q (by simp))
  | int j=>obtain ⟨t',rfl⟩:=ry;exact ne_int (cU I q (congrArg not Ye))
  | str j=>obtain ⟨t',rfl⟩:=ry;exact PySem.EqMixed.ne_int_str (cU I q (by simp))
  | _=>exact absurd (show false=true from hs) Bool.false_ne_true
 | str i=>
  obtain ⟨t,rfl⟩:=rx
  cases y with
  | non=>cases ry;exact PySem.EqNone.ne_str_none (cU I q (by simp))
  | bl j=>cases ry;exact PySem.EqMixed.ne_str_bool (cU I q (by simp))
  | int j=>obtain ⟨t',rfl⟩:=ry;exact PySem.EqMixed.ne_str_int (cU I q (by simp))
  | str j=>obtain ⟨t',rfl⟩:=ry;exact ne_str (cU I q (congrArg not Yg))
  | _=>exact absurd (show false=true from hs) Bool.false_ne_true
 | V0 i=>
  obtain ⟨t,rfl⟩:=rx
  cases y with
  | V0 j=>obtain ⟨t',rfl⟩:=ry;exact PySem.W.ne_bytes (cU I q (congrArg not Yh))
  | _=>exact absurd (show false=true from hs) Bool.false_ne_true
 | _=>cases y<;>exact absurd (show false=true from hs) Bool.false_ne_true
theorem qU:Ca X (compareOp .Lt) (rI0 fun i j=>.bl (decide (i<j))):=acs fun _ _ _ _ _ _ _ q=>lt_int q
theorem lM:Ca X (compareOp .LtE) (rI0 fun i j=>.bl (decide (i≤j))):=acs fun _ _ _ _ _ _ _ q=>le_int q
theorem xm:Ca X (compareOp .Gt) (rI0 fun i j=>.bl (decide (j<i))):=acs fun _ _ _ _ _ _ _ q=>gt_int q
theorem Up:Ca X (compareOp .GtE) (rI0 fun i j=>.bl (decide (j≤i))):=acs fun _ _ _ _ _ _ _ q=>ge_int q
theorem tW:Ca X (compareOp .Is) (fun x y H Q=>y=.non∧Q (.bl (decide (x=.non))) H):=by
 intro pins s σ H x y v u Q I rx ry h
 obtain ⟨rfl,q⟩:=h
 cases ry
 refine is_none_gen (cU I q ?_)
 cases x<;>first
  | (cases rx;rfl)
  | (obtain ⟨t,rfl⟩:=rx;rfl)
theorem Jc:Ca X (compareOp .IsNot) (fun x y H Q=>y=.non∧Q (.bl (!decide (x=.non))) H):=by
 intro pins s σ H x y v u Q I rx ry h
 obtain ⟨rfl,q⟩:=h
 cases ry
 refine isnot_none_gen (cU I q ?_)
 cases x<;>first
  | (cases rx;rfl)
  | (obtain ⟨t,rfl⟩:=rx;rfl)
theorem bQ (b:Expr) {op:CmpOp} (h:op≠.In:=by decide) (h2:op≠.NotIn:=by decide):behindInMarks op b=false:=by
 have e1:(op == CmpOp.In)=false:=by cases op<;>first | rfl | exact absurd rfl h
 have e2:(op == CmpOp.NotIn)=false:=by cases op<;>first | rfl | exact absurd rfl h2
 cases b<;>simp [behindInMarks,e1,e2]
theorem fQ {op:CmpOp} {r:R2} (ho:Ca X (compareOp op) r) (ha:PE X a ta) (hb:PE X b tb) (hm:behindInMarks op b=false):PE X (.Compare a [op] [b] pos) (tOp r ta tb):=by
 intro pins s σ H Q I h
 exact wpAny_Compare1 (ad5 ha hb I h fun v u s2 x y H2 I2 rx ry q=>ho pins s2 σ H2 x y v u Q I2 rx ry q) hm
noncomputable def Qh (t:TE):TT:=fun σ H Q=>t σ H fun x H'=>∃k,x=.bl k∧Q k H'
theorem bV {op:CmpOp} {r:R2} (ho:Ca X (compareOp op) r) (ha:PE X a ta) (hb:PE X b tb) (hm:behindInMarks op b=false):PT X (.Compare a [op] [b] pos) (Qh (tOp r ta tb)):=by
 intro pins s σ H Q I h
 refine wpAny_isTrue_Compare1 (fW (ha pins s σ H _ I h) fun v s1 ⟨x,H1,I1,r1,q1⟩=>fW (hb pins s1 σ H1 _ I1 q1) fun u s2 ⟨y,H2,I2,r2,q2⟩=>
  fW (ho pins s2 σ H2 x y v u _ I2 r1 r2 q2) fun c s3 ⟨z,H3,I3,r3,k,e,q3⟩=>?_) hm
 subst e
 cases r3
 exact wpAny_truthy_bool ⟨H3,I3,q3⟩
noncomputable def JX (r r':R2) (ta tb tc:TE):TE:=fun σ H Q=>ta σ H fun x H1=>tb σ H1 fun y H2=>r x y H2 fun z H3=>∃k,z=.bl k∧
 (if k=true then tc σ H3 fun w' H4=>r' y w' H4 Q else Q (.bl false) H3)
theorem o9 {op op':CmpOp} {r r':R2} (ho:Ca X (compareOp op) r) (ho':Ca X (compareOp op') r') (ha:PE X a ta) (hb:PE X b tb) (hc:PE X c tc)
  (hm:lastMarks [op,op'] [b,c]=false:=by with_unfolding_all rfl):PE X (.Compare a [op,op'] [b,c] pos) (JX r r' ta tb tc):=by
 intro pins s σ H Q I h
 refine Compare_chain (fW (ha pins s σ H _ I h) fun v s1 ⟨x,H1,I1,r1,q1⟩=>chain_link (fW (hb pins s1 σ H1 _ I1 q1) fun u s2 ⟨y,H2,I2,r2,q2⟩=>
  fW (ho pins s2 σ H2 x y v u _ I2 r1 r2 q2) fun d s3 ⟨z,H3,I3,r3,k,e,q3⟩=>?_)) hm
 subst e
 cases r3
 refine wpAny_truthy_bool ?_
 cases k with
 | false=>exact ite_ff ⟨.bl false,H3,I3,rfl,q3⟩
 | true=>exact ite_tt (chain_last (fW (hc pins s3 σ H3 _ I3 q3) fun w' s4 ⟨z',H4,I4,r4,q4⟩=>ho' pins s4 σ H4 y z' u w' Q I4 r2 r4 q4))
theorem JZ {op op':CmpOp} {r r':R2} (ho:Ca X (compareOp op) r) (ho':Ca X (compareOp op') r') (ha:PE X a ta) (hb:PE X b tb) (hc:PE X c tc)
  (hm:lastMarks [op,op'] [b,c]=false:=by with_unfolding_all rfl):PT X (.Compare a [op,op'] [b,c] pos) (Qh (JX r r' ta tb tc)):=by
 intro pins s σ H Q I h
 refine isTrue_chain (fW (ha pins s σ H _ I h) fun v s1 ⟨x,H1,I1,r1,q1⟩=>test_link (fW (hb pins s1 σ H1 _ I1 q1) fun u s2 ⟨y,H2,I2,r2,q2⟩=>
  fW (ho pins s2 σ H2 x y v u _ I2 r1 r2 q2) fun d s3 ⟨z,H3,I3,r3,k,e,q3⟩=>?_)) hm
 subst e
 cases r3
 refine wpAny_truthy_bool ?_
 cases k with
 | false=>
  obtain ⟨k',e',q'⟩:=q3
  cases e'
  exact ite_ff ⟨H3,I3,q'⟩
 | true=>
  refine ite_tt (test_last (fW (hc pins s3 σ H3 _ I3 q3) fun w' s4 ⟨z',H4,I4,r4,q4⟩=>fW (ho' pins s4 σ H4 y z' u w' _ I4 r2 r4 q4) fun d' s5 ⟨z2,H5,I5,r5,k2,e2,q5⟩=>?_))
  subst e2
  cases r5
  exact wpAny_truthy_bool ⟨H5,I5,q5⟩
theorem Ri:(sizeLine:Nat)<2 ^ 63:=by rw [sizeLine_eq];decide
theorem vals1 {x:V} {us:List Value} (r:Vals [x] us):∃u,us=[u]∧RelV x u:=by
 cases r with
 | cons r1 r2=>cases r2;exact ⟨_,rfl,r1⟩
theorem vals2 {x y:V} {us:List Value} (r:Vals [x,y] us):∃u w',us=[u,w']∧RelV x u∧RelV y w':=by
 cases r with
 | cons r1 r2=>
  cases r2 with
  | cons r3 r4=>cases r4;exact ⟨_,_,rfl,r1,r3⟩
theorem Eo (hc:X.calm=true):Cd X (.builtin "max") (fun xs H Q=>∃i j,xs=[.int i,.int j]∧Q (.int (if j>i then j else i)) H):=by
 intro pins s σ H xs us Q I r h
 obtain ⟨i,j,rfl,q⟩:=h
 obtain ⟨u,w',rfl,⟨t,rfl⟩,⟨t',rfl⟩⟩:=vals2 r
 refine max_two_ints (I.ok.hd hc) fun h' tk k=>⟨_,H,I.kept k,?_,q⟩
 by_cases hj:j>i
 ·rw [if_pos hj,if_pos hj];exact ⟨_,rfl⟩
 ·rw [if_neg hj,if_neg hj];exact ⟨_,rfl⟩
theorem Qi (hc:X.calm=true):Cd X (.builtin "min") (fun xs H Q=>∃i j,xs=[.int i,.int j]∧Q (.int (if j<i then j else i)) H):=by
 intro pins s σ H xs us Q I r h
 obtain ⟨i,j,rfl,q⟩:=h
 obtain ⟨u,w',rfl,⟨t,rfl⟩,⟨t',rfl⟩⟩:=vals2 r
 refine min_two_ints (I.ok.hd hc) fun h' tk k=>⟨_,H,I.kept k,?_,q⟩
 by_cases hj:j<i
 ·rw [if_pos hj,if_pos hj];exact ⟨_,rfl⟩
 ·rw [if_neg hj,if_neg hj];exact ⟨_,rfl⟩
end
end L2
namespace L2
open PySem PySem.Spec PyProof.Rows
structure Wm (h:Heap) (x dx C:Addr) (mA:Str→Option Value):Prop where
 obj:h.get? x=some (PySem.W.instObj C dx)
 ns:h.Ns1 dx mA
 ne:dx≠x
theorem Zh {h:Heap} {dx:Addr} {mA:Str→Option Value} (n:h.Ns1 dx mA):∃od,h.get? dx=some od∧∀name,PySem.W.lookIn name od=some (mA name):=by
 obtain ⟨o,es,ep,ho,hd,hk,_,hm⟩:=n
 refine ⟨o,ho,fun name=>?_⟩
 have e:=hm name
 unfold nsFind findBy at e
 rw [←Array.find?_toList]at e
 unfold PySem.W.lookIn
 rw [hd]
 dsimp only
 split
 ·rename_i y q
  rw [q]at e
  exact congrArg some e
 ·rename_i q
  rw [q]at e
  have a:es.toList.any (·.refKey)=false:=by
   rw [List.any_eq_false]
   intro y hy
   obtain ⟨z,t,hkey⟩:=hk y (Array.mem_toList_iff.mp hy)
   simp [DictEntry.refKey,hkey]
  have a':¬es.toList.any (·.refKey)=true:=by rw [a];exact Bool.false_ne_true
  rw [if_neg a']
  exact congrArg some e
theorem Wm.look {h:Heap} {x dx C:Addr} {mA:Str→Option Value} (I:Wm h x dx C mA):∃od,PySem.W.InstAt h x (PySem.W.instObj C dx) C (some od)∧∀name,PySem.W.lookIn name od=some (mA name):=
 let ⟨od,ho,hl⟩:=Zh I.ns
 ⟨od,⟨I.obj,rfl,rfl,ho⟩,hl⟩
section
variable {prog:Program} {w:World} {A:Around} {E:Value→Shared→Prop} {s:Shared} {K:PySem.W.Frag} {x dx C f:Addr} {mA:Str→Option Value} {name:Str} {v:Value}
theorem get_map {expr:Bool} {Q:Value→Shared→Prop} (X:K.In s.heap) (I:Wm s.heap x dx C mA) (hg:PySem.W.plainGet K C name=true) (hh:PySem.W.hasDictIn K C=true)
  (ha:PySem.W.findIn K (.ref C) name=some none) (hv:mA name=some v) (hv':PySem.W.handedIn v=true) (h:Q v { s with toks:=s.toks+1 }) :
  wpAny (model prog w) A (getAttr (.ref x) name expr) Q E s:=by
 obtain ⟨od,J,hl⟩:=I.look
 exact PySem.W.get_value X J (PySem.W.plainGet_of hg).1 (PySem.W.findObj_own hh ha rfl (by rw [hl,hv])) hv' h
theorem aa3 {pl:Sem Bool} {Q:Value×List Value→Shared→Prop} (X:K.In s.heap) (I:Wm s.heap x dx C mA) (hg:PySem.W.plainGet K C name=true)
  (hf:PySem.W.findIn K (.ref C) name=some (some (.ref f))) (ht:PySem.W.isFn K (.ref f)=true) (hv:mA name=none) (h:Q (.ref f,[.ref x]) s) :
  wpAny (model prog w) A (getMethod (.ref x) name pl) Q E s:=by
 obtain ⟨od,J,hl⟩:=I.look
 exact PySem.W.method_fn X J (PySem.W.plainGet_of hg).1 (PySem.W.plainGet_of hg).2 hf (beq_iff_eq.mp ht) (by show (PySem.W.lookIn name od).map (·.isSome)=some false;rw [hl,hv];rfl) h
theorem acu {ns:List Str} {Q:Unit→Shared→Prop} (X:K.In s.heap) (I:Wm s.heap x dx C mA)
  (hs:PySem.W.findIn K (.ref C) "__setattr__" = some (some (.builtin "object.__setattr__"))) (hp:PySem.W.plainOver K C=true) (ht:PySem.W.takerIn K C name=some none) (hh:PySem.W.hasDictIn K C=true)
  (hw:PySem.Within mA ns) (hsz:ns.length≤sizeLine)
  (h:∀h',Wm h' x dx C (fun y=>if y=name then some v else mA y)→Heap.SameBut dx s.heap h'→Q () { s with heap:=h',toks:=s.toks+2 }) :
  wpAny (model prog w) A (setAttr (.ref x) name v) Q E s:=by
 obtain ⟨od,J,hl⟩:=I.look
 refine PySem.W.set_plain X J hs (PySem.W.osa_open (s:={ s with toks:=s.toks+1 }) (r:=none) X J hp ht fun b=>?_)
 obtain ⟨cd,hc,hd'⟩:=PySem.W.any_some hh
 have hx:s.heap.get? x=some ⟨.ref C,some dx,.plain,#[]⟩:=I.obj
 refine wpAny_bind (wpAny_pure (wpAny_bind (wpAny_bind (wpAny_loadPart hx (wpAny_bind (PySem.W.Looks.here (s:={ s with toks:=s.toks+1 }) (PySem.W.looks_clsIn X hc) ?_))))))
 rw [hd']
 refine wpAny_pure (a:=some dx) (wpAny_bind (wpAny_pure (wpAny_bind ?_)))
 refine wpAny_nsSet1 (s:={ s with toks:=s.toks+1 }) I.ns fun h' hn2 hs2=>?_
 obtain ⟨oD,esD,epD,hoD,hdD,hcD⟩:=hn2.count (PySem.Within.cons name v hw)
 refine wpAny_bind (wpAny_lookBehind hoD (by rw [hdD];exact pastItsLine_dict (Nat.le_trans hcD (by rw [List.length_cons];omega))) ?_)
 exact wpAny_pure (h _ ⟨(hs2.2 _ (Ne.symm I.ne)).trans I.obj,hn2,I.ne⟩ hs2)
theorem aa4 {R:Result→Shared→Prop} {vs:List Value} {kw:List (Str×Value)} (X:K.In s.heap) (hm:PySem.W.makesIn K C=true)
  (hi:PySem.W.findIn K (.ref C) "__init__" = some (some (.ref f))) (hf:PySem.W.typeIn K (.ref f)=some (.type "function"))
  (h:codeAny (model prog w) (A.under (.builtin "type.__call__" ⟨.ref C::vs,kw⟩)) (.call (.ref f) ⟨.ref (s.heap.objs.size+1)::vs,kw⟩) (PySem.W.InitBack (s.heap.objs.size+1) R)
   { s with heap:=(s.heap.push PySem.W.emptyDict).push (PySem.W.instObj C s.heap.objs.size) }) :
  codeAny (model prog w) A (.call (.ref C) ⟨vs,kw⟩) R s:=by
 obtain ⟨hh,g,d,t,os⟩:=s
 exact PySem.W.make_core (PySem.W.makes_of X hm) (PySem.W.looks_findIn X hi) (fun self=>PySem.W.bind_fn X self hf) (.inl rfl) h
end
noncomputable def gf (f:Str) (v:V):List (Str×V)→List (Str×V)
 | []=>[(f,v)]
 | (g,x)::r=>if g=f then (g,v)::r else (g,x)::gf f v r
theorem G5 (f g:Str) (v:V):∀fs:List (Str×V),(gf f v fs).lookup g=if g=f then some v else fs.lookup g
 | []=>by
  show List.lookup g [(f,v)]=_
  by_cases h:g=f
  ·have hb:(g == f)=true:=beq_iff_eq.mpr h
   simp only [List.lookup,hb,if_pos h]
  ·have hb:(g == f)=false:=beq_eq_false_iff_ne.mpr h
   simp only [List.lookup,hb,if_neg h]
 | (k,x)::r=>by
  have ih:=G5 f g v r
  rw [show gf f v ((k,x)::r)=(if k=f then (k,v)::r else (k,x)::gf f v r) from rfl]
  by_cases hk:k=f
  ·rw [if_pos hk]
   by_cases h:g=k
   ·have hb:(g == k)=true:=beq_iff_eq.mpr h
    simp only [List.lookup,hb,if_pos (h.trans hk)]
   ·have hb:(g == k)=false:=beq_eq_false_iff_ne.mpr h
    simp only [List.lookup,hb,if_neg (fun e:g=f=>h (e.trans hk.symm))]
  ·rw [if_neg hk]
   by_cases h:g=k
   ·have hb:(g == k)=true:=beq_iff_eq.mpr h
    simp only [List.lookup,hb,if_neg (fun e:g=f=>hk (h.symm.trans e))]
   ·have hb:(g == k)=false:=beq_eq_false_iff_ne.mpr h
    simp only [List.lookup,hb]
    exact ih
theorem Ep (f:Str) (v:V):∀fs:List (Str×V),f∈(gf f v fs).map (·.1)∧∀g,g∈fs.map (·.1)→g∈(gf f v fs).map (·.1)
 | []=>⟨by simp [gf],fun g h=>by simp at h⟩
 | (k,x)::r=>by
  obtain ⟨i1,i2⟩:=Ep f v r
  rw [show gf f v ((k,x)::r)=(if k=f then (k,v)::r else (k,x)::gf f v r) from rfl]
  by_cases hk:k=f
  ·rw [if_pos hk]
   subst hk
   exact ⟨by simp,fun g h=>by simpa using h⟩
  ·rw [if_neg hk]
   refine ⟨?_,fun g h=>?_⟩
   ·rw [List.map_cons]
    exact List.mem_cons_of_mem _ i1
   ·rw [List.map_cons]at h ⊢
    rcases List.mem_cons.mp h with e | e
    ·exact List.mem_cons.mpr (.inl e)
    ·exact List.mem_cons_of_mem _ (i2 g e)
theorem dH (f:Str) (v:V):∀fs:List (Str×V),(gf f v fs).length≤fs.length+1
 | []=>by simp [gf]
 | (k,x)::r=>by
  have ih:=dH f v r
  rw [show gf f v ((k,x)::r)=(if k=f then (k,v)::r else (k,x)::gf f v r) from rfl]
  by_cases hk:k=f
  ·rw [if_pos hk,List.length_cons,List.length_cons];omega
  ·rw [if_neg hk,List.length_cons,List.length_cons];omega
theorem Nm.some_of {v:V} {o:Option Value} (r:Nm (some v) o):∃u,o=some u∧RelV v u:=by
 cases o with
 | none=>exact (show False from r).elim
 | some u=>exact ⟨u,rfl,r⟩
theorem Nm.none_of {o:Option Value} (r:Nm none o):o=none:=by
 cases o with
 | none=>rfl
 | some u=>exact (show False from r).elim
theorem Zi {v:V} {u:Value} (r:RelV v u):PySem.W.handedIn u=true:=by
 cases v with
 | non=>cases (show u=Value.none from r);rfl
 | bl b=>cases (show u=Value.bool b from r);rfl
 | int i=>obtain ⟨t,e⟩:=(show ∃t,u=Value.int i t from r);cases e;rfl
 | str x=>obtain ⟨t,e⟩:=(show ∃t,u=Value.str x t from r);cases e;rfl
 | V0 b=>obtain ⟨t,e⟩:=(show ∃t,u=Value.bytes b t from r);cases e;rfl
 | flt b=>obtain ⟨t,e⟩:=(show ∃t,u=Value.float b t from r);cases e;rfl
 | ref a=>cases (show u=Value.ref a from r);rfl
 | ty n=>cases (show u=Value.type n from r);rfl
section
variable {P:Program} {w:World} {H H':Hp} {h h':Heap} {a C dx:Addr} {fs fs':List (Str×V)}
theorem Rj (hok:zg P w H h) (e:H a=some (.ins C dx fs)):∃mA,Wm h a dx C mA∧(∀f,Nm (fs.lookup f) (mA f))∧PySem.Within mA (fs.map (·.1))∧fs.length≤1000∧H dx=some (.own a):=by
 obtain ⟨d,z,ne,ob,mA,n,r,q⟩:=(show mV P w H h a (.ins C dx fs) from hok a _ e)
 exact ⟨mA,⟨ob,n,ne⟩,r,q,z,d⟩
end
structure Uq (K:PySem.W.Frag) (C:Addr):Prop where
 pg:PySem.W.plainGet K C Str.empty=true
 hd:PySem.W.hasDictIn K C=true
 po:PySem.W.plainOver K C=true
 sa:PySem.W.findIn K (.ref C) "__setattr__" = some (some (.builtin "object.__setattr__"))
theorem Uq.get {K:PySem.W.Frag} {C:Addr} (c:Uq K C) (f:Str):PySem.W.plainGet K C f=true:=c.pg
noncomputable def gV (K:PySem.W.Frag) (C:Addr) (f:Str):Prop:=PySem.W.findIn K (.ref C) f=some none
theorem gV.taker {K:PySem.W.Frag} {C:Addr} {f:Str} (n:gV K C f):PySem.W.takerIn K C f=some none:=by
 unfold PySem.W.takerIn
 rw [show PySem.W.findIn K (.ref C) f=some none from n]
 rfl
structure Meth (K:PySem.W.Frag) (C:Addr) (m:Str) (f:Addr):Prop where
 at_:PySem.W.findIn K (.ref C) m=some (some (.ref f))
 fn:PySem.W.isFn K (.ref f)=true
 kp:PySem.W.keepIn K (.ref f)=true
section
variable {X:Cx} {pins:List (Addr×Obj)} {σ:St} {H:Hp} {s:Shared} {a C dx:Addr} {fs:List (Str×V)} {f:Str} {v:V} {A:Around} {E:Value→Shared→Prop}
theorem Wn {b:Bool} {Q:Value→Shared→Prop} (I:Inv X pins σ H s) (e:H a=some (.ins C dx fs)) (c:Uq X.K C) (n:gV X.K C f) (l:fs.lookup f=some v)
  (h:∀u s',Inv X pins σ H s'→RelV v u→Q u s'):wpAny (model X.prog X.w) A (getAttr (.ref a) f b) Q E s:=by
 obtain ⟨mA,O,r,_,_,_⟩:=Rj I.hok e
 obtain ⟨u,hu,ru⟩:=Nm.some_of (v:=v) (o:=mA f) (by rw [←l];exact r f)
 exact get_map I.Tt O (c.get f) c.hd n hu (Zi ru) (h u _ (I.tok _) ru)
theorem zX {m:Str} {g:Addr} {pl:Sem Bool} {Q:Value×List Value→Shared→Prop} (I:Inv X pins σ H s) (e:H a=some (.ins C dx fs)) (c:Uq X.K C) (k:Meth X.K C m g) (l:fs.lookup m=none)
  (h:Q (.ref g,[.ref a]) s):wpAny (model X.prog X.w) A (getMethod (.ref a) m pl) Q E s:=by
 obtain ⟨mA,O,r,_,_,_⟩:=Rj I.hok e
 have hn:mA m=none:=Nm.none_of (by rw [←l];exact r m)
 exact aa3 I.Tt O (c.get m) k.at_ k.fn hn h
theorem Wo {y:V} {u:Value} {Q:Unit→Shared→Prop} (I:Inv X pins σ H s) (e:H a=some (.ins C dx fs)) (c:Uq X.K C) (n:gV X.K C f) (hl:fs.length<1000) (ry:RelV y u)
  (h:∀s',Inv X pins σ (upd H a (.ins C dx (gf f y fs))) s'→Q () s'):wpAny (model X.prog X.w) A (setAttr (.ref a) f u) Q E s:=by
 obtain ⟨mA,O,r,wi,_,ho⟩:=Rj I.hok e
 have hz:(fs.map (·.1)).length≤sizeLine:=by rw [List.length_map,sizeLine_eq];omega
 refine acu I.Tt O c.sa c.po n.taker c.hd wi hz fun h' O' sb=>h _ ?_
 have hd:∃o,h'.get? dx=some o:=let ⟨o,_,_,e',_⟩:=O'.ns;⟨o,e'⟩
 refine I.write (x:=a) (e:=dx) (by rw [e];exact True.intro) (.inr ho) (fun b q hb z=>(sb.2 b hb).trans z) hd ?_
 refine ⟨by rw [aJ O.ne];exact ho,?_,O.ne,O'.obj,_,O'.ns,fun g=>?_,fun g hg=>?_⟩
 ·have:=dH f y fs;omega
 ·show Nm ((gf f y fs).lookup g) (if g=f then some u else mA g)
  rw [G5]
  by_cases q:g=f
  ·rw [if_pos q,if_pos q];exact ry
  ·rw [if_neg q,if_neg q];exact r g
 ·by_cases q:g=f
  ·rw [q];exact (Ep f y fs).1
  ·refine (Ep f y fs).2 g (wi g fun z=>hg ?_)
   show (if g=f then some u else mA g)=none
   rw [if_neg q];exact z
theorem Inv.made (I:Inv X pins σ H s):Inv X pins σ (upd (upd H s.heap.objs.size (.own (s.heap.objs.size+1))) (s.heap.objs.size+1) (.ins C s.heap.objs.size []))
  { s with heap:=(s.heap.push PySem.W.emptyDict).push (PySem.W.instObj C s.heap.objs.size) }:=by
 have e1:(s.heap.push PySem.W.emptyDict).get? s.heap.objs.size=some PySem.W.emptyDict:=Heap.get?_push_size s.heap rfl
 have e2:((s.heap.push PySem.W.emptyDict).push (PySem.W.instObj C s.heap.objs.size)).get? (s.heap.objs.size+1)=some (PySem.W.instObj C s.heap.objs.size):=by
  have:=Heap.get?_push_size (s.heap.push PySem.W.emptyDict) (o:=PySem.W.instObj C s.heap.objs.size) rfl
  rwa [Heap.size_push]at this
 have e3:(s.heap.push PySem.W.emptyDict).Ns s.heap.objs.size (fun _=>none):=⟨PySem.W.emptyDict,#[],_,e1,rfl,(fun e he=>absurd he (by simp)),fun _=>rfl⟩
 have I1:=I.laid (a:=s.heap.objs.size) (o:=.own (s.heap.objs.size+1)) (h':=s.heap.push PySem.W.emptyDict) (t':=s.toks) (fun b u q=>Heap.get?_push_of_some _ q) (Nat.le_refl _) ⟨_,e1⟩
 refine I1.laid (a:=s.heap.objs.size+1) (o:=.ins C s.heap.objs.size []) (t':=s.toks) (fun b u q=>Heap.get?_push_of_some _ q) (Nat.le_of_eq (Heap.size_push _ _)) ?_
 have ne:s.heap.objs.size≠s.heap.objs.size+1:=Nat.ne_of_lt (Nat.lt_succ_self _)
 refine ⟨by rw [aJ ne,aA],Nat.zero_le _,ne,e2,fun _=>none,(Heap.Ns1.of_empty e3).at fun o q=>Heap.get?_push_of_some _ q,fun _=>True.intro,fun y hy=>absurd rfl hy⟩
theorem acv {prog:Program} {w:World} {env:Env} {e:Expr} {f:Str} {pos:Pos} {s:Shared} {Q:Value→Shared→Prop} (hb:attributeBase e f env (eval e env)=eval e env)
  (h:wpAny (model prog w) A (eval e env) (fun o s₁=>wpAny (model prog w) A (getAttr o f true) Q E s₁) E s):wpAny (model prog w) A (eval (.Attribute e f pos) env) Q E s:=
 Attribute_any_ h (by rw [arm_eval_Attribute,hb])
end
noncomputable def gh (K:PySem.W.Frag) (ta:TE) (f:Str):TE:=fun σ H Q=>ta σ H fun x H1=>∃a C dx fs v,x=.ref a∧H1 a=some (.ins C dx fs)∧Uq K C∧gV K C f∧fs.lookup f=some v∧Q v H1
noncomputable def Nq (K:PySem.W.Frag) (ta tv:TE) (f:Str):TS:=fun D σ H=>tv σ H fun y H1=>ta σ H1 fun x H2=>∃a C dx fs,x=.ref a∧H2 a=some (.ins C dx fs)∧Uq K C∧gV K C f∧fs.length<1000∧
 D.nx σ (upd H2 a (.ins C dx (gf f y fs)))
section
variable {X:Cx} {o e value:Expr} {f:Str} {pos pos' tpos:Pos} {ta tv:TE}
theorem bG (he:PE X e ta) (hb:attributeBase e f X.env (eval e X.env)=eval e X.env):PE X (.Attribute e f pos) (gh X.K ta f):=by
 intro pins s σ H Q I h
 refine acv hb (fW (he pins s σ H _ I h) fun u s1 ⟨x,H1,I1,rx,a,C,dx,fs,v,ex,ea,c,n,l,q⟩=>?_)
 subst ex
 obtain rfl:u=Value.ref a:=rx
 exact Wn I1 ea c n l fun u' s2 I2 ru=>⟨v,H1,I2,ru,q⟩
theorem jO (ha:PE X o ta) (hv:PE X value tv) (hs:swapsWith value (some (.Attribute o f pos')) pos.line X.env=pure false):PS X (.Assign [.Attribute o f pos'] value pos) (Nq X.K ta tv f):=by
 intro pins s σ H D I h
 refine plainObj_wpAny_Assign_Attribute (fW (hv pins s σ H _ I h) fun u s1 ⟨y,H1,I1,ry,q⟩=>fW (ha pins s1 σ H1 _ I1 q) fun ov s2 ⟨x,H2,I2,rx,a,C,dx,fs,ex,ea,c,n,l,q2⟩=>?_) hs
 subst ex
 obtain rfl:ov=Value.ref a:=rx
 exact Wo I2 ea c n l ry fun s3 I3=>⟨σ,_,I3,q2⟩
theorem adv {pl:Sem Bool} {m:Str} {apos:Pos} {args:List Expr} {pins:List (Addr×Obj)} {s:Shared} {σ:St} {H:Hp} {Q:Value→Shared→Prop} {te:TE} (he:PE X e te) (I:Inv X pins σ H s)
  (h:te σ H fun x H1=>∃a C dx fs g,x=.ref a∧H1 a=some (.ins C dx fs)∧Uq X.K C∧Meth X.K C m g∧fs.lookup m=none∧
   ∀s1,Inv X pins σ H1 s1→wpAny (model X.prog X.w) X.A (callWith pos (.ref g) [.ref a] (backTo pos (starEach args X.env)) (backToKw pos (keywordEach [] X.env))) Q X.xe s1)
  (ht:eval (.Call (.Attribute e m apos) args [] pos) X.env=(do
   let ov ←eval e X.env
   standAt apos.atName
   let (f,first) ←holding [ov] (getMethod ov m pl)
   callWith pos f first (backTo pos (starEach args X.env)) (backToKw pos (keywordEach [] X.env)))) :
  wpAny (model X.prog X.w) X.A (eval (.Call (.Attribute e m apos) args [] pos) X.env) Q X.xe s:=by
 refine PySem.W.methodCall_KW (pl:=pl) (fW (he pins s σ H _ I h) fun u s1 ⟨x,H1,I1,rx,a,C,dx,fs,g,ex,ea,c,k,l,q⟩=>?_) ht
 subst ex
 obtain rfl:u=Value.ref a:=rx
 exact zX I1 ea c k l (q s1 I1)
end
end L2
namespace L2
open PySem PySem.Spec PyProof.Rows
structure lN (k:Nat) (A:Around):Prop where
 hd:A.handled=none
 dp:A.depth+3*k+5<recursionLimit
 un:A.units+16*k+200<cLine
theorem lN.mono {j k:Nat} {A:Around} (r:lN k A) (h:j≤k):lN j A:=⟨r.hd,by have:=r.dp;omega,by have:=r.un;omega⟩
theorem lN.deeper {k:Nat} {A:Around} (r:lN (k+1) A) (env:Env):lN k (A.deeper env):=
 ⟨r.hd,by have:=r.dp;show A.depth+1+3*k+5<_;omega,by have:=r.un;show A.units+3+16*k+200<_;omega⟩
theorem lN.in1 {k:Nat} {A:Around} (r:lN (k+1) A):lN k A.in1:=
 ⟨r.hd,by have:=r.dp;show A.depth+3*k+5<_;omega,by have:=r.un;show A.units+1+16*k+200<_;omega⟩
theorem Wq {A:Around} {C:Addr} {us:List Value} {kw:List (Str×Value)}:(A.under (.builtin "type.__call__" ⟨.ref C::us,kw⟩)).depth=A.depth+1:=by
 first | rfl | simp [Around.under,Code.weight,Code.isCreation,Code.isGuard,Code.isCaller,Code.frames,Code.isFrame,guardIds]
theorem Wr {A:Around} {C:Addr} {us:List Value} {kw:List (Str×Value)}:(A.under (.builtin "type.__call__" ⟨.ref C::us,kw⟩)).units=A.units+1:=by
 first | rfl | simp [Around.under,Code.cUnits,Code.frames,Code.isFrame]
theorem lN.make {k:Nat} {A:Around} (r:lN (k+1) A) (C:Addr) (us:List Value) (kw:List (Str×Value)):lN k (A.under (.builtin "type.__call__" ⟨.ref C::us,kw⟩)):=
 ⟨r.hd,by have:=r.dp;rw [Wq];omega,by have:=r.un;rw [Wr];omega⟩
theorem lN.depth {k:Nat} {A:Around} (r:lN k A):A.depth<recursionLimit:=by have:=r.dp;omega
theorem lN.units {k:Nat} {A:Around} (r:lN k A):A.units+64<cLine:=by have:=r.un;omega
noncomputable def Zj:TA:=fun _ H Q=>Q [] H
noncomputable def Yi (ta:TE) (tr:TA):TA:=fun σ H Q=>ta σ H fun x H1=>tr σ H1 fun xs H2=>Q (x::xs) H2
section
variable {X:Cx} {e:Expr} {es:List Expr} {te:TE} {t:TA} {pos:Pos}
theorem ak:PA X [] Zj:=fun _ _ _ _ H Q I h=>Calls.spliced_nil ⟨[],H,I,.nil,h⟩
theorem aj (ha:PE X e te) (hr:PA X es t) (hs:starEach (e::es) X.env=(false,eval e X.env)::starEach es X.env:=by rfl):PA X (e::es) (Yi te t):=by
 intro pos pins s σ H Q I h
 rw [hs]
 show wpAny _ _ (spliced ((false,eval e X.env)::backTo pos (starEach es X.env))) _ _ s
 refine Calls.spliced_cons (fW (ha pins s σ H _ I h) fun u s1 ⟨x,H1,I1,r1,q1⟩=>?_)
 exact fW (hr pos pins s1 σ H1 _ I1 q1) fun us s2 ⟨xs,H2,I2,r2,q2⟩=>⟨x::xs,H2,I2,.cons r1 r2,q2⟩
noncomputable def acw (t:TA):TE:=fun σ H Q=>t σ H fun xs H1=>xs.length≤sizeLine∧∀p,H1 p=none→Q (.ref p) (upd H1 p (.tup xs))
noncomputable def acx (t:TA):TE:=fun σ H Q=>t σ H fun xs H1=>xs.length≤sizeLine∧∀p,H1 p=none→Q (.ref p) (upd H1 p (.lst xs))
theorem tX {x1} (h:PA X es t):PE X (.Tuple es x1 pos) (acw t):=by
 intro pins s σ H Q I hq
 refine wpAny_Tuple_spliced (fW (h pos pins s σ H _ I hq) fun us s1 ⟨xs,H1,I1,r,z,q⟩=>⟨by rw [←r.length];exact z,?_⟩)
 have hf:H1 s1.heap.objs.size=none:=I1.hok.fresh (Nat.le_refl _)
 refine ⟨.ref s1.heap.objs.size,upd H1 s1.heap.objs.size (.tup xs),I1.laid (t':=s1.toks) (fun b u e=>Heap.get?_push_of_some _ e) (Nat.le_refl _) ?_,rfl,q _ hf⟩
 exact ⟨z,us,r,⟨_,Heap.get?_push_size _ rfl,rfl,_,rfl⟩⟩
theorem bL (h:PA X es t):PE X (.List es pos) (acx t):=by
 intro pins s σ H Q I hq
 refine wpAny_List_spliced (fW (h pos pins s σ H _ I hq) fun us s1 ⟨xs,H1,I1,r,z,q⟩=>⟨by rw [←r.length];exact z,?_⟩)
 have hf:H1 s1.heap.objs.size=none:=I1.hok.fresh (Nat.le_refl _)
 refine ⟨.ref s1.heap.objs.size,upd H1 s1.heap.objs.size (.lst xs),I1.laid (t':=s1.toks) (fun b u e=>Heap.get?_push_of_some _ e) (Nat.le_refl _) ?_,rfl,q _ hf⟩
 exact ⟨z,us,0,r,Heap.get?_push_size _ rfl⟩
end
noncomputable abbrev Sp:=List V→Hp→VK→XK→Prop
noncomputable abbrev CXT:=List Env→Hp→Shared→XK→Value→Shared→Prop
structure Ws (P:Program) (w:World) (K:PySem.W.Frag) (mg:Str→Option Value) (base:Heap) (A:Around) (outer:List Env) (s:Shared) (H:Hp):Prop where
 frames:A.frames=some outer
 mod:Mod K mg base
 bs:∀b o,base.get? b=some o→s.heap.get? b=some o∧H b=none
 bsz:base.objs.size≤s.heap.objs.size
 Ek:s.heap.FunFrames base outer
 frf:∀b∈frs outer,H b=none
 hok:zg P w H s.heap
 bare:AllBare s.gens
noncomputable def CE (outer:List Env) (P:Program) (w:World) (H:Hp) (s:Shared) (Q:VK) (u:Value) (s':Shared):Prop:=
 ∃v H',s'.os=s.os∧AllBare s'.gens∧Un (frs outer) [] H H' s.heap s'.heap∧zg P w H' s'.heap∧RelV v u∧Q v H'
noncomputable def CR (CX:CXT) (outer:List Env) (P:Program) (w:World) (H:Hp) (s:Shared) (Q:VK) (E:XK) (r:Result) (s':Shared):Prop:=
 match r with
 | .ok (.ret u)=>CE outer P w H s Q u s'
 | .ok _=>False
 | .error e=>CX outer H s E e s'
structure cz (P:Program) (w:World) (K:PySem.W.Frag) (mg:Str→Option Value) (base:Heap) (CX:CXT) (k:Nat) (f:Addr) (fd:FuncData) (ps:List Str) (sp:Sp):Prop where
 len:∀vs H Q E,sp vs H Q E→vs.length=ps.length
 run:∀(A:Around) (outer:List Env) (s:Shared) (H:Hp) (args:Args) (us:List Value) (vs:List V) (Q:VK) (E:XK),lN k A→Ws P w K mg base A outer s H→BindsTo s fd args (ps.zip us)→Vals vs us→sp vs H Q E→
  codeAny (model P w) A (.call (.ref f) args) (CR CX outer P w H s Q E) s
theorem Ws.make {P:Program} {w:World} {K:PySem.W.Frag} {mg:Str→Option Value} {base:Heap} {A:Around} {outer:List Env} {s:Shared} {H:Hp} (e:Ws P w K mg base A outer s H) (C:Addr) (us:List Value) (kw:List (Str×Value)) :
  Ws P w K mg base (A.under (.builtin "type.__call__" ⟨.ref C::us,kw⟩)) outer s H:=⟨by first | exact e.frames | (simpa [Around.under,Code.envs,Code.isFrame,pushEnvs] using e.frames),e.mod,e.bs,e.bsz,e.Ek,e.frf,e.hok,e.bare⟩
section
variable {X:Cx} {pins:List (Addr×Obj)} {σ:St} {H:Hp} {s s':Shared}
theorem Inv.env0 (I:Inv X pins σ H s):Ws X.prog X.w X.K X.mg X.base X.A X.stack s H:=
 ⟨I.ok.frames,I.ok.mod,I.bs,Nat.le_trans I.ok.bsz I.sz,I.stack,I.X4,I.hok,I.bare⟩
theorem Inv.after {Q:VK} {u:Value} (I:Inv X pins σ H s) (h:CE X.stack X.prog X.w H s Q u s'):EP X pins σ Q u s':=by
 obtain ⟨v,H',os,bare,un,hok,r,q⟩:=h
 obtain ⟨hh,g,d,t,os'⟩:=s'
 obtain rfl:os'=s.os:=os
 exact ⟨v,H',I.call (h':=hh) (g':=g) (d':=d) (t':=t) (ch:=[]) un hok bare (fun b z=>absurd z (by simp)),r,q⟩
end
noncomputable def Yj (sp:Sp) (J0:List V) (E:XK) (t:TA):TE:=fun σ H Q=>t σ H fun vs H1=>sp (vs++J0) H1 Q E
noncomputable def iY (C:Addr) (m:Str) (sp:Sp) (J0:List V) (E:XK) (ta:TE) (t:TA):TE:=fun σ H Q=>ta σ H fun x H1=>∃a dx fs,x=.ref a∧H1 a=some (.ins C dx fs)∧fs.lookup m=none∧
 t σ H1 fun vs H2=>sp (x::(vs++J0)) H2 Q E
noncomputable def J1 (C:Addr) (sp:Sp) (J0:List V) (E:XK) (t:TA):TE:=fun σ H Q=>t σ H fun vs H1=>∀x dx,H1 x=none→H1 dx=none→dx≠x→
 sp (.ref x::(vs++J0)) (upd (upd H1 dx (.own x)) x (.ins C dx [])) (fun v H2=>v=.non∧Q (.ref x) H2) E
noncomputable def Binds (K:PySem.W.Frag) (fd:FuncData) (ps:List Str) (ds:List Value):Prop:=
 ∀(s:Shared) (us:List Value),K.In s.heap→(us++ds).length=ps.length→BindsTo s fd ⟨us,[]⟩ (ps.zip (us++ds))
theorem Binds.all {K:PySem.W.Frag} {fd:FuncData} {ps:List Str} (h:∀us:List Value,us.length=ps.length→bindArgs fd ⟨us,[]⟩=pure (ps.zip us)):Binds K fd ps []:=fun s us _ hl=>by
 rw [List.append_nil]at hl ⊢
 exact .of_eq (h us hl)
noncomputable def Passes (CX:CXT) (X:Cx) (E:XK):Prop:=∀(pins:List (Addr×Obj)) (σ:St) (H:Hp) (s:Shared) (e:Value) (s':Shared),Inv X pins σ H s→CX X.stack H s E e s'→X.xe e s'
section
variable {X:Cx} {CX:CXT} {k:Nat} {f C:Addr} {fd:FuncData} {ps:List Str} {sp:Sp} {J0:List V} {ds:List Value} {E:XK} {x m:Str} {p pos apos:Pos} {e o:Expr} {es:List Expr} {ta:TE} {t:TA}
theorem Rk {pins:List (Addr×Obj)} {σ:St} {H:Hp} {s:Shared} {Q:VK} {us:List Value} {vs:List V} (F:cz X.prog X.w X.K X.mg X.base CX k f fd ps sp) (hr:lN k X.A) (hb:Binds X.K fd ps ds) (hd:Vals J0 ds) (hx:Passes CX X E)
  (I:Inv X pins σ H s) (r:Vals vs us) (h:sp (vs++J0) H Q E):wpAny (model X.prog X.w) X.A (call (.ref f) us) (EP X pins σ Q) X.xe s:=by
 have r2:Vals (vs++J0) (us++ds):=r.append hd
 have hl:(us++ds).length=ps.length:=by rw [←r2.length];exact F.len _ _ _ _ h
 refine wpAny_call (codeAny_mono (F.run X.A X.stack s H ⟨us,[]⟩ (us++ds) (vs++J0) Q E hr I.env0 (hb s us I.Tt hl) r2 h) fun r s' hq=>?_)
 cases r with
 | error e=>exact hx pins σ H s e s' I hq
 | ok fl=>
  cases fl with
  | ret u=>exact I.after hq
  | next=>exact False.elim hq
  | brk=>exact False.elim hq
  | cont=>exact False.elim hq
theorem aM (F:cz X.prog X.w X.K X.mg X.base CX k f fd ps sp) (hr:lN k X.A) (hg:Gl X x) (hm:X.mg x=some (.ref f)) (hk:PySem.W.keepIn X.K (.ref f)=true) (hb:Binds X.K fd ps ds) (hd:Vals J0 ds) (hx:Passes CX X E)
  (ha:PA X (e::es) t) (hdb:(x == ("__debug__" : Str))=false:=by decide) (he:starEach (e::es) X.env=(false,eval e X.env)::starEach es X.env:=by rfl) (hpl:(backTo pos (starEach es X.env)).any (·.1)=false:=by rfl) :
  PE X (.Call (.Name x p) (e::es) [] pos) (Yj sp J0 E t):=by
 intro pins s σ H Q I h
 refine wpAny_Call_Name_kw (Jb I hg hm ?_ hdb)
 refine PySem.W.callWith_K (h₀:=X.base) I.ok.mod.kin hk (fW (ha pos pins s σ H _ I h) fun us s1 ⟨vs,H1,I1,r,q⟩=>⟨I1.Tt,?_⟩) he hpl
 exact Rk F hr hb hd hx I1 r q
theorem fU {pl:Sem Bool} (he:PE X o ta) (c:Uq X.K C) (hm:Meth X.K C m f) (F:cz X.prog X.w X.K X.mg X.base CX k f fd ps sp) (hr:lN k X.A) (hb:Binds X.K fd ps ds) (hd:Vals J0 ds) (hx:Passes CX X E) (ha:PA X (e::es) t)
  (hst:starEach (e::es) X.env=(false,eval e X.env)::starEach es X.env:=by rfl) (hpl:(backTo pos (starEach es X.env)).any (·.1)=false:=by rfl)
  (ht:eval (.Call (.Attribute o m apos) (e::es) [] pos) X.env=(do
   let ov ←eval o X.env
   standAt apos.atName
   let (f,first) ←holding [ov] (getMethod ov m pl)
   callWith pos f first (backTo pos (starEach (e::es) X.env)) (backToKw pos (keywordEach [] X.env))):=by rfl) :
  PE X (.Call (.Attribute o m apos) (e::es) [] pos) (iY C m sp J0 E ta t):=by
 intro pins s σ H Q I h
 refine PySem.W.methodCall_KW (pl:=pl) (fW (he pins s σ H _ I h) fun u s1 ⟨x,H1,I1,rx,a,dx,fs,ex,ea,l,q⟩=>?_) ht
 subst ex
 obtain rfl:u=Value.ref a:=rx
 refine zX I1 ea c hm l ?_
 refine PySem.W.callWith_K (first:=[.ref a]) (h₀:=X.base) I.ok.mod.kin hm.kp (fW (ha pos pins s1 σ H1 _ I1 q) fun us s2 ⟨vs,H2,I2,r,q2⟩=>⟨I2.Tt,?_⟩) hst hpl
 exact Rk (us:=.ref a::us) (vs:=.ref a::vs) F hr hb hd hx I2 (.cons rfl r) q2
theorem b8 {pl:Sem Bool} (he:PE X o ta) (c:Uq X.K C) (hm:Meth X.K C m f) (F:cz X.prog X.w X.K X.mg X.base CX k f fd ps sp) (hr:lN k X.A) (hb:Binds X.K fd ps ds) (hd:Vals J0 ds) (hx:Passes CX X E)
  (ht:eval (.Call (.Attribute o m apos) [] [] pos) X.env=(do
   let ov ←eval o X.env
   standAt apos.atName
   let (f,first) ←holding [ov] (getMethod ov m pl)
   callWith pos f first (backTo pos (starEach [] X.env)) (backToKw pos (keywordEach [] X.env))):=by rfl) :
  PE X (.Call (.Attribute o m apos) [] [] pos) (iY C m sp J0 E ta Zj):=by
 intro pins s σ H Q I h
 refine PySem.W.methodCall_KW (pl:=pl) (fW (he pins s σ H _ I h) fun u s1 ⟨x,H1,I1,rx,a,dx,fs,ex,ea,l,q⟩=>?_) ht
 subst ex
 obtain rfl:u=Value.ref a:=rx
 refine zX I1 ea c hm l ?_
 exact PySem.W.callWith_K0 (first:=[.ref a]) I1.Tt hm.kp (Rk (us:=[.ref a]) (vs:=[.ref a]) F hr hb hd hx I1 (.cons rfl .nil) q)
structure Mk (K:PySem.W.Frag) (C f:Addr):Prop where
 makes:PySem.W.makesIn K C=true
 init:PySem.W.findIn K (.ref C) "__init__" = some (some (.ref f))
 fn:PySem.W.isFn K (.ref f)=true
 kp:PySem.W.keepIn K (.ref C)=true
theorem Ur {pins:List (Addr×Obj)} {σ:St} {H:Hp} {s:Shared} {Q:VK} {us:List Value} {vs:List V} (M:Mk X.K C f) (F:cz X.prog X.w X.K X.mg X.base CX k f fd ps sp) (hr:lN (k+1) X.A) (hb:Binds X.K fd ps ds) (hd:Vals J0 ds)
  (hx:Passes CX X E) (I:Inv X pins σ H s) (r:Vals vs us)
  (h:∀x dx,H x=none→H dx=none→dx≠x→sp (.ref x::(vs++J0)) (upd (upd H dx (.own x)) x (.ins C dx [])) (fun v H2=>v=.non∧Q (.ref x) H2) E) :
  wpAny (model X.prog X.w) X.A (call (.ref C) us) (EP X pins σ Q) X.xe s:=by
 have hq:=h (s.heap.objs.size+1) s.heap.objs.size (I.hok.fresh (Nat.le_succ _)) (I.hok.fresh (Nat.le_refl _)) (Nat.ne_of_lt (Nat.lt_succ_self _))
 have I2:=Inv.made (C:=C) I
 have r2:Vals (V.ref (s.heap.objs.size+1)::(vs++J0)) (Value.ref (s.heap.objs.size+1)::(us++ds)):=.cons rfl (r.append hd)
 have hl:(Value.ref (s.heap.objs.size+1)::us++ds).length=ps.length:=by
  have e:=r2.length
  rw [F.len _ _ _ _ hq]at e
  exact e.symm
 refine wpAny_call (aa4 (f:=f) I.Tt M.makes M.init (beq_iff_eq.mp M.fn) (codeAny_mono (F.run _ X.stack _ _ ⟨Value.ref (s.heap.objs.size+1)::us,[]⟩ (Value.ref (s.heap.objs.size+1)::(us++ds)) _ _ E (hr.make C us [])
  (I2.env0.make C us []) (hb _ (Value.ref (s.heap.objs.size+1)::us) I2.Tt hl) r2 hq) fun r s' hq'=>?_))
 cases r with
 | error e=>exact hx pins σ _ _ e s' I2 hq'
 | ok fl=>
  cases fl with
  | ret u=>
   obtain ⟨v,H',I3,rv,ev,q3⟩:=I2.after hq'
   subst ev
   exact ⟨rv,⟨V.ref (s.heap.objs.size+1),H',I3,rfl,q3⟩⟩
  | next=>exact False.elim hq'
  | brk=>exact False.elim hq'
  | cont=>exact False.elim hq'
theorem Ce (M:Mk X.K C f) (F:cz X.prog X.w X.K X.mg X.base CX k f fd ps sp) (hr:lN (k+1) X.A) (hg:Gl X x) (hm:X.mg x=some (.ref C)) (hb:Binds X.K fd ps ds) (hd:Vals J0 ds) (hx:Passes CX X E)
  (ha:PA X (e::es) t) (hdb:(x == ("__debug__" : Str))=false:=by decide) (he:starEach (e::es) X.env=(false,eval e X.env)::starEach es X.env:=by rfl) (hpl:(backTo pos (starEach es X.env)).any (·.1)=false:=by rfl) :
  PE X (.Call (.Name x p) (e::es) [] pos) (J1 C sp J0 E t):=by
 intro pins s σ H Q I h
 refine wpAny_Call_Name_kw (Jb I hg hm ?_ hdb)
 refine PySem.W.callWith_K (h₀:=X.base) I.ok.mod.kin M.kp (fW (ha pos pins s σ H _ I h) fun us s1 ⟨vs,H1,I1,r,q⟩=>⟨I1.Tt,?_⟩) he hpl
 exact Ur M F hr hb hd hx I1 r q
theorem aa5 (M:Mk X.K C f) (F:cz X.prog X.w X.K X.mg X.base CX k f fd ps sp) (hr:lN (k+1) X.A) (hg:Gl X x) (hm:X.mg x=some (.ref C)) (hb:Binds X.K fd ps ds) (hd:Vals J0 ds) (hx:Passes CX X E)
  (hdb:(x == ("__debug__" : Str))=false:=by decide):PE X (.Call (.Name x p) [] [] pos) (J1 C sp J0 E Zj):=by
 intro pins s σ H Q I h
 refine wpAny_Call_Name_kw (Jb I hg hm ?_ hdb)
 exact PySem.W.callWith_K0 I.Tt M.kp (Ur (us:=[]) M F hr hb hd hx I .nil h)
end
structure aW (N P:List Str) (sc:Scope):Prop where
 kind:sc.kind=.function
 co:sc.isCoroutine=false
 gen:sc.isGenerator=false
 nd:N.Nodup
 pre:N.take P.length=P
 par:∀x∈P,sc.names.lookup x=some .local∨sc.names.lookup x=some .cell
 ad7:∀y∈sc.names,y.2≠.free
theorem Qj {kindOf:Str→Option NameKind} {x:Str}:∀{binds:List (Str×Value)} {m:Str→Option Value},(∀v,(x,v)∉binds)→bindL kindOf binds m x=m x
 | [],_,_=>rfl
 | (n,v)::r,m,h=>by
  unfold bindL
  rw [Qj fun w hw=>h w (List.mem_cons_of_mem _ hw)]
  split
  ·have:x≠n:=by rintro rfl;exact h v List.mem_cons_self
   simp [this]
  ·rfl
theorem Qk {kindOf:Str→Option NameKind} {x:Str}:∀{binds:List (Str×Value)} {m:Str→Option Value},(∀v,(x,v)∉binds)→bindC kindOf binds m x=m x
 | [],_,_=>rfl
 | (n,v)::r,m,h=>by
  unfold bindC
  rw [Qk fun w hw=>h w (List.mem_cons_of_mem _ hw)]
  split
  ·rfl
  ·have:x≠n:=by rintro rfl;exact h v List.mem_cons_self
   simp [this]
theorem Ql {kindOf:Str→Option NameKind} {x:Str} {v:Value}:∀{P:List Str} {vs:List Value} {i:Nat} {m:Str→Option Value},P.Nodup→P[i]?=some x→vs[i]?=some v→kindOf x=some .local→
  bindL kindOf (P.zip vs) m x=some v
 | [],_,_,_,_,h,_,_=>by simp at h
 | _::_,[],_,_,_,_,h,_=>by simp at h
 | p::P,w::vs,0,m,nd,h1,h2,hk=>by
  simp at h1 h2;subst h1;subst h2
  show bindL kindOf ((p,w)::P.zip vs) m p=_
  unfold bindL
  rw [Qj fun v hv=>(List.nodup_cons.mp nd).1 (List.of_mem_zip hv).1,if_pos hk]
  simp
 | p::P,w::vs,i+1,m,nd,h1,h2,hk=>by
  show bindL kindOf ((p,w)::P.zip vs) m x=_
  unfold bindL
  exact Ql (i:=i) (List.nodup_cons.mp nd).2 (by simpa using h1) (by simpa using h2) hk
theorem Qm {kindOf:Str→Option NameKind} {x:Str} {v:Value}:∀{P:List Str} {vs:List Value} {i:Nat} {m:Str→Option Value},P.Nodup→P[i]?=some x→vs[i]?=some v→kindOf x≠some .local→
  bindC kindOf (P.zip vs) m x=some v
 | [],_,_,_,_,h,_,_=>by simp at h
 | _::_,[],_,_,_,_,h,_=>by simp at h
 | p::P,w::vs,0,m,nd,h1,h2,hk=>by
  simp at h1 h2;subst h1;subst h2
  show bindC kindOf ((p,w)::P.zip vs) m p=_
  unfold bindC
  rw [Qk fun v hv=>(List.nodup_cons.mp nd).1 (List.of_mem_zip hv).1,if_neg hk]
  simp
 | p::P,w::vs,i+1,m,nd,h1,h2,hk=>by
  show bindC kindOf ((p,w)::P.zip vs) m x=_
  unfold bindC
  exact Qm (i:=i) (List.nodup_cons.mp nd).2 (by simpa using h1) (by simpa using h2) hk
noncomputable def start (N:List Str) (vs:List V):St:=vs.map some++List.replicate (N.length-vs.length) none
noncomputable def J2 (CX:CXT) (P:Program) (w:World) (K:PySem.W.Frag) (mg:Str→Option Value) (base:Heap) (N:List Str) (qual:Str) (scope:Scope) (f:Addr) (cd:Value) (A:Around) (outer:List Env) (s:Shared) (H:Hp) (E:XK):Cx where
 prog:=P
 w:=w
 K:=K
 mg:=mg
 base:=base
 A:=A.deeper (envOfC qual scope s.heap.objs.size f cd)
 N:=N
 Nf:=s
 H_0:=H
 env:=envOfC qual scope s.heap.objs.size f cd
 outer:=outer
 stack:=envOfC qual scope s.heap.objs.size f cd::outer
 ex:=[]
 calm:=true
 fn:=fun _=>true
 pn:=[]
 xe:=fun e s'=>wpAny (model P w) (A.deeper (envOfC qual scope s.heap.objs.size f cd)) (leaving (envOfC qual scope s.heap.objs.size f cd) e) (fun _ s''=>CX outer H s E e s'') (fun e' s''=>CX outer H s E e' s'') s'
theorem Us {sc:Scope} {n:Nat} {x:Str} (h:sc.names.lookup x=some .cell):∃c,(cellsFrom n sc.names []).lookup x=some c:=by
 have q:=PySem.W.cellsFrom_some sc.names n [] (.inl h)
 exact Option.isSome_iff_exists.mp q
theorem Eh {CX:CXT} {P:Program} {w:World} {K:PySem.W.Frag} {mg:Str→Option Value} {base:Heap} {N ps:List Str} {qual:Str} {scope:Scope} {f:Addr} {cd:Value} {A:Around} {outer:List Env} {s s1:Shared} {H:Hp} {E:XK} {us:List Value} {vs:List V}
  (S:aW N ps scope) (hd:A.handled=none) (e0:Ws P w K mg base A outer s H) (hl:vs.length=ps.length) (r:Vals vs us)
  (x:InCallC s s.heap.objs.size (bindL (envOfC qual scope s.heap.objs.size f cd).kindOf (ps.zip us) fun _=>none) (cellsFrom (s.heap.objs.size+1) scope.names []) (bindC (envOfC qual scope s.heap.objs.size f cd).kindOf (ps.zip us) fun _=>none) s1) :
  Inv (J2 CX P w K mg base N qual scope f cd A outer s H E) [] (start N vs) H s1:=by
 have hpl:ps.length≤N.length:=by have:=congrArg List.length S.pre;rw [List.length_take]at this;omega
 obtain ⟨h1,tk,rfl,hk⟩:=x.done
 have noA:∀b:Addr,b∉(J2 CX P w K mg base N qual scope f cd A outer s H E).ex:=fun b z=>absurd (show b∈([]:List Addr) from z) (by simp)
 refine ⟨⟨e0.mod,S.kind,rfl,rfl,Nat.le_refl _,fun y z c h1 h2=>?_,fun y hy=>?_,fun y c _ h=>?_,fun _=>hd,Around.frames_deeper e0.frames,.inr ⟨rfl,rfl⟩,fun b z=>absurd z (noA b),e0.bs,e0.bsz,fun b _ _=>noA b,fun b z=>absurd z (noA b),e0.Ek,e0.frf⟩,
  rfl,e0.bare,Un.kept hk,⟨_,x.toInCall.ns,fun i y v h1 h2 h3=>?_⟩,fun y c h=>⟨_,x.cell y c h⟩,e0.hok.fresh (Nat.le_refl _),fun y c h=>?_,fun p hp=>absurd (show p∈([]:List (Addr×Obj)) from hp) (by simp),e0.hok.kept hk,?_⟩
 ·exact name_of_addr x.apart (PySem.mem_of_lookup h1) (PySem.mem_of_lookup h2)
 ·have hy:scope.names.lookup y=some .cell∨scope.names.lookup y=some .free:=hy
  rcases hy with hy | hy
  ·exact Us hy
  ·exact absurd rfl (S.ad7 _ (PySem.mem_of_lookup hy))
 ·exact Nat.le_of_lt (x.above y c (PySem.mem_of_lookup h))
 ·have hi:i<vs.length:=by
   unfold start at h2
   by_cases hi:i<vs.length
   ·exact hi
   ·rw [List.getElem?_append_right (by simpa using hi)]at h2
    rw [List.getElem?_replicate]at h2
    split at h2<;>cases h2
  have ha:vs[i]?=some v:=by
   unfold start at h2
   rw [List.getElem?_append_left (by simpa using hi),List.getElem?_map]at h2
   cases e:vs[i]? with
   | none=>rw [e]at h2;cases h2
   | some a=>rw [e]at h2;cases h2;rfl
  obtain ⟨u,hu,rv⟩:=r.get ha
  have hp:ps[i]?=some y:=by
   rw [←S.pre,List.getElem?_take_of_lt (by omega)];exact h1
  have ndP:ps.Nodup:=by rw [←S.pre];exact S.nd.sublist (List.take_sublist _ _)
  refine ⟨u,rv,?_⟩
  rcases S.par y (List.mem_of_getElem? hp) with k | k
  ·exact .inl ⟨k,Ql ndP hp hu k⟩
  ·obtain ⟨c,e⟩:=Us (n:=s.heap.objs.size+1) k
   refine .inr ⟨.inl k,c,e,?_⟩
   have q:=x.cell y c e
   rw [Qm ndP hp hu (by show scope.names.lookup y≠_;rw [k];decide)]at q
   exact q
 ·exact e0.hok.fresh (Nat.le_of_lt (x.above y c (PySem.mem_of_lookup h)))
 ·unfold start
  show _=N.length
  rw [List.length_append,List.length_map,List.length_replicate]
  omega
theorem adx {CX:CXT} {P:Program} {w:World} {K:PySem.W.Frag} {mg:Str→Option Value} {base:Heap} {k:Nat} {f:Addr} {name qual:Str} {params:Arguments} {body:List Stmt} {scope:Scope} {dV kV doc pm cdv ct oc:Value} {an od:Option Addr}
  {osl:Array (Option Value)} {N ps:List Str} {sp:Sp} (lk:K.lookup f=some ⟨oc,od,.func (PySem.W.fnOf name qual params body scope dV kV doc pm an cdv ct),osl⟩) (hcd:PySem.W.codeIn K cdv qual=true) (S:aW N ps scope)
  (len:∀vs H Q E,sp vs H Q E→vs.length=ps.length)
  (hbody:∀(A:Around) (outer:List Env) (s:Shared) (H:Hp) (vs:List V) (Q:VK) (E:XK),lN k (A.deeper (envOfC qual scope s.heap.objs.size f cdv))→sp vs H Q E→
   ∃t,Zb (J2 CX P w K mg base N qual scope f cdv A outer s H E) body t∧t { nx:=fun _ H'=>Q .non H',rt:=Q } (start N vs) H) :
  cz P w K mg base CX (k+1) f (PySem.W.fnOf name qual params body scope dV kV doc pm an cdv ct) ps sp:=by
 refine ⟨len,fun A outer s H args us vs Q E hr e0 hb r hsp=>?_⟩
 have hl:=len _ _ _ _ hsp
 have KX:K.In s.heap:=e0.mod.kin.keeps fun b o e=>(e0.bs b o e).1
 have lim:s.heap.NoLimit:=e0.mod.nolimit.keeps fun b o e=>(e0.bs b o e).1
 have hkind:∀y∈ps.zip us,scope.names.lookup y.1=some .local∨(scope.names.lookup y.1=some .cell∧((cellsFrom (s.heap.objs.size+1) scope.names []).lookup y.1).isSome=true):=fun ⟨n,v⟩ hy=>by
  rcases S.par n (List.of_mem_zip hy).1 with q | q
  ·exact .inl q
  ·exact .inr ⟨q,PySem.W.cellsFrom_some _ _ _ (.inl q)⟩
 refine codeAny_call_function hr.depth (KX _ _ lk) rfl S.co S.gen rfl (PySem.W.codeRec_of KX hcd) (hb _ _ _ _ ?_)
 refine wpAny_newFunctionEnv_cells S.kind hkind fun env he s1 x=>?_
 subst he
 refine ⟨lim.keeps x.toInCall.keep,codeAny_func ?_⟩
 obtain ⟨t,ht,hq⟩:=hbody A outer s H vs Q E (hr.deeper _) hsp
 have I:Inv (J2 CX P w K mg base N qual scope f cdv A outer s H E) [] (start N vs) H s1:=Eh S hr.hd e0 hl r x
 refine wpAny_mono (ht [] s1 (start N vs) H _ I hq) (fun fl s' hs=>?_) fun e s' hs=>hs
 have fin:∀{σ':St} {H':Hp} {v:V} {u:Value},Inv (J2 CX P w K mg base N qual scope f cdv A outer s H E) [] σ' H' s'→RelV v u→Q v H'→CE outer P w H s Q u s':=
  fun {σ' H' v u} J rv q=>⟨v,H',J.os,J.bare,J.base,J.hok,rv,q⟩
 cases fl with
 | ret u=>
  obtain ⟨v,σ',H',J,rv,q⟩:=hs
  exact fin J rv q
 | next=>
  obtain ⟨σ',H',J,q⟩:=hs
  exact fin (v:=V.non) (u:=Value.none) J rfl q
 | brk=>
  obtain ⟨_,_,_,q⟩:=hs
  exact False.elim q
 | cont=>
  obtain ⟨_,_,_,q⟩:=hs
  exact False.elim q
end L2
namespace L2
open PySem PySem.Spec PyProof.Rows
section
variable {X:Cx} {x:Str} {p pos:Pos} {e:Expr} {es:List Expr} {t:TA} {id T:String} {r:List V→Hp→VK→Prop}
noncomputable def tCB (r:List V→Hp→VK→Prop) (t:TA):TE:=fun σ H Q=>t σ H fun vs H1=>r vs H1 Q
theorem bF (hc:Cd X (.builtin id) r) (hg:Gl X x) (hm:X.mg x=none) (hv:bootBuiltins x=some (.builtin id)) (ha:PA X (e::es) t) (hn:x ≠ "__name__" := by decide) (hdb:(x == ("__debug__" : Str))=false:=by decide)
  (he:starEach (e::es) X.env=(false,eval e X.env)::starEach es X.env:=by rfl) (hpl:(backTo pos (starEach es X.env)).any (·.1)=false:=by rfl):PE X (.Call (.Name x p) (e::es) [] pos) (tCB r t):=by
 intro pins s σ H Q I h
 refine wpAny_Call_Name_kw (tV I hg hm hv ?_ hn hdb)
 exact PyProof.Rows.callWith_builtin1 (fW (ha pos pins s σ H _ I h) fun us s1 ⟨vs,H1,I1,r1,q1⟩=>hc pins s1 σ H1 vs us Q I1 r1 q1) he hpl
end
end L2
namespace HT
open PySem PyProof.Rows
section
open PySem.SeqAt
open PySem.AutoSeq1 (wpAny_loadPart')
open PySem.MeetsSeq PySem.MeetsSeq2 PySem.MeetsSeq3
end
section
variable {prog:Program} {w:World} {A:Around} {E:Value→Shared→Prop} {s:Shared}
noncomputable def Ut (n d:Nat):Option Int→Nat
 | none=>d
 | some v=>if v<0 then (v+(n:Int)).toNat else min v.toNat n
theorem Uu (n d:Nat):Ut n d none=d:=rfl
theorem yR (n d k:Nat):Ut n d (some (k:Int))=min k n:=by
 show (if (k:Int)<0 then ((k:Int)+(n:Int)).toNat else min (k:Int).toNat n)=min k n
 rw [if_neg (by omega),Int.toNat_natCast]
end
end HT
namespace L2
open PySem PySem.Spec PyProof.Rows
noncomputable abbrev TO:=St→Hp→(Option Int→Hp→Prop)→Prop
noncomputable def PO (X:Cx) (e:Option Expr) (t:TO):Prop:=
 ∀(pins:List (Addr×Obj)) (s:Shared) (σ:St) (H:Hp) (Q:Option Int→Hp→Prop),Inv X pins σ H s→t σ H Q→
  wpAny (model X.prog X.w) X.A (evalPart e X.env) (fun u s'=>∃o H',Inv X pins σ H' s'∧IsPart u o∧Q o H') X.xe s
noncomputable def Cg:TO:=fun _ H Q=>Q none H
noncomputable def Qn (t:TE):TO:=fun σ H Q=>t σ H fun x H1=>∃i,x=.int i∧Q (some i) H1
section
variable {X:Cx} {e:Expr} {te:TE} {lo hi:Option Expr} {tl th:TO} {pos p2:Pos}
theorem Ci:PO X none Cg:=by
 intro pins s σ H Q I h
 rw [evalPart_none]
 exact wpAny_pure ⟨none,H,I,.none,h⟩
theorem qt (h:PE X e te):PO X (some e) (Qn te):=by
 intro pins s σ H Q I hw
 rw [evalPart_some]
 refine fW (h pins s σ H _ I hw) fun u s1 ⟨x,H1,I1,r1,q1⟩=>?_
 obtain ⟨i,rfl,q⟩:=q1
 obtain ⟨t,rfl⟩:=r1
 exact ⟨some i,H1,I1,.int i t,q⟩
noncomputable def SlR (X:Cx) (r:V→Option Int→Option Int→Hp→VK→Prop):Prop:=
 ∀(pins:List (Addr×Obj)) (s:Shared) (σ:St) (H:Hp) (x:V) (v vl vu:Value) (lo hi:Option Int) (sl:Addr) (Q:VK),Inv X pins σ H s→RelV x v→s.heap.IsSliceOf sl vl vu .none→IsPart vl lo→IsPart vu hi→r x lo hi H Q→
  ∃T id,typeLookup (.type T) "__getitem__" = pure (some (.builtin id))∧s.TypeIs v T∧wpAny (model X.prog X.w) X.A (getItem v (.ref sl)) (EP X pins σ Q) X.xe s
noncomputable def tSl (r:V→Option Int→Option Int→Hp→VK→Prop) (te:TE) (tl th:TO):TE:=fun σ H Q=>te σ H fun x H1=>tl σ H1 fun l H2=>th σ H2 fun u H3=>r x l u H3 Q
theorem qW {r:V→Option Int→Option Int→Hp→VK→Prop} (hr:SlR X r) (he:PE X e te) (hl:PO X lo tl) (hu:PO X hi th):PE X (.Subscript e (.Slice lo hi none p2) pos) (tSl r te tl th):=by
 intro pins s σ H Q I h
 refine Subscript_ (fW (he pins s σ H _ I h) fun v s1 ⟨x,H1,I1,r1,q1⟩=>?_)
 refine wpAny_Slice (fW (hl pins s1 σ H1 _ I1 q1) fun vl s2 ⟨l,H2,I2,pl,q2⟩=>fW (hu pins s2 σ H2 _ I2 q2) fun vu s3 ⟨u,H3,I3,pu,q3⟩=>?_)
 rw [evalPart_none]
 refine wpAny_pure ?_
 have I4:Inv X pins σ H3 { s3 with heap:=s3.heap.push { cls:=.type "slice",data:=.fields #[vl,vu,.none] } }:=I3.kept (t':=s3.toks) fun b ob q=>Heap.get?_push_of_some _ q
 obtain ⟨T,id,hT,ht,hg⟩:=hr pins { s3 with heap:=s3.heap.push { cls:=.type "slice",data:=.fields #[vl,vu,.none] } } σ H3 x v vl vu l u s3.heap.objs.size Q I4 r1 (Heap.IsSliceOf.new ..) pl pu q3
 show wpAny (model X.prog X.w) X.A (subscriptTail e (.Slice lo hi none p2) v (.ref s3.heap.objs.size)) (EP X pins σ Q) X.xe { s3 with heap:=s3.heap.push { cls:=.type "slice",data:=.fields #[vl,vu,.none] } }
 exact tail_any (ops:=[.ref s3.heap.objs.size,v]) ht hT hg (by with_unfolding_all rfl)
noncomputable def Er (xs:List V) (lo hi:Option Int):List V:=(xs.drop (HT.Ut xs.length 0 lo)).take (HT.Ut xs.length xs.length hi-HT.Ut xs.length 0 lo)
theorem Uv (xs:List V) (lo hi:Option Int):(Er xs lo hi).length≤xs.length:=by
 unfold Er
 rw [List.length_take,List.length_drop]
 omega
end
end L2
namespace L2
open PySem PySem.Spec PyProof.Rows
noncomputable def ixN (n:Nat) (i:Int):Option Nat:=if 0≤i then (if i<n then some i.toNat else none) else if -(n:Int)≤i then some (i+n).toNat else none
noncomputable def oO {α:Type} (xs:List α) (i:Int):Option α:=(ixN xs.length i).bind fun j=>xs[j]?
theorem Yk {n:Nat} {i:Int} {j:Nat} (h:ixN n i=some j):seqIndex? i n=some j∧j<n∧-(n:Int)≤i∧i<n:=by
 unfold ixN at h
 by_cases h0:0≤i
 ·rw [if_pos h0]at h
  by_cases h1:i<n
  ·rw [if_pos h1]at h
   have e:i.toNat=j:=Option.some.inj h
   exact ⟨by rw [seqIndex_of h0 h1,e],by omega,by omega,h1⟩
  ·rw [if_neg h1]at h;cases h
 ·rw [if_neg h0]at h
  by_cases h1:-(n:Int)≤i
  ·rw [if_pos h1]at h
   have e:(i+n).toNat=j:=Option.some.inj h
   exact ⟨by rw [seqIndex_neg (by omega) h1,e],by omega,h1,by omega⟩
  ·rw [if_neg h1]at h;cases h
theorem Yl {α:Type} {xs:List α} {i:Int} {v:α} (h:oO xs i=some v):∃j,seqIndex? i xs.length=some j∧xs[j]?=some v∧j<xs.length∧-(xs.length:Int)≤i∧i<xs.length:=by
 unfold oO at h
 cases e:ixN xs.length i with
 | none=>rw [e]at h;cases h
 | some j=>
  rw [e]at h
  obtain ⟨h1,h2,h3,h4⟩:=Yk e
  exact ⟨j,h1,h,h2,h3,h4⟩
theorem Ym {α:Type} {xs:List α} {j:Nat} {v:α} (h:xs[j]?=some v):oO xs (j:Int)=some v:=by
 have hj:j<xs.length:=(List.getElem?_eq_some_iff.mp h).1
 have e:ixN xs.length (j:Int)=some j:=by
  unfold ixN
  rw [if_pos (by omega),if_pos (by omega)];simp
 unfold oO;rw [e];exact h
theorem J3 {α:Type} (xs:List α) (v:α):oO (xs++[v]) (-1)=some v:=by
 have hl:(xs++[v]).length=xs.length+1:=by simp
 have e:ixN (xs++[v]).length (-1)=some xs.length:=by
  unfold ixN
  rw [hl,if_neg (by decide),if_pos (by omega)]
  congr 1
  omega
 unfold oO
 rw [e]
 show (xs++[v])[xs.length]?=some v
 simp
noncomputable def acy (b:Expr):Prop:=∀o i,subscripted b false o i=operate [o,i] (getItem o i)
noncomputable def Wt (X:Cx) (r:R2):Prop:=
 ∀(value slice:Expr) (pins:List (Addr×Obj)) (s:Shared) (σ:St) (H:Hp) (x y:V) (v u:Value) (Q:VK),Inv X pins σ H s→RelV x v→RelV y u→r x y H Q→
  subscripted slice false v u=operate [v,u] (getItem v u)→wpAny (model X.prog X.w) X.A (subscriptTail value slice v u) (EP X pins σ Q) X.xe s
noncomputable def MtR (X:Cx) (id:String) (r:V→List V→Hp→VK→Prop):Prop:=
 ∀(pins:List (Addr×Obj)) (s:Shared) (σ:St) (H:Hp) (x:V) (xs:List V) (v:Value) (us:List Value) (Q:VK),Inv X pins σ H s→RelV x v→Vals xs us→r x xs H Q→
  wpAny (model X.prog X.w) X.A (call (.builtin id) (v::us)) (EP X pins σ Q) X.xe s
section
variable {X:Cx} {a b:Expr} {ta tb:TE} {pos:Pos}
theorem bA {r:R2} (hr:Wt X r) (ha:PE X a ta) (hb:PE X b tb) (hs:acy b):PE X (.Subscript a b pos) (tOp r ta tb):=by
 intro pins s σ H Q I h
 exact Subscript_ (ad5 ha hb I h fun v u s2 x y H2 I2 rx ry q=>hr a b pins s2 σ H2 x y v u Q I2 rx ry q (hs _ _))
noncomputable def gj (K:PySem.W.Frag):R2:=fun x y H Q=>∃p xs i v,x=.ref p∧y=.int i∧b7 K H p xs∧oO xs i=some v∧Q v H
noncomputable def aa7 (K:PySem.W.Frag):R2:=fun x y H Q=>∃p xs i v,x=.ref p∧y=.int i∧zj K H p xs∧oO xs i=some v∧Q v H
theorem bB:Wt X (gj X.K):=by
 intro value slice pins s σ H x y v u Q I rx ry h hs
 obtain ⟨p,xs,i,z,rfl,rfl,hq,he,q⟩:=h
 cases rx
 obtain ⟨t,rfl⟩:=ry
 obtain ⟨its,r,pl,hz⟩:=I.list hq
 obtain ⟨j,h1,h2,h3,h4,h5⟩:=Yl he
 obtain ⟨w,ew,rw'⟩:=r.get h2
 have hl:=r.length
 have hn:=Ri
 have fin:EP X pins σ Q w s:=⟨z,H,I,rw',q⟩
 by_cases h0:0≤i
 ·have hj:i.toNat=j:=by
   rw [seqIndex_of h0 h5]at h1
   exact Option.some.inj h1
  exact item_listR pl.isList h0 (by omega) (by rw [hj];simpa using ew) fin hs
 ·have hj:(i+(its.toArray.size:Int)).toNat=j:=by
   rw [seqIndex_neg (by omega) h4]at h1
   rw [List.size_toArray,←hl]
   exact Option.some.inj h1
  exact subscriptTail_builtinR (x:=w) pl.isList.typeIs slot_list_getitem.lookup
   (wpAny_getItem_list_neg (Q:=fun r s'=>r=w∧EP X pins σ Q r s') pl.isList (by omega) (by rw [List.size_toArray]<;>omega) (by omega) (by rw [hj];simpa using ew) ⟨rfl,fin⟩) hs
theorem vD:Wt X (aa7 X.K):=by
 intro value slice pins s σ H x y v u Q I rx ry h hs
 obtain ⟨p,xs,i,z,rfl,rfl,hq,he,q⟩:=h
 cases rx
 obtain ⟨t,rfl⟩:=ry
 obtain ⟨its,r,pl,hz⟩:=I.tuple hq
 obtain ⟨j,h1,h2,h3,h4,h5⟩:=Yl he
 obtain ⟨w,ew,rw'⟩:=r.get h2
 have hl:=r.length
 have hn:=Ri
 have fin:EP X pins σ Q w s:=⟨z,H,I,rw',q⟩
 exact subscriptTail_builtinR (x:=w) pl.typeIs slot_tuple_getitem.lookup
  (getItem_tuple (j:=j) (Q:=fun r s'=>r=w∧EP X pins σ Q r s') pl (by omega) (by omega) (by rw [List.size_toArray,←hl];exact h1) (by simpa using ew) ⟨rfl,fin⟩) hs
theorem Wu (its:List Value) (n j:Nat) (u:Value):Obj.mapSeq (·.setIfInBounds j u) { cls:=.type "list",data:=.seq its.toArray n }={ cls:=.type "list",data:=.seq (its.set j u).toArray n }:=by
 simp [Obj.mapSeq]
theorem Inv.lst {pins:List (Addr×Obj)} {σ:St} {H:Hp} {s:Shared} {p:Addr} {xs:List V} (I:Inv X pins σ H s) (h:H p=some (.lst xs)) :
  ∃(its:List Value) (n:Nat),Vals xs its∧s.heap.get? p=some { cls:=.type "list",data:=.seq its.toArray n }∧xs.length≤sizeLine:=by
 obtain ⟨z,its,n,r,e⟩:=I.hok p _ h
 exact ⟨its,n,r,e,z⟩
theorem Inv.aea {pins:List (Addr×Obj)} {σ:St} {H:Hp} {s:Shared} {p:Addr} {xs ys:List V} {its its':List Value} {n n':Nat} {f:Obj→Obj} (I:Inv X pins σ H s) (h:H p=some (.lst xs))
  (ho:s.heap.get? p=some { cls:=.type "list",data:=.seq its.toArray n }) (hf:f { cls:=.type "list",data:=.seq its.toArray n }={ cls:=.type "list",data:=.seq its'.toArray n' }) (r:Vals ys its') (hz:ys.length≤sizeLine) (t:Nat) :
  Inv X pins σ (upd H p (.lst ys)) { s with heap:=s.heap.update p f,toks:=t }:=by
 have e:(s.heap.update p f).get? p=some { cls:=.type "list",data:=.seq its'.toArray n' }:=by
  rw [Heap.get?_update_self f ho (by rw [hf]<;>rfl),hf]
 refine I.write (x:=p) (e:=p) (by rw [h];trivial) (.inl rfl) (fun b u hb q=>(Heap.get?_update_other _ _ (Ne.symm hb)).trans q) ⟨_,e⟩ ?_
 exact ⟨hz,its',n',r,e⟩
noncomputable def afG:V→V→V→Hp→(Hp→Prop)→Prop:=fun o i v H Q=>∃p xs k j,o=.ref p∧i=.int k∧H p=some (.lst xs)∧ixN xs.length k=some j∧Q (upd H p (.lst (xs.set j v)))
theorem set_list:afD X afG:=by
 intro pins s σ H o i v ov iv u Q I ro ri rv h
 obtain ⟨p,xs,k,j,rfl,rfl,hp,hj,q⟩:=h
 cases ro
 obtain ⟨t,rfl⟩:=ri
 obtain ⟨its,n,r,ho,hz⟩:=I.lst hp
 obtain ⟨h1,h2,h3,h4⟩:=Yk hj
 have hl:=r.length
 have hn:=Ri
 have I':Inv X pins σ (upd H p (.lst (xs.set j v))) { s with heap:=s.heap.update p (Obj.mapSeq (·.setIfInBounds j u)) }:=
  I.aea hp ho (Wu its n j u) (r.set rv j) (by rw [List.length_set];exact hz) s.toks
 by_cases h0:0≤k
 ·have hk:k.toNat=j:=by
   rw [seqIndex_of h0 h4]at h1
   exact Option.some.inj h1
  exact PySem.W.ki_setAt ho h0 (by omega) (by rw [List.size_toArray,←hl];exact h4) (by rw [hk];exact ⟨_,I',q⟩)
 ·have hk:(k+(its.toArray.size:Int)).toNat=j:=by
   rw [seqIndex_neg (by omega) h3]at h1
   rw [List.size_toArray,←hl]
   exact Option.some.inj h1
  exact PySem.W.ki_setBack ho (by omega) (by rw [List.size_toArray,←hl];exact h3) (by omega) (by rw [hk];exact ⟨_,I',q⟩)
theorem Rm (lo hi:Option Int) (n:Nat):(sliceBounds lo hi none n).1=((HT.Ut n 0 lo:Nat):Int)∧(sliceBounds lo hi none n).2.1=((HT.Ut n n hi:Nat):Int)∧(sliceBounds lo hi none n).2.2=1:=by
 refine ⟨?_,?_,rfl⟩
 ·cases lo with
  | none=>simp [sliceBounds,HT.Ut]
  | some i=>
   simp only [sliceBounds,HT.Ut,Option.getD_none,show (1:Int)>0 by decide,if_true]
   by_cases h:i<0
   ·simp only [h,if_true]<;>omega
   ·simp only [h,if_false]<;>omega
 ·cases hi with
  | none=>simp [sliceBounds,HT.Ut]
  | some i=>
   simp only [sliceBounds,HT.Ut,Option.getD_none,show (1:Int)>0 by decide,if_true]
   by_cases h:i<0
   ·simp only [h,if_true]<;>omega
   ·simp only [h,if_false]<;>omega
theorem Nr (its:List Value) (lo hi:Option Int):slicePick its.toArray lo hi none=((its.drop (HT.Ut its.length 0 lo)).take (HT.Ut its.length its.length hi-HT.Ut its.length 0 lo)).toArray:=by
 obtain ⟨h1,h2,h3⟩:=Rm lo hi its.toArray.size
 unfold slicePick
 rw [h1,h2,h3]
 simp only [sliceRange_one,pick_run,List.size_toArray]<;>rfl
noncomputable def Zk (K:PySem.W.Frag):V→Option Int→Option Int→Hp→VK→Prop:=fun x lo hi H Q=>∃a xs,x=.ref a∧b7 K H a xs∧∀p,H p=none→Q (.ref p) (upd H p (.lst (Er xs lo hi)))
theorem vG:SlR X (Zk X.K):=by
 intro pins s σ H x v vl vu lo hi sl Q I rx hs pl pu h
 obtain ⟨a,xs,rfl,hx,q⟩:=h
 cases rx
 obtain ⟨its,r,ht,hz⟩:=I.list hx
 have hlen:=r.length
 refine ⟨"list",_,slot_list_getitem.lookup,ht.isList.typeIs,?_⟩
 refine wpAny_getItem_list_slice ht.isList hs pl pu .none (by simp) ?_ (by rw [List.size_toArray]<;>omega)
 rw [Nr,←hlen]
 refine ⟨.ref s.heap.objs.size,_,I.laid (t':=s.toks) (o:=.lst (Er xs lo hi)) (fun b ob q=>Heap.get?_push_of_some _ q) (Nat.le_refl _) ?_,rfl,q _ (I.hok.fresh (Nat.le_refl _))⟩
 exact ⟨Nat.le_trans (Uv xs lo hi) hz,_,0,(r.drop (HT.Ut xs.length 0 lo)).take (HT.Ut xs.length xs.length hi-HT.Ut xs.length 0 lo),Heap.get?_push_size _ rfl⟩
theorem aZ:Cd X (.builtin "len") (fun xs H Q=>∃p ys,xs=[.ref p]∧(b7 X.K H p ys∨zj X.K H p ys)∧Q (.int ys.length) H):=by
 intro pins s σ H xs us Q I r h
 obtain ⟨p,ys,rfl,hq,q⟩:=h
 obtain ⟨u,rfl,rx⟩:=vals1 r
 cases rx
 have hn:=Ri
 rcases hq with hq | hq
 ·obtain ⟨its,r',pl,hz⟩:=I.list hq
  have hlen:=r'.length
  exact Calls.call_len_list pl.isList (by simp only [List.size_toArray]<;>omega) ⟨.int ys.length,H,I.tok _,⟨s.toks+1,by rw [List.size_toArray,hlen]⟩,q⟩
 ·obtain ⟨its,r',pl,hz⟩:=I.tuple hq
  have hlen:=r'.length
  exact len_tuple pl (by simp only [List.size_toArray]<;>omega) ⟨.int ys.length,H,I.tok _,⟨s.toks+1,by rw [List.size_toArray,hlen]⟩,q⟩
noncomputable def tyV (K:PySem.W.Frag) (T:String) (x:V) (H:Hp):Prop:=match x with
 | .str _=>T = "str"
 | .int _=>T = "int"
 | .ref p=>(T = "list" ∧ ∃xs,b7 K H p xs)∨(T = "tuple" ∧ ∃o,K.lookup p=some o∧o.cls=.type "tuple" ∧ o.dict=none)∨
   (T = "dict" ∧ ((∃kvs,H p=some (.dK kvs))∨∃kvs,H p=some (.dT kvs)))∨(T = "set" ∧ ∃S n,H p=some (.set S n))
 | _=>False
theorem aa8 {pins:List (Addr×Obj)} {σ:St} {H:Hp} {s:Shared} {T:String} {x:V} {v:Value} (I:Inv X pins σ H s) (r:RelV x v) (ty:tyV X.K T x H) :
  s.TypeIs v T∧∀a,v=.ref a→∃ob,s.heap.get? a=some ob∧ob.dict=none:=by
 cases x with
 | str z=>
  obtain ⟨t,rfl⟩:=r
  cases (show T = "str" from ty)
  exact ⟨typeIs_str s z t,fun _ e=>nomatch e⟩
 | int i=>
  obtain ⟨t,rfl⟩:=r
  cases (show T = "int" from ty)
  exact ⟨typeIs_int s i t,fun _ e=>nomatch e⟩
 | ref p=>
  cases r
  rcases ty with ⟨rfl,xs,hq⟩ | ⟨rfl,o,hk,hc,hd⟩ | ⟨rfl,hk⟩ | ⟨rfl,S,n,hk⟩
  ·obtain ⟨its,_,pl,_⟩:=I.list hq
   refine ⟨pl.isList.typeIs,fun a e=>?_⟩
   cases e
   obtain ⟨o,n,e,c,hd,_⟩:=pl
   exact ⟨o,e,hd⟩
  ·refine ⟨⟨o,I.Tt p o hk,hc⟩,fun a e=>?_⟩
   cases e
   exact ⟨o,I.Tt _ o hk,hd⟩
  ·have z:∃o,s.heap.get? p=some o∧o.ExactDict:=by
    rcases hk with ⟨kvs,hk⟩ | ⟨kvs,hk⟩
    ·obtain ⟨_,_,_,_,o,_,_,e,ex,_⟩:=I.hok p _ hk
     exact ⟨o,e,ex⟩
    ·obtain ⟨_,_,_,_,o,_,_,e,ex,_⟩:=I.hok p _ hk
     exact ⟨o,e,ex⟩
   obtain ⟨o,e,ex⟩:=z
   refine ⟨⟨o,e,ex.1⟩,fun a e2=>?_⟩
   cases e2
   exact ⟨o,e,ex.2.1⟩
  ·obtain ⟨o,_,_,_,e,ex,_⟩:=I.hok p _ hk
   refine ⟨⟨o,e,ex.1⟩,fun a e2=>?_⟩
   cases e2
   exact ⟨o,e,ex.2.1⟩
 | _=>exact False.elim ty
noncomputable def afH (K:PySem.W.Frag) (T:String) (r:V→List V→Hp→VK→Prop) (to:TE):TE:=fun σ H Q=>to σ H fun x H1=>tyV K T x H1∧r x [] H1 Q
noncomputable def tBM (K:PySem.W.Frag) (T:String) (r:V→List V→Hp→VK→Prop) (to:TE) (t:TA):TE:=fun σ H Q=>to σ H fun x H1=>tyV K T x H1∧t σ H1 fun xs H2=>r x xs H2 Q
variable {o e:Expr} {es:List Expr} {to:TE} {t:TA} {name:Str} {apos cpos:Pos} {T id:String} {r:V→List V→Hp→VK→Prop}
theorem aeb (pa:PlainAttrs T) (slot:Slot T name id) (hty:typeOf (.builtin id)=pure (.type "method_descriptor")) (hm:MtR X id r) (ho:PE X o to)
  (hbase:attributeBase o name X.env (eval o X.env)=eval o X.env:=by rfl) (hline:(apos.endLine == cpos.line)=true:=by rfl):PE X (.Call (.Attribute o name apos) [] [] cpos) (afH X.K T r to):=by
 intro pins s σ H Q I h
 refine wpAny_Call_method0_late hbase hline (fW (ho pins s σ H _ I h) fun v s1 ⟨x,H1,I1,r1,ty,q1⟩=>?_)
 obtain ⟨h1,h2⟩:=aa8 I1 r1 ty
 exact ⟨T,id,pa,slot,hty,h1,h2,Calls.callWith_builtin rfl (PySem.evalArgs_none (hm pins s1 σ H1 x [] v [] Q I1 r1 .nil q1))⟩
theorem uR (pa:PlainAttrs T) (slot:Slot T name id) (hty:typeOf (.builtin id)=pure (.type "method_descriptor")) (hm:MtR X id r) (ho:PE X o to) (ha:PA X (e::es) t)
  (hbase:attributeBase o name X.env (eval o X.env)=eval o X.env:=by rfl)
  (hfew:((backTo cpos (starEach (e::es) X.env)).all (fun x=>!x.1)&&(backToKw cpos (keywordEach [] X.env)).all (fun x=>x.1.isSome)
   && decide ((e::es).length+([]:List Keyword).length+(if ([]:List Keyword).isEmpty then 0 else 1)<30))=true:=by rfl)
  (hline:(apos.endLine == cpos.line)=true:=by rfl) (hs:starEach (e::es) X.env=(false,eval e X.env)::starEach es X.env:=by rfl) (hplain:(backTo cpos (starEach es X.env)).any (·.1)=false:=by rfl) :
  PE X (.Call (.Attribute o name apos) (e::es) [] cpos) (tBM X.K T r to t):=by
 intro pins s σ H Q I h
 refine wpAny_Call_method_late hbase hfew hline rfl (fW (ho pins s σ H _ I h) fun v s1 ⟨x,H1,I1,r1,ty,q1⟩=>?_)
 obtain ⟨h1,h2⟩:=aa8 I1 r1 ty
 refine ⟨T,id,pa,slot,hty,h1,h2,?_⟩
 have hA:=ha cpos pins s1 σ H1 _ I1 q1
 rw [hs]at hA ⊢
 refine Calls.callWith_builtin (by show (false||(backTo cpos (starEach es X.env)).any (·.1))=false;rw [hplain]<;>rfl) (Calls.evalArgs_plain ?_)
 exact fW hA fun us s2 ⟨vs,H2,I2,r2,q2⟩=>hm pins s2 σ H2 x vs v us Q I2 r1 r2 q2
end
end L2
namespace L2
open PySem PySem.Spec PyProof.Rows
noncomputable def MtM (X:Cx) (id:String) (r:V→List V→Hp→VK→Prop):Prop:=
 ∀(pins:List (Addr×Obj)) (s:Shared) (σ:St) (H:Hp) (x:V) (xs:List V) (v:Value) (us:List Value) (Q:VK),Inv X pins σ H s→RelV x v→Vals xs us→r x xs H Q→
  wpAny (model X.prog X.w) X.A (call (.builtin id) (v::us)) (EP X pins σ Q) X.xe s
theorem Vals.one:∀{x:V} {us:List Value},Vals [x] us→∃u,us=[u]∧RelV x u
 | _,_,.cons r .nil=>⟨_,rfl,r⟩
theorem Vals.zero:∀{us:List Value},Vals [] us→us=[]
 | _,.nil=>rfl
theorem Vals.dropLast {xs:List V} {us:List Value} (h:Vals xs us):Vals xs.dropLast us.dropLast:=by
 induction h with
 | nil=>exact .nil
 | cons r t ih=>
  cases t with
  | nil=>exact .nil
  | cons q t'=>exact .cons r ih
theorem Vals.eraseIdx:∀{xs:List V} {us:List Value} (i:Nat),Vals xs us→Vals (xs.eraseIdx i) (us.eraseIdx i)
 | _,_,_,.nil=>.nil
 | _,_,0,.cons _ t=>t
 | _,_,i+1,.cons r t=>.cons r (Vals.eraseIdx i t)
theorem Wv {α:Type} (l:List α):l.eraseIdx (l.length-1)=l.dropLast:=by
 induction l with
 | nil=>rfl
 | cons a r ih=>
  cases r with
  | nil=>rfl
  | cons b r=>
   have e:(a::b::r).length-1=((b::r).length-1)+1:=by
    have h1:(a::b::r).length=r.length+2:=rfl
    have h2:(b::r).length=r.length+1:=rfl
    omega
   rw [e,List.eraseIdx_cons_succ,ih]
   all_goals rfl
theorem Qo {α:Type}:∀(l:List α) (i:Nat),(l.eraseIdx i).length≤l.length
 | [],_=>Nat.le_refl _
 | _::_,0=>Nat.le_succ _
 | _::r,i+1=>Nat.succ_le_succ (Qo r i)
section
variable {X:Cx} {pins:List (Addr×Obj)} {σ:St} {H:Hp} {s:Shared} {l b:Addr} {xs ys zs:List V}
theorem Inv.acz {its its':List Value} {n:Nat} {f:Array Value→Array Value} {t':Nat} (I:Inv X pins σ H s) (hH:H l=some (.lst xs))
  (e:s.heap.get? l=some { cls:=.type "list",data:=.seq its.toArray n }) (hf:f its.toArray=its'.toArray) (hv:Vals ys its') (hz:ys.length≤sizeLine) :
  Inv X pins σ (upd H l (.lst ys)) { s with heap:=s.heap.update l (Obj.mapSeq f),toks:=t' }:=by
 have q:=PySem.IsL.update e f
 rw [hf]at q
 refine I.write (x:=l) (e:=l) (by rw [hH];exact trivial) (.inl rfl) (fun b' u hb hu=>(Heap.get?_update_other s.heap (Obj.mapSeq f) (Ne.symm hb)).trans hu) ⟨_,q⟩ ?_
 exact ⟨hz,its',_,hv,q⟩
theorem Inv.ag5 {its:List Value} {t':Nat} (I:Inv X pins σ H s) (hv:Vals ys its) (hz:ys.length≤sizeLine) :
  Inv X pins σ (upd H s.heap.objs.size (.lst ys)) { s with heap:=s.heap.push { cls:=.type "list",data:=.seq its.toArray },toks:=t' }:=
 I.laid (fun _ _ q=>Heap.get?_push_of_some _ q) (Nat.le_refl _) ⟨hz,its,0,hv,Heap.get?_push_size _ rfl⟩
theorem Inv.fresh (I:Inv X pins σ H s):H s.heap.objs.size=none:=I.hok.fresh (Nat.le_refl _)
theorem Inv.Ww (I:Inv X pins σ H s) (hH:H l=some (.lst xs)):xs.length≤sizeLine∧∃(its:List Value) (n:Nat),Vals xs its∧xs.length=its.length∧s.heap.get? l=some { cls:=.type "list",data:=.seq its.toArray n }:=by
 obtain ⟨z,its,n,r,e⟩:=I.hok l _ hH
 exact ⟨z,its,n,r,r.length,e⟩
theorem aa9 {n:Nat} (h:n≤sizeLine):Builtin.List.listTooLong n=false:=by
 unfold Builtin.List.listTooLong
 exact decide_eq_false (by omega)
end
section
variable {X:Cx}
noncomputable def qu:V→List V→Hp→VK→Prop:=fun x vs H Q=>∃l xs y,x=.ref l∧vs=[y]∧H l=some (.lst xs)∧xs.length<sizeLine∧Q .non (upd H l (.lst (xs++[y])))
theorem jB:MtM X "list.append" qu:=by
 intro pins s σ H x vs v us Q I rx rv h
 obtain ⟨l,xs,y,rfl,rfl,hH,hz,q⟩:=h
 cases rx
 obtain ⟨u,rfl,ru⟩:=rv.one
 obtain ⟨z,its,n,r,hl,e⟩:=I.Ww hH
 refine call_meets F.slot_list_append ⟨_,e,rfl⟩ F.entry_list_append (F.args_list_append_2 _ _) (PySem.list_append l its.toArray n u (by rw [List.size_toArray];omega)) ⟨e,?_⟩
 refine ⟨.non,_,I.acz (its':=its++[u]) hH e (by simp) (r.append (.cons ru .nil)) ?_,rfl,q⟩
 rw [List.length_append,List.length_singleton]
 omega
noncomputable def Jd:V→List V→Hp→VK→Prop:=fun x vs H Q=>∃l b xs zs,x=.ref l∧vs=[.ref b]∧H l=some (.lst xs)∧H b=some (.lst zs)∧xs.length+zs.length≤sizeLine∧Q .non (upd H l (.lst (xs++zs)))
theorem Es:MtM X "list.extend" Jd:=by
 intro pins s σ H x vs v us Q I rx rv h
 obtain ⟨l,b,xs,zs,rfl,rfl,hH,hB,hz,q⟩:=h
 cases rx
 obtain ⟨u,rfl,ru⟩:=rv.one
 cases ru
 obtain ⟨z,its,n,r,hl,e⟩:=I.Ww hH
 obtain ⟨z2,its2,n2,r2,hl2,e2⟩:=I.Ww hB
 have hsz:its.toArray.size+its2.toArray.size≤sizeLine:=by rw [List.size_toArray,List.size_toArray];omega
 have xn:¬(!its.toArray.isEmpty&&Builtin.List.listTooLong (its.toArray.size+its2.toArray.size))=true:=by
  rw [aa9 hsz,Bool.and_false]
  exact Bool.false_ne_true
 refine call_meets F.slot_list_extend ⟨_,e,rfl⟩ F.entry_list_extend (F.args_list_extend_2 _ _)
  (AutoSeq1.list_extend_list_list_0 l its.toArray n b its2.toArray n2 xn (by rw [List.size_toArray];omega) (by omega)) ⟨e,e2,?_⟩
 refine ⟨.non,_,I.acz (its':=its++its2) hH e (by simp) (r.append r2) ?_,rfl,q⟩
 rw [List.length_append]
 omega
noncomputable def aec:V→List V→Hp→VK→Prop:=fun x vs H Q=>∃l xs y,x=.ref l∧vs=[]∧H l=some (.lst xs)∧xs[xs.length-1]?=some y∧Q y (upd H l (.lst xs.dropLast))
theorem aed:MtM X "list.pop" aec:=by
 intro pins s σ H x vs v us Q I rx rv h
 obtain ⟨l,xs,y,rfl,rfl,hH,hy,q⟩:=h
 cases rx
 have hus:=rv.zero
 subst hus
 obtain ⟨z,its,n,r,hl,e⟩:=I.Ww hH
 obtain ⟨u,hu,ru⟩:=r.get hy
 have hy':its.toArray[its.toArray.size-1]?=some u:=by
  show its.toArray[its.length-1]?=some u
  rw [←Array.getElem?_toList,←hl]
  exact hu
 refine call_meets F.slot_list_pop ⟨_,e,rfl⟩ F.entry_list_pop (F.args_list_pop_1 _) (MeetsSeq.list_pop_last l its.toArray n u hy' (by rw [List.size_toArray];omega)) ⟨e,?_⟩
 refine ⟨y,_,I.acz (its':=its.dropLast) hH e ?_ r.dropLast ?_,ru,q⟩
 ·show its.toArray.eraseIdxIfInBounds (its.toArray.size-1)=its.dropLast.toArray
  rw [List.size_toArray,List.eraseIdxIfInBounds_toArray,Wv]
 ·rw [List.length_dropLast]
  omega
noncomputable def aee:R2:=fun x y H Q=>∃l b xs zs,x=.ref l∧y=.ref b∧H l=some (.lst xs)∧H b=some (.lst zs)∧xs.length+zs.length≤sizeLine∧∀p,H p=none→Q (.ref p) (upd H p (.lst (xs++zs)))
theorem j5:Ca X (binaryOp .Add) aee:=by
 intro pins s σ H x y v u Q I rx ry h
 obtain ⟨l,b,xs,zs,rfl,rfl,hH,hB,hz,q⟩:=h
 cases rx
 cases ry
 obtain ⟨z,its,n,r,hl,e⟩:=I.Ww hH
 obtain ⟨z2,its2,n2,r2,hl2,e2⟩:=I.Ww hB
 refine PySem.P.add_list e e2 ?_ (by rw [List.size_toArray,List.size_toArray];omega)
 have ea:its.toArray++its2.toArray=(its++its2).toArray:=by simp
 rw [ea]
 exact ⟨.ref _,_,I.ag5 (t':=s.toks) (r.append r2) (by rw [List.length_append];omega),rfl,q _ I.fresh⟩
end
end L2
namespace L2
open PySem PySem.Spec PyProof.Rows
theorem Vals.ints:∀{ns:List Int} {us:List Value},Vals (ns.map V.int) us→IntsAre us ns
 | [],us,h=>by
  rw [List.map_nil]at h
  cases h
  exact IntsAre.nil
 | n::ns,us,h=>by
  rw [List.map_cons]at h
  cases h with
  | cons r t=>
   obtain ⟨k,rfl⟩:=r
   exact IntsAre.cons n k (Vals.ints t)
theorem Vals.bls:∀{bs:List Bool} {us:List Value},Vals (bs.map V.bl) us→us=bs.map Value.bool
 | [],us,h=>by
  rw [List.map_nil]at h
  cases h
  rfl
 | b::bs,us,h=>by
  rw [List.map_cons]at h
  cases h with
  | cons r t=>
   cases r
   rw [Vals.bls t,List.map_cons]
theorem Vals.acA {a:Addr} {us:List Value} (r:Vals [V.ref a] us):us=[Value.ref a]:=by
 cases r with
 | cons r t=>
  cases t
  cases r
  rfl
section
variable {prog:Program} {w:World} {A:Around} {E:Value→Shared→Prop} {s:Shared} {l:Addr} {its:List Value} {ns:List Int} {Q:Value→Shared→Prop}
theorem acB (hh:A.handled=none) (hl:s.heap.IsList l its.toArray) (hi:IntsAre its ns)
  (h:∀h' tk t',(∀b o,s.heap.get? b=some o→h'.get? b=some o)→Q (.int ns.sum t') { s with heap:=h',toks:=tk }):wpAny (model prog w) A (call (.builtin "sum") [.ref l]) Q E s:=by
 obtain ⟨xs,e⟩:=hi.allInts.items
 have hn:numsOf (intItems xs).toList=ns:=by rw [←e];exact hi.numsOf
 rw [nums_intItems]at hn
 rw [e]at hl
 refine PySem.sum_intListG hh hl fun h' tk t' hk=>?_
 have:=h h' tk t' hk
 rw [preSum_eq,List.take_of_length_le (by simp),hn];exact this
theorem acC (hh:A.handled=none) (hl:s.heap.IsList l its.toArray) (hi:IntsAre its ns) (hne:0<ns.length)
  (h:∀h' tk M t',(∀b o,s.heap.get? b=some o→h'.get? b=some o)→M∈ns→(∀a,a∈ns→a≤M)→Q (.int M t') { s with heap:=h',toks:=tk }):wpAny (model prog w) A (call (.builtin "max") [.ref l]) Q E s:=by
 obtain ⟨xs,e⟩:=hi.allInts.items
 have hn:numsOf (intItems xs).toList=ns:=by rw [←e];exact hi.numsOf
 rw [nums_intItems]at hn
 subst hn
 rw [e]at hl
 have hsz:0<xs.size:=by simpa using hne
 refine PySem.max_intList hh hl hsz fun v h' tk hv hk=>?_
 obtain ⟨t,rfl⟩:=intItems_at hv
 obtain ⟨h1,h2⟩:=argBest_gt (numAt xs) (xs.size-1)
 refine h h' tk _ t hk ?_ fun a ha=>?_
 ·rw [numAt_eq];exact PySem.getD_mem (by rw [List.length_map,Array.length_toList];omega)
 ·obtain ⟨j,hj,rfl⟩:=mem_getD ha
  rw [List.length_map,Array.length_toList]at hj
  rw [←numAt_eq];exact h2 j (by omega)
end
section
variable {X:Cx}
noncomputable def ag7 (K:PySem.W.Frag):List V→Hp→VK→Prop:=fun vs H Q=>∃(a:Addr) (ns:List Int),vs=[V.ref a]∧b7 K H a (ns.map V.int)∧Q (.int ns.sum) H
noncomputable def ag8 (K:PySem.W.Frag):List V→Hp→VK→Prop:=fun vs H Q=>∃(a:Addr) (ns:List Int),vs=[V.ref a]∧b7 K H a (ns.map V.int)∧0<ns.length∧∀m,m∈ns→(∀y,y∈ns→y≤m)→Q (.int m) H
theorem aba (hc:X.calm=true):Cd X (.builtin "sum") (ag7 X.K):=by
 intro pins s σ H vs us Q I r h
 obtain ⟨a,ns,rfl,hs,q⟩:=h
 obtain ⟨its,rv,hl,_⟩:=I.list hs
 rw [Vals.acA r]
 exact acB (I.ok.hd hc) hl.isList rv.ints fun h' tk t' hk=>⟨.int _,H,I.kept hk,⟨_,rfl⟩,q⟩
theorem aef (hc:X.calm=true):Cd X (.builtin "max") (ag8 X.K):=by
 intro pins s σ H vs us Q I r h
 obtain ⟨a,ns,rfl,hs,hne,q⟩:=h
 obtain ⟨its,rv,hl,_⟩:=I.list hs
 rw [Vals.acA r]
 exact acC (I.ok.hd hc) hl.isList rv.ints hne fun h' tk m t' hk h1 h2=>⟨.int _,H,I.kept hk,⟨_,rfl⟩,q m h1 h2⟩
end
theorem Uw {prog:Program} {w:World} {A:Around} {E:Value→Shared→Prop} {s:Shared} {l:Addr} {items:Array Value} {Q:Value→Shared→Prop} (hl:s.heap.IsList l items)
  (h:∀s₂:Shared,s₂={ s with heap:=s.heap.push { cls:=.type "list_iterator",data:=.fields #[.ref l,.int 0 0] } }→
   (s₂.heap.IsListIter s.heap.objs.size l 0∧s₂.heap.IsList l items)→l≠s.heap.objs.size→Q (.ref s.heap.objs.size) s₂):wpAny (model prog w) A (pyIter (.ref l)) Q E s:=by
 have hlt:l<s.heap.objs.size:=by obtain ⟨_,e,_⟩:=hl;exact Heap.lt_size e
 exact wpAny_pyIter_list hl (h _ rfl ⟨⟨_,Heap.get?_push_size _ rfl,rfl,rfl⟩,hl.push _⟩ (Nat.ne_of_lt hlt))
theorem G6 {prog:Program} {w:World} {A:Around} {bs:List Bool} {its:List Value} (e:its=bs.map Value.bool) :
  TruthOf prog w A (fun i v=>its.toArray[i]?=some v) (fun i=>bs.getD i false):=fun i v s Q E hv hq=>by
 have hv':its[i]?=some v:=by simpa using hv
 rw [e,List.getElem?_map]at hv'
 obtain ⟨b,hb,rfl⟩:=Option.map_eq_some_iff.mp hv'
 have hg:bs.getD i false=b:=by rw [List.getD_eq_getElem?_getD,hb]<;>rfl
 have hq':Q (bs.getD i false) s:=hq
 rw [hg]at hq'
 exact wpAny_truthy_bool hq'
theorem any_range:∀bs:List Bool,(List.range bs.length).any (fun i=>bs.getD i false)=bs.any id
 | []=>rfl
 | b::bs=>by
  rw [List.length_cons,List.range_succ_eq_map,List.any_cons,List.any_map,List.any_cons,←any_range bs]
  all_goals rfl
theorem all_range:∀bs:List Bool,(List.range bs.length).all (fun i=>bs.getD i false)=bs.all id
 | []=>rfl
 | b::bs=>by
  rw [List.length_cons,List.range_succ_eq_map,List.all_cons,List.all_map,List.all_cons,←all_range bs]
  all_goals rfl
section
variable {X:Cx}
noncomputable def afI (K:PySem.W.Frag):List V→Hp→VK→Prop:=fun vs H Q=>∃(a:Addr) (bs:List Bool),vs=[V.ref a]∧b7 K H a (bs.map V.bl)∧Q (.bl (bs.any id)) H
noncomputable def ag9 (K:PySem.W.Frag):List V→Hp→VK→Prop:=fun vs H Q=>∃(a:Addr) (bs:List Bool),vs=[V.ref a]∧b7 K H a (bs.map V.bl)∧Q (.bl (bs.all id)) H
theorem aeg (hc:X.calm=true):Cd X (.builtin "any") (afI X.K):=by
 intro pins s σ H vs us Q I r h
 obtain ⟨a,bs,rfl,hs,q⟩:=h
 obtain ⟨its,rv,hl,_⟩:=I.list hs
 rw [Vals.acA r]
 have hb:=rv.bls
 refine call_any_walk (Uw hl.isList fun s₂ e2 st hne=>?_)
 subst e2
 refine ⟨_,_,_,_,_,_,_,rfl,Walks.list (A:=X.A.in1) (I.ok.hd hc) _ a hne its.toArray,st,G6 hb,fun h' tk hk=>?_⟩
 refine ⟨.bl _,H,I.kept fun b o eo=>hk b o (fun hmem=>?_) (Heap.get?_push_of_some _ eo),?_,q⟩
 ·rcases List.mem_cons.mp hmem with e1 | hmem
  ·exact absurd (e1▸Heap.lt_size eo) (Nat.lt_irrefl _)
  ·cases hmem
 ·show Value.bool _=Value.bool _
  rw [←any_range,hb,List.size_toArray,List.length_map]
theorem Wx (hc:X.calm=true):Cd X (.builtin "all") (ag9 X.K):=by
 intro pins s σ H vs us Q I r h
 obtain ⟨a,bs,rfl,hs,q⟩:=h
 obtain ⟨its,rv,hl,_⟩:=I.list hs
 rw [Vals.acA r]
 have hb:=rv.bls
 refine call_all_walk (Uw hl.isList fun s₂ e2 st hne=>?_)
 subst e2
 refine ⟨_,_,_,_,_,_,_,rfl,Walks.list (A:=X.A.in1) (I.ok.hd hc) _ a hne its.toArray,st,G6 hb,fun h' tk hk=>?_⟩
 refine ⟨.bl _,H,I.kept fun b o eo=>hk b o (fun hmem=>?_) (Heap.get?_push_of_some _ eo),?_,q⟩
 ·rcases List.mem_cons.mp hmem with e1 | hmem
  ·exact absurd (e1▸Heap.lt_size eo) (Nat.lt_irrefl _)
  ·cases hmem
 ·show Value.bool _=Value.bool _
  rw [←all_range,hb,List.size_toArray,List.length_map]
end
mutual
inductive Dp (K:PySem.W.Frag) (H:Hp):V→PyData→Prop
 | non:Dp K H .non .none
 | bl (b:Bool):Dp K H (.bl b) (.bool b)
 | int (i:Int):Dp K H (.int i) (.int i)
 | str (x:Str):Dp K H (.str x) (.str x)
 | lst {a:Addr} {xs:List V} {ds:List PyData}:b7 K H a xs→Qp K H xs ds→Dp K H (.ref a) (.list ds)
 | tup {a:Addr} {xs:List V} {ds:List PyData}:zj K H a xs→Qp K H xs ds→Dp K H (.ref a) (.tuple ds)
inductive Qp (K:PySem.W.Frag) (H:Hp):List V→List PyData→Prop
 | nil:Qp K H [] []
 | cons {v:V} {vs:List V} {d:PyData} {ds:List PyData}:Dp K H v d→Qp K H vs ds→Qp K H (v::vs) (d::ds)
end
section
variable {X:Cx} {pins:List (Addr×Obj)} {σ:St} {H:Hp} {s:Shared}
mutual
theorem Dp.reads (I:Inv X pins σ H s):∀(d:PyData) (v:V) (u:Value),Dp X.K H v d→RelV v u→∃as,Reads s.heap u d as
 | .none,_,_,h,r=>by
  cases h
  cases r
  exact ⟨_,Reads.none⟩
 | .bool b,_,_,h,r=>by
  cases h
  cases r
  exact ⟨_,Reads.bool b⟩
 | .int i,_,_,h,r=>by
  cases h
  obtain ⟨t,rfl⟩:=r
  exact ⟨_,Reads.int i t⟩
 | .str x,_,_,h,r=>by
  cases h
  obtain ⟨t,rfl⟩:=r
  exact ⟨_,Reads.str x t⟩
 | .list ds,_,_,h,r=>by
  cases h with
  | lst hs ha=>
   cases r
   obtain ⟨its,rv,⟨o,n,ho,hc,_,hd⟩,_⟩:=I.list hs
   obtain ⟨as,hr⟩:=Dp.readsAll I ds _ its ha rv
   exact ⟨_,Reads.list ho hc hd hr⟩
 | .tuple ds,_,_,h,r=>by
  cases h with
  | tup hs ha=>
   cases r
   obtain ⟨its,rv,⟨o,ho,hc,n,hd⟩,_⟩:=I.tuple hs
   obtain ⟨as,hr⟩:=Dp.readsAll I ds _ its ha rv
   exact ⟨_,Reads.tuple ho hc hd hr⟩
 | .dict _,_,_,h,_=>by cases h
theorem Dp.readsAll (I:Inv X pins σ H s):∀(ds:List PyData) (vs:List V) (us:List Value),Qp X.K H vs ds→Vals vs us→∃as,ReadsAll s.heap us ds as
 | [],_,_,h,r=>by
  cases h
  cases r
  exact ⟨_,ReadsAll.nil⟩
 | d::ds,_,_,h,r=>by
  cases h with
  | cons h1 h2=>
   cases r with
   | cons r1 r2=>
    obtain ⟨as,q1⟩:=Dp.reads I d _ _ h1 r1
    obtain ⟨bs,q2⟩:=Dp.readsAll I ds _ _ h2 r2
    exact ⟨_,ReadsAll.cons q1 q2⟩
end
end
section
variable {X:Cx}
noncomputable def afJ (K:PySem.W.Frag):R2:=fun x y H Q=>∃d e,Dp K H x d∧Dp K H y e∧SeqAt.shaped d=true∧SeqAt.shaped e=true∧Q (.bl (PyData.eqv d e)) H
noncomputable def aha (K:PySem.W.Frag):R2:=fun x y H Q=>∃d e,Dp K H x d∧Dp K H y e∧SeqAt.shaped d=true∧SeqAt.shaped e=true∧Q (.bl (!PyData.eqv d e)) H
theorem abb (hu:X.A.units+64<cLine):Ca X (compareOp .Eq) (afJ X.K):=by
 intro pins s σ H x y v u Q I rx ry h
 obtain ⟨d,e,hd,he,sd,se,q⟩:=h
 obtain ⟨as,r1⟩:=Dp.reads I d x v hd rx
 obtain ⟨bs,r2⟩:=Dp.reads I e y u he ry
 exact SeqAt.compareEq_shaped r1 r2 sd se hu ⟨.bl _,H,I,rfl,q⟩
theorem Rn (hu:X.A.units+64<cLine):Ca X (compareOp .NotEq) (aha X.K):=by
 intro pins s σ H x y v u Q I rx ry h
 obtain ⟨d,e,hd,he,sd,se,q⟩:=h
 obtain ⟨as,r1⟩:=Dp.reads I d x v hd rx
 obtain ⟨bs,r2⟩:=Dp.reads I e y u he ry
 exact SeqAt.compareNe_shaped r1 r2 sd se hu ⟨.bl _,H,I,rfl,q⟩
end
end L2
namespace L2
open PySem PySem.Spec PyProof.Rows
noncomputable abbrev abd (h:Heap) (c:Addr) (v:Option Value):Prop:=h.IsCell c v
noncomputable def ahb (scope sc:Scope):Scope:=
 { scope with names:=scope.names.map fun (n,k)=>if (k == .free&&sc.kind == .function&&sc.names.lookup n == some .cell) then (n,.cell) else (n,k) }
noncomputable def dD (cells:List (Str×Addr)):List (Str×NameKind)→List (Str×Addr)→List (Str×Addr)
 | [],acc=>acc
 | (n,k)::r,acc=>if k == .free then dD cells r ((n,(cells.lookup n).getD 0)::acc) else dD cells r acc
theorem Cj (env:Env) (f:Str×NameKind→List (Str×Addr)→Sem (ForInStep (List (Str×Addr))))
  (hf:∀n k c,f (n,k) c=if k == .free then (do let a ←cellOf env n;pure (.yield ((n,a)::c))) else pure (.yield c)) :
  ∀(names:List (Str×NameKind)) (acc:List (Str×Addr)),(∀y∈names,y.2=.free→∃c,env.cells.lookup y.1=some c)→forIn names acc f=pure (dD env.cells names acc)
 | [],acc,_=>by rw [List.forIn_nil];rfl
 | (n,k)::r,acc,h=>by
  rw [List.forIn_cons,hf]
  have ih:=fun acc=>Cj env f hf r acc fun y hy=>h y (List.mem_cons_of_mem _ hy)
  unfold dD
  by_cases hk:(k == NameKind.free)=true
  ·rw [if_pos hk,if_pos hk]
   obtain ⟨c,hc⟩:=h (n,k) List.mem_cons_self (by simpa using hk)
   have e:cellOf env n=pure c:=by unfold cellOf;rw [hc]
   rw [e]
   have e2:(env.cells.lookup n).getD 0=c:=by rw [hc];rfl
   rw [e2]
   exact ih _
  ·rw [if_neg hk,if_neg hk]
   exact ih _
theorem Wy {scope:Scope} {env:Env} (h:∀y∈scope.names,y.2=.free→∃c,env.cells.lookup y.1=some c):closureFor scope env=pure (dD env.cells scope.names []):=by
 simp only [closureFor]
 rw [Cj env _ (fun n k c=>rfl) scope.names [] h]
 rfl
theorem mem_lookup {α:Type}:∀{l:List (Str×α)} {n:Str} {c:α},(n,c)∈l→∃c',l.lookup n=some c'
 | (k,v)::r,n,c,h=>by
  rw [List.lookup_cons]
  cases hb:n == k with
  | true=>exact ⟨_,rfl⟩
  | false=>
   rcases List.mem_cons.mp h with e | h
   ·cases e;simp at hb
   ·exact mem_lookup h
theorem tD {cells:List (Str×Addr)}:∀{names:List (Str×NameKind)} {acc:List (Str×Addr)} {n:Str} {c:Addr},(n,c)∈dD cells names acc→(n,c)∈acc∨((n,.free)∈names∧c=(cells.lookup n).getD 0)
 | [],_,_,_,h=>.inl h
 | (m,k)::r,acc,n,c,h=>by
  unfold dD at h
  split at h
  ·rename_i hk
   have hk:k=.free:=by simpa using hk
   rcases tD h with h | ⟨h1,h2⟩
   ·rcases List.mem_cons.mp h with e | h
    ·cases e;exact .inr ⟨hk▸List.mem_cons_self,rfl⟩
    ·exact .inl h
   ·exact .inr ⟨List.mem_cons_of_mem _ h1,h2⟩
  ·rcases tD h with h | ⟨h1,h2⟩
   ·exact .inl h
   ·exact .inr ⟨List.mem_cons_of_mem _ h1,h2⟩
theorem xq {cells:List (Str×Addr)}:∀{names:List (Str×NameKind)} {acc:List (Str×Addr)} {p:Str×Addr},p∈acc→p∈dD cells names acc
 | [],_,_,h=>h
 | (m,k)::r,acc,p,h=>by
  unfold dD
  split
  ·exact xq (List.mem_cons_of_mem _ h)
  ·exact xq h
theorem xr {cells:List (Str×Addr)}:∀{names:List (Str×NameKind)} {acc:List (Str×Addr)} {n:Str},(n,.free)∈names→(n,(cells.lookup n).getD 0)∈dD cells names acc
 | (m,k)::r,acc,n,h=>by
  unfold dD
  rcases List.mem_cons.mp h with e | h
  ·cases e
   exact xq List.mem_cons_self
  ·split
   ·exact xr h
   ·exact xr h
theorem uT:∀{names:List (Str×NameKind)} {h:Heap} {acc:List (Str×Addr)} {x:Str} {c:Addr},(x,c)∈cellsFrom h.objs.size names acc→
  (x,c)∈acc∨((x,.cell)∈names∧h.objs.size≤c∧abd (pushCells h names) c none)
 | [],_,_,_,_,h=>.inl h
 | (n,k)::r,h,acc,x,c,hm=>by
  unfold cellsFrom at hm
  unfold pushCells
  split at hm
  ·rename_i hk
   rw [if_pos hk]
   have hk:k=.cell:=by simpa using hk
   rw [←Heap.size_push h { cls:=.type "cell",data:=.cell none }]at hm
   rcases uT hm with hm | ⟨h1,h2,h3⟩
   ·rcases List.mem_cons.mp hm with e | hm
    ·cases e
     exact .inr ⟨hk▸List.mem_cons_self,Nat.le_refl _,_,pushCells_keeps r _ _ _ (Heap.get?_push_size _ rfl),rfl⟩
    ·exact .inl hm
   ·rw [Heap.size_push]at h2
    exact .inr ⟨List.mem_cons_of_mem _ h1,Nat.le_of_succ_le h2,h3⟩
  ·rename_i hk
   rw [if_neg hk]
   rcases uT hm with hm | ⟨h1,h2,h3⟩
   ·exact .inl hm
   ·exact .inr ⟨List.mem_cons_of_mem _ h1,h2,h3⟩
theorem yS:∀{names:List (Str×NameKind)} {n:Nat} {acc:List (Str×Addr)} {p:Str×Addr},p∈acc→p∈cellsFrom n names acc
 | [],_,_,_,h=>h
 | (m,k)::r,n,acc,p,h=>by
  unfold cellsFrom
  split
  ·exact yS (List.mem_cons_of_mem _ h)
  ·exact yS h
theorem Et:∀{names:List (Str×NameKind)} {n:Nat} {acc:List (Str×Addr)} {x:Str},(x,.cell)∈names→∃c,(x,c)∈cellsFrom n names acc
 | (m,k)::r,n,acc,x,h=>by
  unfold cellsFrom
  rcases List.mem_cons.mp h with e | h
  ·cases e
   exact ⟨n,yS List.mem_cons_self⟩
  ·split
   ·exact Et h
   ·exact Et h
theorem Eu:∀{names:List (Str×NameKind)} {h:Heap} {acc:List (Str×Addr)} {x y:Str} {c:Addr},(∀p∈acc,p.2<h.objs.size)→(∀x y c,(x,c)∈acc→(y,c)∈acc→x=y)→
  (x,c)∈cellsFrom h.objs.size names acc→(y,c)∈cellsFrom h.objs.size names acc→x=y
 | [],_,_,_,_,_,_,hi,h1,h2=>hi _ _ _ h1 h2
 | (n,k)::r,h,acc,x,y,c,hl,hi,h1,h2=>by
  unfold cellsFrom at h1 h2
  split at h1
  ·rename_i hk
   rw [if_pos hk]at h2
   rw [←Heap.size_push h { cls:=.type "cell",data:=.cell none }]at h1 h2
   refine Eu (h:=h.push _) (fun p hp=>?_) (fun x y c a b=>?_) h1 h2
   ·rw [Heap.size_push]
    rcases List.mem_cons.mp hp with rfl | hp
    ·exact Nat.lt_succ_self _
    ·exact Nat.lt_succ_of_lt (hl p hp)
   ·rcases List.mem_cons.mp a with e | a<;>rcases List.mem_cons.mp b with e' | b
    ·cases e;cases e';rfl
    ·cases e;exact absurd (hl _ b) (Nat.lt_irrefl _)
    ·cases e';exact absurd (hl _ a) (Nat.lt_irrefl _)
    ·exact hi _ _ _ a b
  ·rename_i hk
   rw [if_neg hk]at h2
   exact Eu hl hi h1 h2
theorem Ux {M:Model} {A:Around} {E:Value→Shared→Prop} {s:Shared} {scope:Scope} {globals:Addr} {closure:List (Str×Addr)} {qual:Str} {func:Option Addr} {code:Value} {around:Env} {builtins:Addr} {Q:Env→Shared→Prop}
  (h:Q (newEnv scope s.heap.objs.size globals (cellsFrom (s.heap.objs.size+1) scope.names closure) qual func code (some around) builtins)
   { s with heap:=pushCells (s.heap.push { cls:=.type "dict",data:=.dict #[] }) scope.names }) :
  wpAny M A (newFunctionEnv scope globals closure [] qual func code (some around) builtins) Q E s:=by
 simp only [newFunctionEnv,Option.isSome_some,if_true]
 refine wpAny_bind (wpAny_alloc ?_)
 refine wpAny_bind (wpAny_layCells _ (fun n k c=>rfl) scope.names closure _ _ ?_)
 rw [show ({ s with heap:=s.heap.push { cls:=.type "dict",data:=.dict #[] } }:Shared).heap.objs.size=s.heap.objs.size+1 from Heap.size_push ..]
 rw [List.forIn_nil]
 exact wpAny_bind (wpAny_pure (wpAny_pure h))
theorem xx {sc:Scope}:∀{names:List (Str×NameKind)} {x:Str} {k:NameKind},
  (names.map fun (n,k)=>if (k == NameKind.free&&sc.kind == .function&&sc.names.lookup n == some .cell) then (n,NameKind.cell) else (n,k)).lookup x=some k→
  ∃k',names.lookup x=some k'∧(k=k'∨(k'=.free∧k=.cell))
 | [],_,_,h=>by simp at h
 | (n,k₀)::r,x,k,h=>by
  have ih:=@xx sc r x k
  have h':List.lookup x ((if (k₀ == NameKind.free&&sc.kind == .function&&sc.names.lookup n == some .cell)=true then (n,NameKind.cell) else (n,k₀))::(r.map _))=some k:=h
  cases hx:x == n with
  | true=>
   simp only [List.lookup_cons,hx]
   by_cases hc:(k₀ == NameKind.free&&sc.kind == .function&&sc.names.lookup n == some .cell)=true
   ·rw [if_pos hc]at h'
    simp only [List.lookup_cons,hx]at h'
    cases h'
    simp only [Bool.and_eq_true,beq_iff_eq]at hc
    exact ⟨k₀,rfl,.inr ⟨hc.1.1,rfl⟩⟩
   ·rw [if_neg hc]at h'
    simp only [List.lookup_cons,hx]at h'
    cases h'
    exact ⟨_,rfl,.inl rfl⟩
  | false=>
   simp only [List.lookup_cons,hx]
   by_cases hc:(k₀ == NameKind.free&&sc.kind == .function&&sc.names.lookup n == some .cell)=true
   ·rw [if_pos hc]at h'
    simp only [List.lookup_cons,hx]at h'
    exact ih h'
   ·rw [if_neg hc]at h'
    simp only [List.lookup_cons,hx]at h'
    exact ih h'
structure Uy (N:List Str) (sc scope:Scope) (own:List (Str×Nat)):Prop where
 kind:scope.kind=.function
 uniq:∀y∈scope.names,scope.names.lookup y.1=some y.2
 ix:∀p∈own,N[p.2]?=some p.1
 free:∀y∈scope.names,y.2=.free→sc.names.lookup y.1=some .cell∨sc.names.lookup y.1=some .free
 own:∀y∈scope.names,y.2=.local∨y.2=.cell→y.1∈own.map (·.1)∨y.1∉N
noncomputable def wipe (σ:St):List Nat→St
 | []=>σ
 | v::vs=>(wipe σ vs).set v none
theorem xF (σ:St):∀vs:List Nat,(wipe σ vs).length=σ.length
 | []=>rfl
 | v::vs=>by unfold wipe;rw [List.length_set,xF σ vs]
theorem Ew {σ:St} {i:Nat} {x:V}:∀{vs:List Nat},(wipe σ vs)[i]?=some (some x)→σ[i]?=some (some x)∧i∉vs
 | [],h=>⟨h,by simp⟩
 | v::vs,h=>by
  unfold wipe at h
  by_cases hi:v=i
  ·subst hi
   by_cases hv:v<(wipe σ vs).length
   ·rw [List.getElem?_set_self hv]at h;cases h
   ·rw [List.getElem?_eq_none (by simpa using hv)]at h;cases h
  ·rw [List.getElem?_set_ne hi]at h
   obtain ⟨h1,h2⟩:=Ew h
   exact ⟨h1,by simp only [List.mem_cons,not_or];exact ⟨fun e=>hi e.symm,h2⟩⟩
noncomputable abbrev Cx.blk (X:Cx) (s:Shared) (H:Hp) (scope:Scope) (cenv:Env) (fp:List Addr):Cx:={ X with Nf:=s,H_0:=H,env:=cenv,outer:=X.stack,ex:=fp,fn:=fun x=>scope.names.lookup x == some .cell,pn:=[],xe:=fun _ _=>False }
section
variable {X:Cx} {pins:List (Addr×Obj)} {σ:St} {H:Hp} {s:Shared}
theorem Uz {scope:Scope} {own:List (Str×Nat)} {fp:List Addr} (I:Inv X pins σ H s) (ok:Uy X.N X.env.scope scope own) (hN:X.N.Nodup) (hfp:∀b∈fp,JV X pins H b∧b<s.heap.objs.size) :
  Inv (X.blk s H scope (compEnvC scope (cellsFrom (s.heap.objs.size+1) scope.names (dD X.env.cells scope.names [])) s.heap.objs.size X.env) fp) [] (wipe σ (own.map (·.2))) H { s with heap:=pushCells (s.heap.push { cls:=.type "dict",data:=.dict #[] }) scope.names }:=by
 have hfree:∀y∈scope.names,y.2=.free→∃c,X.env.cells.lookup y.1=some c:=fun y hy e=>by
  rcases ok.free y hy e with k | k
  ·exact I.ok.has _ (.inl k)
  ·exact I.ok.has _ (.inr k)
 generalize UG:compEnvC scope (cellsFrom (s.heap.objs.size+1) scope.names (dD X.env.cells scope.names [])) s.heap.objs.size X.env=cenv
 have kp:∀b o,s.heap.get? b=some o→(pushCells (s.heap.push { cls:=.type "dict",data:=.dict #[] }) scope.names).get? b=some o:=fun b o e=>pushCells_keeps _ _ _ _ (Heap.get?_push_of_some _ e)
 have hL:cenv.locals=s.heap.objs.size:=by rw [←UG];rfl
 have hcl:cenv.cells=cellsFrom (s.heap.objs.size+1) scope.names (dD X.env.cells scope.names []):=by rw [←UG];rfl
 have hsc:cenv.scope=ahb scope X.env.scope:=by rw [←UG];rfl
 rw [←Heap.size_push s.heap { cls:=.type "dict",data:=.dict #[] }]at hcl
 have cm:∀{y c},(y,c)∈dD X.env.cells scope.names []→X.env.cells.lookup y=some c∧c<s.heap.objs.size:=fun {y c} hm=>by
  rcases tD hm with hm | ⟨h1,rfl⟩
  ·cases hm
  ·obtain ⟨c,hc⟩:=hfree _ h1 rfl
   rw [hc]
   obtain ⟨w,z⟩:=I.cell _ _ hc
   exact ⟨rfl,z.lt⟩
 have mem:∀{y c},cenv.cells.lookup y=some c→(X.env.cells.lookup y=some c∧c<s.heap.objs.size)∨(s.heap.objs.size+1≤c∧abd (pushCells (s.heap.push { cls:=.type "dict",data:=.dict #[] }) scope.names) c none):=fun {y c} e=>by
  rw [hcl]at e
  rcases uT (PySem.mem_of_lookup e) with hm | ⟨_,h2,h3⟩
  ·exact .inl (cm hm)
  ·rw [Heap.size_push]at h2;exact .inr ⟨h2,h3⟩
 have look:∀{y},scope.names.lookup y=some .free→∃c,cenv.cells.lookup y=some c∧X.env.cells.lookup y=some c:=fun {y} hl=>by
  have hy:(y,NameKind.free)∈scope.names:=PySem.mem_of_lookup hl
  obtain ⟨c',e'⟩:=mem_lookup (yS (names:=scope.names) (n:=(s.heap.push { cls:=.type "dict",data:=.dict #[] }).objs.size) (xr (cells:=X.env.cells) (acc:=[]) hy))
  rw [←hcl]at e'
  refine ⟨c',e',?_⟩
  rw [hcl]at e'
  rcases uT (PySem.mem_of_lookup e') with hm | ⟨h1,_,_⟩
  ·exact (cm hm).1
  ·have:=ok.uniq _ h1
   rw [hl]at this;cases this
 have okB:(X.blk s H scope cenv fp).Ok:=by
  refine ⟨I.ok.mod,by show cenv.scope.kind=_;rw [hsc];exact ok.kind,by show cenv.globals=_;rw [←UG];exact I.ok.glob,by show cenv.builtins=_;rw [←UG];exact I.ok.blt,by show s.heap.objs.size≤cenv.locals;rw [hL];exact Nat.le_refl _,
   fun y z c e1 e2=>?_,fun y hy=>?_,fun y c z e=>?_,I.ok.hd,I.ok.frames,.inl rfl,fun b hb=>⟨?_,fun y c e z=>?_⟩,I.bs,Nat.le_trans I.ok.bsz I.sz,fun b o e hb=>?_,fun b hb z=>?_,I.stack,I.X4⟩
  ·have e1:cenv.cells.lookup y=some c:=e1
   have e2:cenv.cells.lookup z=some c:=e2
   rw [hcl]at e1 e2
   refine Eu (fun p hp=>?_) (fun y z c a b=>I.ok.inj y z c (cm a).1 (cm b).1) (PySem.mem_of_lookup e1) (PySem.mem_of_lookup e2)
   rw [Heap.size_push]
   exact Nat.lt_succ_of_lt (cm (y:=p.1) (c:=p.2) hp).2
  ·show ∃c,cenv.cells.lookup y=some c
   have key:∀k,cenv.kindOf y=some k→(k=.cell∨k=.free)→∃c,cenv.cells.lookup y=some c:=fun k hk hk'=>by
    unfold Env.kindOf at hk
    rw [hsc]at hk
    obtain ⟨k',e,r⟩:=xx hk
    have:k'=.cell∨k'=.free:=by
     rcases r with rfl | ⟨rfl,_⟩
     ·exact hk'
     ·exact .inr rfl
    rcases this with rfl | rfl
    ·obtain ⟨c,hm⟩:=Et (n:=(s.heap.push { cls:=.type "dict",data:=.dict #[] }).objs.size) (acc:=dD X.env.cells scope.names []) (PySem.mem_of_lookup e)
     obtain ⟨c',e'⟩:=mem_lookup hm
     exact ⟨c',by rw [hcl];exact e'⟩
    ·obtain ⟨c,h1,_⟩:=look e
     exact ⟨c,h1⟩
   rcases hy with hy | hy
   ·exact key _ hy (.inl rfl)
   ·exact key _ hy (.inr rfl)
  ·have z:(scope.names.lookup y == some NameKind.cell)=true:=z
   have z:scope.names.lookup y=some .cell:=by simpa using z
   have e:cenv.cells.lookup y=some c:=e
   rw [hcl]at e
   rcases uT (PySem.mem_of_lookup e) with hm | ⟨_,h2,_⟩
   ·rcases tD hm with hm | ⟨h1,_⟩
    ·cases hm
    ·have q:=ok.uniq _ h1
     rw [z]at q;cases q
   ·rw [Heap.size_push]at h2
    exact Nat.le_of_succ_le h2
  ·show b≠cenv.locals
   rw [hL];exact Nat.ne_of_lt (hfp b hb).2
  ·have e:cenv.cells.lookup y=some c:=e
   rcases mem e with ⟨h1,_⟩ | ⟨h1,_⟩
   ·exact (hfp b hb).1.2.2.2.2.1 y c h1 z
   ·have h2:s.heap.objs.size+1≤b:=by rw [←z];exact h1
    exact absurd (Nat.lt_of_lt_of_le (hfp b hb).2 (Nat.le_of_succ_le h2)) (Nat.lt_irrefl _)
  ·rcases (hfp b hb).1.2.2.2.1 with z | z
   ·exact I.ok.aaN b o e z
   ·exact absurd (Nat.lt_of_lt_of_le (Heap.lt_size e) (Nat.le_trans I.ok.bsz z)) (Nat.lt_irrefl _)
  ·rcases List.mem_cons.mp (I.Wj b z) with z | z
   ·exact (hfp b hb).1.2.1 z
   ·exact (hfp b hb).1.2.2.1 z
 refine ⟨okB,rfl,I.bare,Un.kept kp,⟨fun _=>none,?_,fun i y av e1 e2 e3=>?_⟩,fun y c e=>?_,?_,fun y c e=>?_,fun p hp=>?_,I.hok.kept kp,by rw [xF];exact I.len⟩
 ·show Heap.Ns _ cenv.locals _
  rw [hL]
  exact Heap.Ns.keeps (Heap.Ns.new ..) fun b o e=>pushCells_keeps _ _ _ _ e
 ·obtain ⟨e2,hne⟩:=Ew e2
  have hfr:scope.names.lookup y=some .free∧(cenv.kindOf y=some .cell∨cenv.kindOf y=some .free):=by
   have key:∀k,cenv.scope.names.lookup y=some k→k=.local∨k=.cell∨k=.free→scope.names.lookup y=some .free∧(cenv.kindOf y=some .cell∨cenv.kindOf y=some .free):=fun k hk hk'=>by
    have hk0:=hk
    rw [hsc]at hk
    obtain ⟨k',e,r⟩:=xx hk
    have no:¬(k'=.local∨k'=.cell):=fun hh=>by
     rcases ok.own _ (PySem.mem_of_lookup e) hh with e' | e'
     ·obtain ⟨p,hp,hpy⟩:=List.mem_map.mp e'
      have e3:=ok.ix p hp
      have:p.1=y:=hpy
      rw [this]at e3
      exact hne (List.mem_map.mpr ⟨p,hp,JQ hN e3 e1⟩)
     ·exact e' (List.mem_of_getElem? e1)
    rcases r with rfl | ⟨rfl,rfl⟩
    ·rcases hk' with rfl | rfl | rfl
     ·exact absurd (.inl rfl) no
     ·exact absurd (.inr rfl) no
     ·exact ⟨e,.inr hk0⟩
    ·exact ⟨e,.inl hk0⟩
   have e3:Vis cenv.scope y:=e3
   rcases e3 with e3 | e3 | e3
   ·exact key _ e3 (.inl rfl)
   ·exact key _ e3 (.inr (.inl rfl))
   ·exact key _ e3 (.inr (.inr rfl))
  obtain ⟨m,hn,hl⟩:=I.loc
  have ahc:Vis X.env.scope y:=(ok.free _ (PySem.mem_of_lookup hfr.1) rfl).elim (fun k=>.inr (.inl k)) (fun k=>.inr (.inr k))
  obtain ⟨w,r,q⟩:=hl i y av e1 e2 ahc
  refine ⟨w,r,.inr ⟨hfr.2,?_⟩⟩
  obtain ⟨c,h1,h2⟩:=look hfr.1
  rcases q with ⟨k,_⟩ | ⟨_,c',e',z⟩
  ·have k:X.env.scope.names.lookup y=some .local:=k
   rcases ok.free _ (PySem.mem_of_lookup hfr.1) rfl with k' | k'<;>rw [show X.env.scope.names.lookup y=_ from k']at k<;>cases k
  ·rw [h2]at e';cases e'
   exact ⟨c,h1,z.keeps kp⟩
 ·have e:cenv.cells.lookup y=some c:=e
  rcases mem e with ⟨h1,_⟩ | ⟨_,z⟩
  ·obtain ⟨w,z⟩:=I.cell y c h1
   exact ⟨w,z.keeps kp⟩
  ·exact ⟨_,z⟩
 ·show H cenv.locals=none
  rw [hL];exact I.hok.fresh (Nat.le_refl _)
 ·have e:cenv.cells.lookup y=some c:=e
  rcases mem e with ⟨h1,_⟩ | ⟨h1,_⟩
  ·exact I.wK y c h1
  ·exact I.hok.fresh (Nat.le_of_succ_le h1)
 ·exact absurd (show p∈([]:List (Addr×Obj))++[] from hp) (by simp)
theorem aeh {E:Value→Shared→Prop} {D:Addr} {xs:List V} {y:V} {v:Value} {Q:Value→Shared→Prop} (I:Inv X pins σ H s) (hD:H D=some (.lst xs)) (hz:xs.length<sizeLine) (r:RelV y v)
  (h:∀s',Inv X pins σ (upd H D (.lst (xs++[y]))) s'→Q .none s'):wpAny (model X.prog X.w) X.A (call (.builtin "list.append") [.ref D,v]) Q E s:=by
 obtain ⟨hz',its,n,ri,e⟩:=I.hok D _ hD
 have hl:=ri.length
 refine append_at (hsz:=by rw [List.size_toArray];omega) e fun h' sb ho'=>?_
 refine h { s with heap:=h' } (I.write (t':=s.toks) (by rw [hD];trivial) (.inl rfl) (fun b u hb q=>(sb.2 b hb).trans q) ⟨_,ho'⟩ ⟨by rw [List.length_append];exact hz,its++[v],n+1,ri.append (.cons r .nil),?_⟩)
 rw [ho']
 simp
noncomputable def PTs (X:Cx) (ifs:List Expr) (t:TT):Prop:=
 ∀(pins:List (Addr×Obj)) (s:Shared) (σ:St) (H:Hp) (Q:Bool→Hp→Prop),Inv X pins σ H s→t σ H Q→
  wpAny (model X.prog X.w) X.A (forIn ifs true fun c r=>if r=true then do let ok ←isTrue c X.env (eval c X.env);pure (ForInStep.yield ok) else pure (ForInStep.yield r)) (TP X pins σ Q) X.xe s
noncomputable def Ex:TT:=fun _ H Q=>Q true H
theorem jV:PTs X [] Ex:=fun _ _ _ H _ I h=>wpAny_tests_nil ⟨H,I,h⟩
theorem Je {c:Expr} {t:TT} (h:PT X c t):PTs X [c] t:=fun pins s σ H Q I hw=>wpAny_tests_one (h pins s σ H Q I hw)
end
theorem Zm {α:Type} {t:Sem α} {Q Q':α→Shared→Prop} {M:Model} {A:Around} {E:Value→Shared→Prop} {s:Shared} (h:wpAny M A t Q (fun _ _=>False) s) (hQ:∀a s,Q a s→Q' a s):wpAny M A t Q' E s:=wpAny_mono h hQ fun _ _ z=>False.elim z
theorem Ro {prog:Program} {w:World} {A:Around} {R:Result→Shared→Prop} {s:Shared} {elt target iter:Expr} {ifs:List Expr} {scope:Scope} {pos:Pos} {it acc:Value} {env:Env} (I:Nat→Shared→Prop)
  (turn:∀n s,I n s→wpAny (model prog w) A (pyNext it) (fun r s₁=>match r with
   | none=>R (.ok .next) s₁
   | some v=>wpAny (model prog w) A (letOwnedTupleGo target it v) (fun _ s₁'=>wpAny (model prog w) A (assign target env v) (fun _ s₂=>
     wpAny (model prog w) A (forIn ifs true fun c r=>if r=true then do let ok ←isTrue c env (eval c env);pure (ForInStep.yield ok) else pure (ForInStep.yield r)) (fun ok s₃=>
      if ok=true then wpAny (model prog w) A (eval elt env) (fun x s₄=>
       wpAny (model prog w) A (call (.builtin "list.append") [acc,x]) (fun _ s₅=>∃m,m<n∧I m s₅) (notedBy (model prog w) A env fun e s'=>R (.error e) s') s₄) (notedBy (model prog w) A env fun e s'=>R (.error e) s') s₃
      else ∃m,m<n∧I m s₃) (notedBy (model prog w) A env fun e s'=>R (.error e) s') s₂) (notedBy (model prog w) A env fun e s'=>R (.error e) s') s₁') (notedBy (model prog w) A env fun e s'=>R (.error e) s') s₁) (notedBy (model prog w) A env fun e s'=>R (.error e) s') s)
  (n:Nat) (h:I n s) :
  codeAny (model prog w) A (.compLoop (.ListComp elt [⟨target,iter,ifs,0⟩] scope pos) 0 it acc env) R s:=by
 refine codeAny_loop rfl I (fun n s hI=>?_) n h
 show wpAny _ A ((compTurn (.ListComp elt [⟨target,iter,ifs,0⟩] scope pos) 0 it acc env).onRaise (fun x=>do noteFrame x env;theTreesLotGoes x)) _ _ s
 refine wpAny_noted ?_
 rw [compTurn_list]
 refine wpAny_bind (wpAny_standAt (wpAny_bind (wpAny_mono (turn n s hI) (fun r s₁ h₁=>?_) fun _ _ h'=>h')))
 cases r with
 | none=>exact wpAny_pure h₁
 | some v=>
  refine wpAny_bind (wpAny_mono h₁ (fun _ s₁' h₁'=>?_) fun _ _ h'=>h')
  refine wpAny_bind (wpAny_mono h₁' (fun _ s₂ h₂=>wpAny_bind (wpAny_mono h₂ (fun ok s₃ h₃=>?_) fun _ _ h'=>h')) fun _ _ h'=>h')
  cases ok with
  | false=>exact wpAny_pure ⟨rfl,h₃⟩
  | true=>
   exact wpAny_bind (wpAny_bind (wpAny_mono h₃ (fun x s₄ h₄=>wpAny_bind (wpAny_mono h₄ (fun _ s₅ h₅=>wpAny_pure (wpAny_pure ⟨rfl,h₅⟩)) fun _ _ h'=>h')) fun _ _ h'=>h'))
section
variable {X:Cx}
noncomputable def tLc (wi:TI) (g:TG) (tt:TT) (te:TE) (vs:List Nat):TE:=fun σ H Q=>wi σ H fun J H1=>∀D,H1 D=none→∃W:Nat→Nat→Hp→Prop,(∃m,W 0 m (upd H1 D (.lst [])))∧∀i m H,W i m H→
 (J.stop i H∧Q (.ref D) H)∨(J.go i H∧∃Nx:Hp→Prop,(∀H',Nx H'→∃m',m'<m∧W (i+1) m' H')∧∀x H',J.yld i H x H'→g x (wipe σ vs) H' fun σ2 H2=>wipe σ2 vs=wipe σ vs∧tt σ2 H2 fun b H3=>
  if b=true then te σ2 H3 fun y H4=>∃acc,H4 D=some (.lst acc)∧acc.length<sizeLine∧Nx (upd H4 D (.lst (acc++[y]))) else Nx H3)
theorem Yn {pins:List (Addr×Obj)} {s:Shared} {σ:St} {H:Hp} {Q:VK} {elt tg iter:Expr} {ifs:List Expr} {scope:Scope} {own:List (Str×Nat)} {pos pos':Pos} {wi:TI} {g:TG} {tt:TT} {te:TE} {use:Option (Value→Sem Unit)} {Qf:Value→Shared→Prop}
  (hc:X.calm=true) (hN:X.N.Nodup) (I:Inv X pins σ H s) (hi:PI X tg iter wi) (ok:Uy X.N X.env.scope scope own)
  (hg:∀(s:Shared) (H:Hp) (C:Addr) (cl:List (Str×Addr)) (fp:List Addr),PG (X.blk s H scope (compEnvC scope cl C X.env) fp) tg g) (ht:∀(s:Shared) (H:Hp) (C:Addr) (cl:List (Str×Addr)) (fp:List Addr),PTs (X.blk s H scope (compEnvC scope cl C X.env) fp) ifs tt)
  (he:∀(s:Shared) (H:Hp) (C:Addr) (cl:List (Str×Addr)) (fp:List Addr),PE (X.blk s H scope (compEnvC scope cl C X.env) fp) elt te) (hs:∀x,foldedSetIterable iter X.env x=pure x)
  (h:tLc wi g tt te (own.map (·.2)) σ H Q)
  (hRR:∀D C s' m H',Inv X pins σ H' s'→Q (.ref D) H'→s'.heap.Ns C m→JV X pins H' C→compPost (model X.prog X.w) X.A X.xe use Qf (.ref D) C (.ok .next) s') :
  wpAny (model X.prog X.w) X.A (comprehension (.ListComp elt [⟨tg,iter,ifs,0⟩] scope pos) scope X.env pos' (newList []) false (eval iter X.env) use) Qf X.xe s:=by
 have hfree:∀y∈scope.names,y.2=.free→∃c,X.env.cells.lookup y.1=some c:=fun y hy e=>by
  rcases ok.free y hy e with k | k
  ·exact I.ok.has _ (.inl k)
  ·exact I.ok.has _ (.inr k)
 refine wpAny_comprehension_free (use:=use) rfl hs (Wy hfree) ok.kind (fun y hy e=>by rw [ok.uniq y hy,e])
  (fW (hi pins s σ H _ I h) fun xv s1 hx=>fW hx fun itv s2 h2=>?_)
 obtain ⟨it,fp,tn,J,H2,e,I2,T,st2,f2,q⟩:=h2
 subst e
 refine wpAny_newObj_type (Ux ?_) (by show 0≤sizeLine;decide)
 generalize hD:s2.heap.objs.size=D
 have hDn:H2 D=none:=I2.hok.fresh (Nat.le_of_eq hD)
 obtain ⟨W,⟨m0,w0⟩,turn⟩:=q D hDn
 generalize hs3:({ s2 with heap:=s2.heap.push { cls:=.type "list",data:=.seq ([]:List Value).toArray } }:Shared)=s3
 have I3:Inv X pins σ (upd H2 D (.lst [])) s3:=by
  rw [←hs3]
  refine I2.laid (t':=s2.toks) (fun b o e=>Heap.get?_push_of_some _ e) (Nat.le_of_eq hD) ⟨Nat.zero_le _,[],0,.nil,?_⟩
  rw [←hD]
  exact Heap.get?_push_size _ rfl
 have h3:s3.heap=s2.heap.push { cls:=.type "list",data:=.seq ([]:List Value).toArray }:=by rw [←hs3]
 have sz:∀b∈fp,b<s2.heap.objs.size:=fun b hb=>by
  obtain ⟨o,e,_⟩:=T.obj _ _ st2 b hb
  exact Heap.lt_size e
 have f3:∀b∈fp,JV X pins (upd H2 D (.lst [])) b∧b<s3.heap.objs.size:=fun b hb=>by
  have hlt:=sz b hb
  refine ⟨⟨?_,(f2 b hb).2⟩,by rw [h3,Heap.size_push];exact Nat.lt_succ_of_lt hlt⟩
  rw [aJ (by rw [←hD];exact Nat.ne_of_lt hlt)]
  exact (f2 b hb).1
 have st3:tn 0 s3.heap:=T.keep _ _ _ st2 fun b _ o e=>by rw [h3];exact Heap.get?_push_of_some _ e
 have I4:=Uz I3 ok hN f3
 have pg:=hg s3 (upd H2 D (.lst [])) s3.heap.objs.size (cellsFrom (s3.heap.objs.size+1) scope.names (dD X.env.cells scope.names [])) fp
 have pt:=ht s3 (upd H2 D (.lst [])) s3.heap.objs.size (cellsFrom (s3.heap.objs.size+1) scope.names (dD X.env.cells scope.names [])) fp
 have pe:=he s3 (upd H2 D (.lst [])) s3.heap.objs.size (cellsFrom (s3.heap.objs.size+1) scope.names (dD X.env.cells scope.names [])) fp
 show codeAny _ _ (.compStart (.ListComp elt [⟨tg,iter,ifs,0⟩] scope pos) 0 (.ref it) (.ref D) (compEnvC scope (cellsFrom (s3.heap.objs.size+1) scope.names (dD X.env.cells scope.names [])) s3.heap.objs.size X.env)) (compPost (model X.prog X.w) X.A X.xe use Qf (.ref D) s3.heap.objs.size) { s3 with heap:=pushCells (s3.heap.push { cls:=.type "dict",data:=.dict #[] }) scope.names }
 have nfp:∀b∈fp,(upd H2 D (.lst [])) b=none:=fun b hb=>(f3 b hb).1.1
 generalize hce:compEnvC scope (cellsFrom (s3.heap.objs.size+1) scope.names (dD X.env.cells scope.names [])) s3.heap.objs.size X.env=ce at I4 pg pt pe ⊢
 have cL:ce.locals=s3.heap.objs.size:=by subst hce;rfl
 generalize hH3:upd H2 D (.lst [])=H3 at I3 I4 pg pt pe w0 nfp f3
 generalize hs4:({ s3 with heap:=pushCells (s3.heap.push { cls:=.type "dict",data:=.dict #[] }) scope.names }:Shared)=s4 at I4 ⊢
 have st4:tn 0 s4.heap:=T.keep _ _ _ st3 fun b _ o e=>by rw [←hs4];exact pushCells_keeps _ _ _ _ (Heap.get?_push_of_some _ e)
 have stat:∀{σ':St} {H':Hp} {s':Shared},Inv (X.blk s3 H3 scope ce fp) [] σ' H' s'→(∀b∈fp,H' b=none)→∀b∈fp,JV (X.blk s3 H3 scope ce fp) [] H' b:=fun {σ' H' s'} I' hn b hb=>
  ⟨hn b hb,(I'.ok.exf b hb).1,I'.ok.aaO b hb,.inl hb,fun x c e=>(I'.ok.exf b hb).2 x c e,fun p hp=>absurd (show p∈([]:List (Addr×Obj))++[] from hp) (by simp)⟩
 have loop:codeAny (model X.prog X.w) X.A (.compLoop (.ListComp elt [⟨tg,iter,ifs,0⟩] scope pos) 0 (.ref it) (.ref D) ce) (compPost (model X.prog X.w) X.A X.xe use Qf (.ref D) s3.heap.objs.size) s4:=by
  refine Ro (fun n s'=>∃i H',Inv (X.blk s3 H3 scope ce fp) [] (wipe σ (own.map (·.2))) H' s'∧tn i s'.heap∧(∀b∈fp,H' b=none)∧W i n H') ?_ m0 ⟨0,H3,I4,st4,nfp,w0⟩
  rintro n s5 ⟨i,H5,I5,st5,n5,w5⟩
  rcases turn i n H5 w5 with ⟨stop,qq⟩ | ⟨go,Nx,hNx,step⟩
  ·have td:=T.done (X.blk s3 H3 scope ce fp) rfl rfl rfl hc i [] s5 _ H5 (fun _ _=>False) I5 (stat I5 n5) st5 stop
   refine Zm td fun r s6 ⟨hr,I6⟩=>?_
   subst hr
   have I7:Inv X pins σ H5 s6:=I3.call' (ch:=fp) I6.os I6.base I6.hok I6.bare fun b hb=>⟨(f3 b hb).1.2.2.2.1,(f3 b hb).1.2.1,(f3 b hb).1.2.2.2.2.1,(f3 b hb).1.2.2.2.2.2⟩
   have nC:H5 s3.heap.objs.size=none:=by
    have z:H5 ce.locals=none:=I6.free
    rw [cL]at z
    exact z
   obtain ⟨m,hn,_⟩:=I6.loc
   have hn:s6.heap.Ns ce.locals m:=hn
   rw [cL]at hn
   exact hRR D s3.heap.objs.size s6 m H5 I7 qq hn (I3.aaW (Nat.le_refl _) nC)
  ·have ti:=T.item (X.blk s3 H3 scope ce fp) rfl rfl rfl hc i [] s5 _ H5 (fun _ _=>False) I5 (stat I5 n5) st5 go
   refine Zm ti fun r s6 ⟨u,hr,h6⟩=>?_
   subst hr
   refine Zm h6 fun _ s7 ⟨x,H7,I7,r7,y7,st7,n7⟩=>?_
   have I7':=I7.pinned (stat I7 n7) (T.obj _ _ st7)
   refine Zm (pg _ s7 _ H7 x u _ I7' r7 (step x H7 y7)) fun _ s8 ⟨σ8,H8,I8,hw8,q8⟩=>?_
   refine Zm (pt _ s8 σ8 H8 _ I8 q8) fun b s9 ⟨H9,I9,q9⟩=>?_
   have fin:∀{s':Shared} {H':Hp},Inv (X.blk s3 H3 scope ce fp) ([]++JW fp s7.heap) σ8 H' s'→Nx H'→∃m,m<n∧∃i H',Inv (X.blk s3 H3 scope ce fp) [] (wipe σ (own.map (·.2))) H' s'∧tn i s'.heap∧(∀b∈fp,H' b=none)∧W i m H':=fun {s' H'} I' nx=>by
    obtain ⟨m',hm,w'⟩:=hNx H' nx
    have afL:∀b∈fp,∀o,s7.heap.get? b=some o→s'.heap.get? b=some o∧H' b=none:=fun b hb o e=>
     let z:=I'.pin (b,o) (List.mem_append_right _ (List.mem_append_right _ (zV hb e)))
     ⟨z.1,z.2.1⟩
    have hl:(wipe σ (own.map (·.2))).length=σ8.length:=by rw [←hw8,xF]
    refine ⟨m',hm,i+1,H',(I'.BZ (pins:=[])).weak hl (fun j v e=>?_),T.keep _ _ _ st7 fun b hb o e=>(afL b hb o e).1,fun b hb=>?_,w'⟩
    ·rw [←hw8]at e
     exact (Ew e).1
    ·obtain ⟨o,e,_⟩:=T.obj _ _ st7 b hb
     exact (afL b hb o e).2
   cases b with
   | false=>
    simp only [Bool.false_eq_true,if_false]at q9 ⊢
    exact fin I9 q9
   | true=>
    simp only [if_true]at q9 ⊢
    refine Zm (pe _ s9 σ8 H9 _ I9 q9) fun z s10 ⟨yv,H10,I10,r10,acc,ahf,ahg,nx⟩=>?_
    exact aeh (X:=X.blk s3 H3 scope ce fp) I10 ahf ahg r10 fun s11 I11=>fin I11 nx
 exact codeAny_compStart_list loop (T.self X.A 0 _ _ _ st4 loop)
theorem qX {elt tg iter:Expr} {ifs:List Expr} {scope:Scope} {own:List (Str×Nat)} {pos:Pos} {wi:TI} {g:TG} {tt:TT} {te:TE} (hc:X.calm=true) (hN:X.N.Nodup) (hi:PI X tg iter wi) (ok:Uy X.N X.env.scope scope own)
  (hg:∀(s:Shared) (H:Hp) (C:Addr) (cl:List (Str×Addr)) (fp:List Addr),PG (X.blk s H scope (compEnvC scope cl C X.env) fp) tg g) (ht:∀(s:Shared) (H:Hp) (C:Addr) (cl:List (Str×Addr)) (fp:List Addr),PTs (X.blk s H scope (compEnvC scope cl C X.env) fp) ifs tt)
  (he:∀(s:Shared) (H:Hp) (C:Addr) (cl:List (Str×Addr)) (fp:List Addr),PE (X.blk s H scope (compEnvC scope cl C X.env) fp) elt te) (hs:∀x,foldedSetIterable iter X.env x=pure x:=by intro _;rfl) :
  PE X (.ListComp elt [⟨tg,iter,ifs,0⟩] scope pos) (tLc wi g tt te (own.map (·.2))):=by
 intro pins s σ H Q I h
 rw [eval_ListComp]
 refine Yn hc hN I hi ok hg ht he hs h fun D C s' m H' I' q hn f=>⟨m,hn,fun h'' sb=>?_⟩
 obtain ⟨f0,f1,f2,f3,f4,f5⟩:=f
 exact ⟨.ref D,H',I'.turned (t':=s'.toks) (fun b o hb e=>(sb.2 b hb).trans e) f0 f1 f3 f4 f5,rfl,q⟩
theorem abe {i:Nat} {y:Str} {py:Pos} {elt tg iter:Expr} {ifs:List Expr} {scope:Scope} {own:List (Str×Nat)} {pos spos:Pos} {wi:TI} {g:TG} {tt:TT} {te:TE} (hc:X.calm=true) (hN:X.N.Nodup) (hy:X.N[i]?=some y) (hyl:X.env.scope.names.lookup y=some .local)
  (hsw:swapsWith (.ListComp elt [⟨tg,iter,ifs,0⟩] scope pos) (some (.Name y py)) spos.line X.env=pure true) (hi:PI X tg iter wi) (ok:Uy X.N X.env.scope scope own)
  (hg:∀(s:Shared) (H:Hp) (C:Addr) (cl:List (Str×Addr)) (fp:List Addr),PG (X.blk s H scope (compEnvC scope cl C X.env) fp) tg g) (ht:∀(s:Shared) (H:Hp) (C:Addr) (cl:List (Str×Addr)) (fp:List Addr),PTs (X.blk s H scope (compEnvC scope cl C X.env) fp) ifs tt)
  (he:∀(s:Shared) (H:Hp) (C:Addr) (cl:List (Str×Addr)) (fp:List Addr),PE (X.blk s H scope (compEnvC scope cl C X.env) fp) elt te) (hs:∀x,foldedSetIterable iter X.env x=pure x:=by intro _;rfl) :
  PS X (.Assign [.Name y py] (.ListComp elt [⟨tg,iter,ifs,0⟩] scope pos) spos) (Zc (tLc wi g tt te (own.map (·.2))) (JS i)):=by
 intro pins s σ H D I h
 rw [exec_Assign_Name_used _ _ _ _ hsw]
 refine wpAny_bind (wpAny_standAt (wpAny_bind ?_))
 show wpAny _ X.A (do let _ ←comprehension (.ListComp elt [⟨tg,iter,ifs,0⟩] scope pos) scope X.env (firstIterPos [⟨tg,iter,ifs,0⟩] pos) (newList []) false (eval iter X.env) (some (assign (.Name y py) X.env))) _ _ s
 have h:tLc wi g tt te (own.map (·.2)) σ H (fun x H1=>JS i x σ H1 D.nx):=h
 refine wpAny_bind (fW (Yn (Qf:=fun _ s'=>SP X pins D .next s') hc hN I hi ok hg ht he hs h fun L C s' m H' I' q hn f=>?_) fun _ s' hq=>wpAny_pure (wpAny_pure hq))
 show wpAny _ _ (assign (.Name y py) X.env (.ref L)) _ _ _
 refine wpAny_assign_Name (Qe (v:=V.ref L) I' hN hy (.inl hyl) rfl (fun s2 I2 ⟨a,sb,ha⟩=>?_) (.inr hyl))
 obtain ⟨f0,f1,f2,f3,f4,f5⟩:=f
 have haC:C≠a:=by
  rcases ha with z | z
  ·rw [z];exact f1
  ·exact fun e=>f4 y a z e.symm
 refine ⟨m,hn.sameBut sb haC,fun h3 sb3=>?_⟩
 exact ⟨_,H',I2.turned (t':=s2.toks) (fun b o hb e=>(sb3.2 b hb).trans e) f0 f1 f3 f4 f5,q⟩
theorem acD {elt:Expr} {gs:List Comprehension} {scope:Scope} {pos py:Pos} {y:Str} {l:Nat} {env:Env} (hk:env.scope.kind=.function) (hy:env.scope.names.lookup y=some .local) (hl:(py.line == pos.line)=true)
  (ha:(scope.names.any fun (n,k)=>n == y&&(k == .local||k == .cell))=false):swapsWith (.ListComp elt gs scope pos) (some (.Name y py)) l env=pure true:=by
 have ky:env.kindOf y=some .local:=hy
 have hb:env.blockKind=.function:=by unfold Env.blockKind;rw [hk];rfl
 unfold swapsWith
 simp only [hb,ky,ha,Expr.pos,hl]
 rfl
end
noncomputable def afN (N:List Str) (sc scope:Scope) (own:List (Str×Nat)):Bool:=
 (match scope.kind with | .function=>true | _=>false)&&(scope.names.all fun y=>decide (scope.names.lookup y.1=some y.2))&&(own.all fun p=>decide (N[p.2]?=some p.1)) &&
  (scope.names.all fun y=>match y.2 with
   | .free=>(match sc.names.lookup y.1 with | some .cell=>true | some .free=>true | _=>false)
   | .local=>decide (y.1∈own.map (·.1))||decide (y.1∉N)
   | .cell=>decide (y.1∈own.map (·.1))||decide (y.1∉N)
   | _=>true)
theorem eE {N:List Str} {sc scope:Scope} {own:List (Str×Nat)} (h:afN N sc scope own=true):Uy N sc scope own:=by
 unfold afN at h
 simp only [Bool.and_eq_true,List.all_eq_true,decide_eq_true_eq]at h
 obtain ⟨⟨⟨h1,h2⟩,h3⟩,h4⟩:=h
 refine ⟨?_,h2,h3,fun y hy e=>?_,fun y hy e=>?_⟩
 ·split at h1
  ·assumption
  ·cases h1
 ·have q:=h4 y hy
  simp only [e]at q
  split at q<;>first | exact .inl (by assumption) | exact .inr (by assumption) | cases q
 ·have q:=h4 y hy
  rcases e with e | e<;>(simp only [e,Bool.or_eq_true,decide_eq_true_eq]at q;exact q)
end L2
namespace L2
open PySem PySem.Spec PyProof.Rows
end L2
namespace L2
open PySem PySem.Spec PyProof.Rows
noncomputable def afO (i:Expr):Prop:=∀ov iv,subscripted i false ov iv=operate [ov,iv] (getItem ov iv)
theorem acE {prog:Program} {w:World} {A:Around} {E:Value→Shared→Prop} {s:Shared} {env:Env} {value slice:Expr} {pos:Pos} {T id:String} {Q:Value→Shared→Prop}
  (hl:typeLookup (.type T) "__getitem__" = pure (some (.builtin id))) (hs:afO slice)
  (h:wpAny (model prog w) A (eval value env) (fun o s₁=>wpAny (model prog w) A (eval slice env) (fun i s₂=>s₂.TypeIs o T∧wpAny (model prog w) A (getItem o i) Q E s₂) E s₁) E s) :
  wpAny (model prog w) A (eval (.Subscript value slice pos) env) Q E s:=by
 refine Subscript_ (wpAny_mono h (fun o s₁ h₁=>wpAny_mono h₁ (fun i s₂ h₂=>?_) fun _ _ x=>x) fun _ _ x=>x)
 obtain ⟨hT,h₂⟩:=h₂
 unfold subscriptTail
 refine wpAny_bind ?_
 rw [getitemInPython_of_ne hT.not_modules]
 refine wpAny_bind (wpAny_specialOf hT hl ?_)
 have fin:wpAny (model prog w) A (subscripted slice false o i) (fun r s₃=>wpAny (model prog w) A (letTemporaryGo value o r >>= fun _=>pure r) Q E s₃) E s₂:=by
  rw [hs o i]
  exact wpAny_operating (wpAny_mono h₂ (fun r s₃ h₃=>wpAny_bind (wpAny_letTemporaryGo (wpAny_pure h₃))) fun _ _ x=>x)
 first
  | exact wpAny_pure (wpAny_bind fin)
  | exact wpAny_bind (wpAny_pure (wpAny_bind fin))
  | exact wpAny_bind fin
end L2
namespace L2
open PySem PySem.Spec PyProof.Rows
end L2
namespace L2
open PySem PySem.Spec PyProof.Rows
theorem J4:bootBuiltins "reversed" = some (.type "reversed"):=by decide +kernel
section
variable {X:Cx} {pins:List (Addr×Obj)} {σ:St} {H:Hp} {s:Shared} {h':Heap}
theorem Inv.Zn {t':Nat} {ch:List Addr} {T:Addr} {ob:HO} (I:Inv X pins σ H s) (k:∀b o,b∉ch→s.heap.get? b=some o→h'.get? b=some o) (hf:∀b∈ch,JV X pins H b) (hT:s.heap.objs.size≤T)
  (new:mV X.prog X.w (upd H T ob) h' T ob):Inv X pins σ (upd H T ob) { s with heap:=h',toks:=t' }:=by
 have hn:H T=none:=I.hok.fresh hT
 have nit:∀b u,H b=some u→b∉ch:=fun b u e z=>by
  have q:=(hf b z).1
  rw [q]at e;cases e
 refine I.step (g':=s.gens) (d':=s.drawn) (ch:=ch) (fun b hb=>⟨(hf b hb).2.2.2.1,(hf b hb).2.1,(hf b hb).2.2.2.2.1,(hf b hb).2.2.2.2.2⟩) (fun b o _ _ hc e _=>k b o hc e) (fun b o _ _ hc e _=>⟨o.slots,k b o hc e⟩)
  (fun b o _ e n=>?_) (fun b o hc e=>⟨o,k b o hc e⟩) (fun b xs e=>?_) (fun b o u e=>?_) (fun b ps e=>⟨#[],?_⟩) (fun m hm=>?_) (fun b u e=>?_) I.bare
 ·rw [aJ (Nat.ne_of_lt (Nat.lt_of_lt_of_le (Heap.lt_size e) hT))];exact n
 ·rw [aJ (bw e hn)];exact e
 ·rw [aJ (bw e hn)];exact e
 ·rw [aJ (bw e hn),e];simp
 ·obtain ⟨o,es,ep,ho,r⟩:=hm
  exact ⟨o,es,ep,k _ o (fun z=>(hf _ z).2.1 rfl) ho,r⟩
 ·by_cases hb:b=T
  ·subst hb
   rw [aA]at e
   cases e
   exact new
  ·rw [aJ hb]at e
   refine (I.hok b u e).stay (fun c v hc q=>k c v ?_ q) (fun c q=>by rw [aJ (bw q hn)];exact q) fun c xs q=>by rw [aJ (bw q hn)];exact q
   rcases hc with z | z
   ·rw [z];exact nit b u e
   ·exact nit c _ z
end
section
variable {X:Cx}
theorem abf {tg:Expr} {pins:List (Addr×Obj)} {σ:St} {H:Hp} {s:Shared} {R:It→Hp→Prop} {J:It} {tn:Nat→Heap→Prop} {tk:Nat} (I:Inv X pins σ H s) (o:Obj)
  (T:Turn X.prog X.w X.K tg J [s.heap.objs.size] s.heap.objs.size tn) (st:tn 0 (s.heap.push o)) (q:R J H):PIE X pins σ tg R (.ref s.heap.objs.size) { s with heap:=s.heap.push o,toks:=tk }:=by
 refine ⟨s.heap.objs.size,[s.heap.objs.size],tn,J,H,rfl,I.kept fun b ob e=>Heap.get?_push_of_some _ e,T,st,fun b hb=>?_,q⟩
 have e:b=s.heap.objs.size:=by simpa using hb
 subst e
 exact I.aaW (Nat.le_refl _) (I.hok.fresh (Nat.le_refl _))
end
noncomputable def Itc (lo c:Int) (n:Nat):It:=⟨fun i _=>i<n,fun i H x H'=>H'=H∧x=.int (lo+(i:Nat)*c),fun i _=>n≤i⟩
theorem UJ {P:Program} {w:World} {K:PySem.W.Frag} {tg:Expr} (it:Addr) (lo c:Int) (n:Nat):Turn P w K tg (Itc lo c n) [it] it (fun i h=>IsRangeIter h it (lo+(i:Nat)*c) ((n:Int)-(i:Nat)) c) where
 mem:=by simp
 obj:=fun i h st b hb=>by
  have e:b=it:=by simpa using hb
  subst e
  exact ⟨_,st,fun v z=>nomatch z⟩
 keep:=fun i h h' st k=>k it (by simp) _ st
 item:=by
  intro X hP hw hK hc i pins s σ H E I hf st hg
  subst hP hw hK
  obtain ⟨f0,f1,f2,f3,f4,f5⟩:=hf it (by simp)
  have W:=Walks.range (prog:=X.prog) (w:=X.w) (I.ok.hd hc) it lo c n
  refine W.item i s _ _ hg st fun v h' tk hv st' kk=>?_
  obtain ⟨t,rfl⟩:=hv
  have I1:Inv X pins σ H { s with heap:=h',toks:=tk }:=I.turned (fun b o hb e=>kk b o (by simpa using hb) e) f0 f1 f3 f4 f5
  exact ⟨_,rfl,Yb (s:={ s with heap:=h',toks:=tk }) (n := "range_iterator") st' rfl rfl (by decide) ⟨.int (lo+(i:Nat)*c),H,I1,⟨t,rfl⟩,⟨rfl,rfl⟩,st',fun b hb=>(hf b hb).1⟩⟩
 done:=by
  intro X hP hw hK hc i pins s σ H E I hf st hg
  subst hP hw hK
  obtain ⟨f0,f1,f2,f3,f4,f5⟩:=hf it (by simp)
  exact wpAny_pyNext_range_end (I.ok.hd hc) st (by have:n≤i:=hg;omega) fun h' eb=>⟨rfl,I.turned (t':=s.toks) (fun b o hb e=>eb b o hb e) f0 f1 f3 f4 f5⟩
 self:=fun A i s Q E st h=>wpAny_pyIter_rangeiter st h
noncomputable def RgC (i j c:Int) (n:Nat):Prop:=c≠0∧c.natAbs<1073741824∧Builtin.Range.small i j c=true∧Builtin.Range.rangeSize i j c=n
noncomputable def abg (ta:TA):TI:=fun σ H R=>ta σ H fun vs H1=>∃(i j c:Int) (n:Nat),vs=[.int i,.int j,.int c]∧RgC i j c n∧R (Itc i c n) H1
section
variable {X:Cx} {tg:Expr}
theorem Zo {a b c:Expr} {ta:TA} {p pos:Pos} (hg:Gl X "range") (hm:X.mg "range" = none) (ha:PA X [a,b,c] ta)
  (hs:starEach [a,b,c] X.env=(false,eval a X.env)::starEach [b,c] X.env:=by rfl) (hpl:(backTo pos (starEach [b,c] X.env)).any (·.1)=false:=by rfl) :
  PI X tg (.Call (.Name "range" p) [a,b,c] [] pos) (abg ta):=by
 intro pins s σ H R I h
 refine Call_ (tV I hg hm boot_range (PyProof.Rows.callWith_type1 (fW (ha pos pins s σ H _ I h) fun us s1 ⟨vs,H1,I1,r1,q1⟩=>?_) hs hpl))
 obtain ⟨i,j,k,n,e,⟨c0,c1,c2,c3⟩,q⟩:=q1
 subst e
 cases r1 with
 | cons r rr=>
  cases rr with
  | cons r' rr=>
   cases rr with
   | cons r'' rr=>
    cases rr
    obtain ⟨t,rfl⟩:=r
    obtain ⟨t',rfl⟩:=r'
    obtain ⟨t'',rfl⟩:=r''
    refine call_range_3 c0 ?_ (.inl (PyProof.noPylong_small c1))
    refine wpAny_pyIter_range (IsRange.new ..) c2 ?_
    have I2:Inv X pins σ H1 { s1 with heap:=s1.heap.push { cls:=.type "range",data:=.fields #[.int i t,.int j t',.int k t''] } }:=I1.kept (t':=s1.toks) fun b o e=>Heap.get?_push_of_some _ e
    refine abf (tk:=s1.toks) I2 _ (UJ _ i k n) ?_ q
    have e1:i+((0:Nat):Int)*k=i:=by simp
    have e2:(n:Int)-((0:Nat):Int)=Builtin.Range.rangeSize i j k:=by rw [c3];simp
    show IsRangeIter _ _ (i+((0:Nat):Int)*k) ((n:Int)-((0:Nat):Int)) k
    rw [e1,e2]
    exact Heap.get?_push_size _ rfl
end
noncomputable def Itv (K:PySem.W.Frag) (a:Addr) (n:Nat):It:=
 ⟨fun i H=>i<n∧∃(xs:List V) (x:V),b7 K H a xs∧xs[n-1-i]?=some x,fun i H x H'=>H'=H∧∀xs,b7 K H a xs→xs[n-1-i]?=some x,fun i _=>n≤i⟩
theorem abh {P:Program} {w:World} {K:PySem.W.Frag} {tg:Expr} (a it:Addr) (n:Nat):Turn P w K tg (Itv K a n) [it] it (fun i h=>i≤n∧h.IsRevIter it a ((n:Int)-1-(i:Nat))) where
 mem:=by simp
 obj:=fun i h st b hb=>by
  have e:b=it:=by simpa using hb
  subst e
  obtain ⟨_,o,e,c,d⟩:=st
  exact ⟨o,e,fun v z=>by rw [d]at z;cases z⟩
 keep:=fun i h h' st k=>⟨st.1,st.2.at fun o e=>k it (by simp) o e⟩
 item:=by
  intro X hP hw hK hc i pins s σ H E I hf st hg
  subst hP hw hK
  obtain ⟨hin,xs,x,hq,hx⟩:=hg
  obtain ⟨its,rv,p,hz⟩:=I.list hq
  obtain ⟨u,hu,ru⟩:=rv.get hx
  obtain ⟨f0,f1,f2,f3,f4,f5⟩:=hf it (by simp)
  obtain ⟨_,hit⟩:=st
  have e1:(n:Int)-1-((i:Nat):Int)=((n-1-i:Nat):Int):=by omega
  rw [e1]at hit
  refine wpAny_pyNext_rev_item hit p.isList (x:=u) (by simpa using hu) fun h' st' sb=>?_
  have e2:((n-1-i:Nat):Int)-1=(n:Int)-1-((i+1:Nat):Int):=by omega
  rw [e2]at st'
  have I1:Inv X pins σ H { s with heap:=h' }:=I.turned (t':=s.toks) (fun b o hb e=>(sb.2 b hb).trans e) f0 f1 f3 f4 f5
  obtain ⟨o,e,c,d⟩:=id st'
  exact ⟨u,rfl,Yb (s:={ s with heap:=h' }) e c d (by decide) ⟨x,H,I1,ru,⟨rfl,fun ys hy=>by rw [I.JR hy hq];exact hx⟩,⟨hin,st'⟩,fun b hb=>(hf b hb).1⟩⟩
 done:=by
  intro X hP hw hK hc i pins s σ H E I hf st hg
  subst hP hw hK
  obtain ⟨f0,f1,f2,f3,f4,f5⟩:=hf it (by simp)
  obtain ⟨hin,hit⟩:=st
  have hge:n≤i:=hg
  have e1:(n:Int)-1-((i:Nat):Int)=-1:=by omega
  rw [e1]at hit
  exact wpAny_pyNext_rev_end (I.ok.hd hc) hit fun h' eb=>⟨rfl,I.turned (t':=s.toks) (fun b o hb e=>eb b o hb e) f0 f1 f3 f4 f5⟩
 self:=fun A i s Q E st h=>wpAny_pyIter_revIter st.2 h
noncomputable def afQ (K:PySem.W.Frag) (ta:TA):TI:=fun σ H R=>ta σ H fun vs H1=>∃(a:Addr) (xs:List V),vs=[.ref a]∧b7 K H1 a xs∧R (Itv K a xs.length) H1
section
variable {X:Cx} {tg:Expr}
theorem UL {e:Expr} {ta:TA} {p pos:Pos} (hg:Gl X "reversed") (hm:X.mg "reversed" = none) (ha:PA X [e] ta) (hs:starEach [e] X.env=[(false,eval e X.env)]:=by rfl):PI X tg (.Call (.Name "reversed" p) [e] [] pos) (afQ X.K ta):=by
 intro pins s σ H R I h
 refine Call_ (tV I hg hm J4 (PyProof.Rows.callWith_type1 (fW (ha pos pins s σ H _ I h) fun us s1 ⟨vs,H1,I1,r1,q1⟩=>?_) hs rfl))
 obtain ⟨a,xs,e,hq,q⟩:=q1
 subst e
 cases r1 with
 | cons r rr=>
  cases rr
  cases r
  obtain ⟨its,rv,p',hz⟩:=I1.list hq
  have hl:=rv.length
  have e1:((its.toArray.size:Nat):Int)-1=(xs.length:Int)-1-((0:Nat):Int):=by simp only [List.size_toArray];omega
  refine call_reversed_list p'.isList (wpAny_pyIter_revIter (l:=a) (i:=((its.toArray.size:Nat):Int)-1) ⟨_,Heap.get?_push_size _ rfl,rfl,rfl⟩ ?_)
  refine abf (tk:=s1.toks) I1 _ (abh a _ xs.length) ⟨Nat.zero_le _,?_⟩ q
  rw [←e1]
  exact ⟨_,Heap.get?_push_size _ rfl,rfl,rfl⟩
end
noncomputable def Ite (K:PySem.W.Frag) (a:Addr):It:=
 ⟨fun i H=>∃(xs:List V) (x:V),b7 K H a xs∧xs[i]?=some x,fun i H v H'=>∃T x,v=.ref T∧H T=none∧H'=upd H T (.tup [.int (i:Nat),x])∧∀xs,b7 K H a xs→xs[i]?=some x,fun i H=>∃xs:List V,b7 K H a xs∧xs.length≤i⟩
theorem Zq {P:Program} {w:World} {K:PySem.W.Frag} {elts:List Expr} {kk:Nat} {tpos:Pos} (a e it:Addr) :
  Turn P w K (.Tuple elts kk tpos) (Ite K a) [e,it] e (fun i h=>(∃old,IsEnum h e it ((i:Nat):Int) old)∧h.IsListIter it a i∧e≠it) where
 mem:=by simp
 obj:=fun i h st b hb=>by
  obtain ⟨⟨old,he⟩,⟨o,ho,hc,hd⟩,_⟩:=st
  have e':b=e∨b=it:=by simpa using hb
  rcases e' with z | z
  ·rw [z];exact ⟨_,he,fun v q=>nomatch q⟩
  ·rw [z];exact ⟨o,ho,fun v q=>by rw [hd]at q;cases q⟩
 keep:=fun i h h' st k=>let ⟨⟨old,he⟩,hi,hne⟩:=st;⟨⟨old,k e (by simp) _ he⟩,hi.at fun o q=>k it (by simp) o q,hne⟩
 item:=by
  intro X hP hw hK hc i pins s σ H E I hf st hg
  subst hP hw hK
  obtain ⟨⟨old,he⟩,hit,hne⟩:=st
  obtain ⟨xs,x,hq,hx⟩:=hg
  obtain ⟨its,rv,p,hz⟩:=I.list hq
  obtain ⟨u,hu,ru⟩:=rv.get hx
  have hel:e<s.heap.objs.size:=Heap.lt_size he
  have hil:it<s.heap.objs.size:=by obtain ⟨_,q,_⟩:=hit;exact Heap.lt_size q
  refine wpAny_pyNext_enum_item he hit p.isList (x:=u) (by simpa using hu) hne fun h' ho hit' hT hsz hk=>?_
  refine ⟨_,rfl,wpAny_letOwnedTupleGo_enum (s:={ s with heap:=h',toks:=s.toks+1 }) ho fun h'' he' sb=>?_⟩
  have hT2:h''.get? s.heap.objs.size=some { cls:=.type "tuple",data:=.seq #[.int i s.toks,u] }:=(sb.2 _ (Nat.ne_of_gt hel)).trans hT
  have new:mV X.prog X.w (upd H s.heap.objs.size (.tup [.int (i:Nat),x])) h'' s.heap.objs.size (.tup [.int (i:Nat),x]):=
   ⟨by show 2≤sizeLine;decide,[.int i s.toks,u],.cons ⟨_,rfl⟩ (.cons ru .nil),⟨_,hT2,rfl,_,rfl⟩⟩
  have I1:Inv X pins σ (upd H s.heap.objs.size (.tup [.int (i:Nat),x])) { s with heap:=h'',toks:=s.toks+1 }:=
   I.Zn (ch:=[e,it]) (fun b ob hb q=>(sb.2 b (fun z=>hb (by simp [z]))).trans (hk b ob (fun z=>hb (by simp [z])) (fun z=>hb (by simp [z])) q)) hf (Nat.le_refl _) new
  refine ⟨.ref s.heap.objs.size,_,I1,rfl,⟨_,x,rfl,I.hok.fresh (Nat.le_refl _),rfl,fun ys hy=>by rw [I.JR hy hq];exact hx⟩,⟨⟨u,?_⟩,hit'.at fun o q=>(sb.2 it (Ne.symm hne)).trans q,hne⟩,fun b hb=>?_⟩
  ·have e1:((i+1:Nat):Int)=(i:Int)+1:=by omega
   rw [e1];exact he'
  ·have hb':b<s.heap.objs.size:=by
    have e':b=e∨b=it:=by simpa using hb
    rcases e' with z | z
    ·rw [z];exact hel
    ·rw [z];exact hil
   rw [aJ (Nat.ne_of_lt hb')]
   exact (hf b hb).1
 done:=by
  intro X hP hw hK hc i pins s σ H E I hf st hg
  subst hP hw hK
  obtain ⟨⟨old,he⟩,hit,hne⟩:=st
  obtain ⟨xs,hq,hx⟩:=hg
  obtain ⟨its,rv,p,hz⟩:=I.list hq
  obtain ⟨f0,f1,f2,f3,f4,f5⟩:=hf it (by simp)
  have hl:=rv.length
  exact wpAny_pyNext_enum_end (I.ok.hd hc) he hit p.isList (by simp;omega) fun h' eb=>⟨rfl,I.turned (t':=s.toks) (fun b o hb q=>eb b o hb q) f0 f1 f3 f4 f5⟩
 self:=fun A i s Q E st h=>let ⟨⟨_,he⟩,_⟩:=st;wpAny_pyIter_enum he h
noncomputable def abi (K:PySem.W.Frag) (ta:TA):TI:=fun σ H R=>ta σ H fun vs H1=>∃a xs,vs=[.ref a]∧b7 K H1 a xs∧R (Ite K a) H1
theorem Ck {X:Cx} {e:Expr} {ta:TA} {p pos tpos:Pos} {elts:List Expr} {kk:Nat} (hg:Gl X "enumerate") (hm:X.mg "enumerate" = none) (ha:PA X [e] ta) (hs:starEach [e] X.env=[(false,eval e X.env)]:=by rfl) :
  PI X (.Tuple elts kk tpos) (.Call (.Name "enumerate" p) [e] [] pos) (abi X.K ta):=by
 intro pins s σ H R I h
 refine Call_ (tV I hg hm boot_enumerate (PyProof.Rows.callWith_type1 (fW (ha pos pins s σ H _ I h) fun us s1 ⟨vs,H1,I1,r1,q1⟩=>?_) hs rfl))
 obtain ⟨a,xs,ex,hq,q⟩:=q1
 subst ex
 cases r1 with
 | cons r rr=>
  cases rr
  cases r
  obtain ⟨its,rv,p',hz⟩:=I1.list hq
  refine call_enumerate_list p'.isList fun h' he hit hsz hk=>wpAny_pyIter_enum he ?_
  have I2:Inv X pins σ H1 { s1 with heap:=h' }:=I1.kept (t':=s1.toks) hk
  refine ⟨s1.heap.objs.size+1,[s1.heap.objs.size+1,s1.heap.objs.size],_,_,H1,rfl,I2,Zq a (s1.heap.objs.size+1) s1.heap.objs.size,⟨⟨.none,he⟩,hit,Nat.succ_ne_self _⟩,fun b hb=>?_,q⟩
  have e':b=s1.heap.objs.size+1∨b=s1.heap.objs.size:=by simpa using hb
  have hle:s1.heap.objs.size≤b:=by
   rcases e' with z | z
   ·rw [z];exact Nat.le_add_right _ _
   ·rw [z];exact Nat.le_refl _
  exact I1.aaW hle (I1.hok.fresh hle)
end L2
section
namespace ahi
open PySem PyProof.Rows
end ahi
end
section
namespace TL
open PySem PySem.Builtin PySem.Builtin.Str PySem.StrLaws
end TL
end
namespace L2
open PySem PySem.Spec PyProof.Rows
end L2
namespace L2
open PySem PySem.Spec PyProof.Rows
end L2
namespace Att
open PySem PySem.W PySem.Calls PyProof.Rows
end Att
namespace L2
open PySem PySem.Spec PyProof.Rows
end L2
namespace L2
open PySem PySem.Spec PyProof.Rows
end L2
namespace L2
open PySem PySem.Spec PyProof.Rows
noncomputable def inClass (s:Stmt) (j:Nat):Stmt:=match s with
 | .ClassDef _ _ _ body _ _ _ _ _ _ _=>body.getD j (.Pass ⟨0,0,0,0⟩)
 | _=>.Pass ⟨0,0,0,0⟩
noncomputable def oR (s:Stmt):Arguments:=match s with
 | .FunctionDef _ a _ _ _ _ _ _ _ _=>a
 | _=>{ posonlyargs:=[],args:=[],vararg:=none,kwonlyargs:=[],kw_defaults:=[],kwarg:=none,defaults:=[] }
noncomputable def iZ (s:Stmt):List Stmt:=match s with
 | .FunctionDef _ _ b _ _ _ _ _ _ _=>b
 | _=>[]
noncomputable def aF (s:Stmt):Scope:=match s with
 | .FunctionDef _ _ _ _ _ _ sc _ _ _=>sc
 | _=>{ kind:=.function,names:=[],isGenerator:=false,isCoroutine:=false }
noncomputable abbrev fH:CXT:=fun _ _ _ _ _ _=>False
noncomputable abbrev E0:XK:=fun _ _ _=>False
theorem aO {X:Cx}:Passes fH X E0:=fun _ _ _ _ _ _ _ h=>h.elim
structure cI (K:PySem.W.Frag) (x qual:Str) (st:Stmt) (f:Addr) (fd:FuncData):Prop where
 ex:∃(oc:Value) (od:Option Addr) (kV doc pm:Value) (an:Option Addr) (cdv ct:Value) (osl:Array (Option Value)),
  fd=PySem.W.fnOf x qual (oR st) (iZ st) (aF st) .none kV doc pm an cdv ct∧K.lookup f=some ⟨oc,od,.func fd,osl⟩∧PySem.W.codeIn K cdv qual=true
 kp:PySem.W.keepIn K (.ref f)=true
section
variable {P:Program} {w:World} {K:PySem.W.Frag} {mg:Str→Option Value} {base:Heap}
theorem cI.ok {x qual:Str} {st:Stmt} {f:Addr} {fd:FuncData} {N ps:List Str} {k:Nat} {sp:Sp} (F:cI K x qual st f fd) (S:aW N ps (aF st)) (len:∀vs H Q E,sp vs H Q E→vs.length=ps.length)
  (hbody:∀(cdv:Value) (A:Around) (outer:List Env) (s:Shared) (H:Hp) (vs:List V) (Q:VK) (E:XK),lN k (A.deeper (envOfC qual (aF st) s.heap.objs.size f cdv))→sp vs H Q E→
   ∃t,Zb (J2 fH P w K mg base N qual (aF st) f cdv A outer s H E).nox (iZ st) t∧t { nx:=fun _ H'=>Q .non H',rt:=Q } (start N vs) H):cz P w K mg base fH (k+1) f fd ps sp:=by
 obtain ⟨oc,od,kV,doc,pm,an,cdv,ct,osl,rfl,lk,hcd⟩:=F.ex
 refine adx lk hcd S len fun A outer s H vs Q E hr hsp=>?_
 obtain ⟨t,h,q⟩:=hbody cdv A outer s H vs Q E hr hsp
 exact ⟨t,h.nox,q⟩
theorem cI.binds {x qual:Str} {st:Stmt} {f:Addr} {fd:FuncData} {ps:List Str} (F:cI K x qual st f fd)
  (h:∀(kV doc pm:Value) (an:Option Addr) (cdv ct:Value) (us:List Value),us.length=ps.length→bindArgs (PySem.W.fnOf x qual (oR st) (iZ st) (aF st) .none kV doc pm an cdv ct) ⟨us,[]⟩=pure (ps.zip us)):Binds K fd ps []:=by
 obtain ⟨oc,od,kV,doc,pm,an,cdv,ct,osl,rfl,lk,hcd⟩:=F.ex
 exact .all (h kV doc pm an cdv ct)
theorem Wz {x qual:Str} {st:Stmt} {f:Addr} {oc:Value} {od an:Option Addr} {osl:Array (Option Value)} {kV doc pm cdv ct:Value} (l:K.lookup f=some ⟨oc,od,.func (PySem.W.fnOf x qual (oR st) (iZ st) (aF st) .none kV doc pm an cdv ct),osl⟩)
  (c:PySem.W.codeIn K cdv qual=true) (k:PySem.W.keepIn K (.ref f)=true):cI K x qual st f (PySem.W.fnOf x qual (oR st) (iZ st) (aF st) .none kV doc pm an cdv ct):=⟨⟨oc,od,kV,doc,pm,an,cdv,ct,osl,rfl,l,c⟩,k⟩
end
section
variable {X:Cx}
theorem pv (i:Nat) {x:Str} {pos:Pos} (hN:X.N[i]?=some x:=by rfl) (hv:Vis X.env.scope x:=by first | exact Or.inl rfl | exact Or.inr (Or.inl rfl) | exact Or.inr (Or.inr rfl)) (hd:(x == ("__debug__" : Str))=false:=by decide)
  (hcd:(x == ("__classdict__" : Str))=false:=by decide):PE X (.Name x pos) (aaP i):=aaQ hN hv hd hcd
end
theorem ahj {c A B:Prop} [Decidable c] (h1:c→A) (h2:¬c→B):if c then A else B:=by
 by_cases h:c
 ·rw [if_pos h]
  exact h1 h
 ·rw [if_neg h]
  exact h2 h
noncomputable def aK (H H':Hp):Prop:=∀b o,H b=some o→H' b=some o
theorem aK.refl (H:Hp):aK H H:=fun _ _ h=>h
theorem aK.trans {H H1 H2:Hp} (a:aK H H1) (b:aK H1 H2):aK H H2:=fun c o h=>b c o (a c o h)
theorem aK.free {H H':Hp} (e:aK H H') {l:Addr} (h:H' l=Option.none):H l=Option.none:=by
 cases q:H l with
 | none=>rfl
 | some o=>
  rw [e l o q]at h
  cases h
theorem aK.seq {K:PySem.W.Frag} {H H':Hp} {a:Addr} {xs:List V} (e:aK H H') (h:b7 K H a xs):b7 K H' a xs:=by
 rcases h with (h | ⟨o,h⟩) | h
 ·exact .inl (.inl (e _ _ h))
 ·exact .inl (.inr ⟨o,e _ _ h⟩)
 ·exact .inr h
theorem at_of {xs:List V} {z:Int} {j:Nat} {v:V} (e:z=(j:Int)) (h:xs[j]?=some v):oO xs z=some v:=by
 rw [e]
 exact Ym h
theorem aK.made {H H1:Hp} {x dx C:Addr} (nx:H x=Option.none) (nd:H dx=Option.none) (k:∀b o,(upd (upd H dx (.own x)) x (.ins C dx [])) b=some o→b≠x→H1 b=some o):aK H H1:=fun b o e=>
 k b o (by rw [aJ (bw e nx),aJ (bw e nd)];exact e) (bw e nx)
end L2
section
namespace L2
open PySem PySem.Spec PyProof.Rows
open PySem.W (WData Codec OpenSpec Well WellAll ReadsW ReadsAllW)
mutual
inductive Dw (K:PySem.W.Frag) (H:Hp):V→WData→Prop
 | non:Dw K H .non .none
 | bl (b:Bool):Dw K H (.bl b) (.bool b)
 | int (i:Int):Dw K H (.int i) (.int i)
 | str (x:Str):Dw K H (.str x) (.str x)
 | V0 (b:Array UInt8):Dw K H (.V0 b) (.bytes b.toList)
 | lst {a:Addr} {xs:List V} {ds:List WData}:b7 K H a xs→Cm K H xs ds→Dw K H (.ref a) (.list ds)
 | tup {a:Addr} {xs:List V} {ds:List WData}:zj K H a xs→Cm K H xs ds→Dw K H (.ref a) (.tuple ds)
inductive Cm (K:PySem.W.Frag) (H:Hp):List V→List WData→Prop
 | nil:Cm K H [] []
 | cons {v:V} {vs:List V} {d:WData} {ds:List WData}:Dw K H v d→Cm K H vs ds→Cm K H (v::vs) (d::ds)
end
theorem Yo {K:PySem.W.Frag} {H:Hp}:∀ns:List Int,Cm K H (ns.map V.int) (ns.map WData.int)
 | []=>.nil
 | n::r=>.cons (.int n) (Yo r)
theorem Yp {K:PySem.W.Frag} {H:Hp}:∀(ns:List Int) (xs:List V),Cm K H xs (ns.map WData.int)→xs=ns.map V.int
 | [],xs,h=>by
  cases h
  rfl
 | n::r,xs,h=>by
  cases h with
  | cons h1 h2=>
   cases h1
   rw [Yp r _ h2]<;>rfl
section
variable {P:Program} {w:World} {K:PySem.W.Frag} {H:Hp} {h:Heap} {R:PySem.W.WRecords} {cl:Str→Option Addr}
theorem aej {a:Addr} {xs:List V} (hok:zg P w H h) (KX:K.In h) (q:b7 K H a xs):∃(its:List Value) (o:Obj) (n:Nat),Vals xs its∧h.get? a=some o∧o.cls=.type "list" ∧ o.data=.seq its.toArray n:=by
 rcases q with q | ⟨o,its,n,e,hc,_,hd,_,hv⟩
 ·obtain ⟨_,its,n,hv,e⟩:=(show mV P w H h a (.lst xs) from q.ok hok)
  exact ⟨its,_,n,hv,e,rfl,rfl⟩
 ·exact ⟨its.toList,o,n,hv,KX _ _ e,hc,by simp [hd]⟩
theorem aek {a:Addr} {xs:List V} (hok:zg P w H h) (KX:K.In h) (q:zj K H a xs):∃(its:List Value) (o:Obj) (n:Nat),Vals xs its∧h.get? a=some o∧o.cls=.type "tuple" ∧ o.data=.seq its.toArray n:=by
 rcases q with q | ⟨o,its,n,e,hc,hd,_,hv⟩
 ·obtain ⟨_,its,hv,o,e,hc,n,hd⟩:=(show mV P w H h a (.tup xs) from q.ok hok)
  exact ⟨its,o,n,hv,e,hc,hd⟩
 ·exact ⟨its.toList,o,n,hv,KX _ _ e,hc,by simp [hd]⟩
mutual
theorem Dw.reads (hok:zg P w H h) (KX:K.In h):∀(d:WData) (v:V) (u:Value),Dw K H v d→RelV v u→∃as,ReadsW R cl h u d as
 | .none,_,_,x,r=>by
  cases x
  cases r
  exact ⟨_,ReadsW.none⟩
 | .bool b,_,_,x,r=>by
  cases x
  cases r
  exact ⟨_,ReadsW.bool b⟩
 | .int i,_,_,x,r=>by
  cases x
  obtain ⟨t,rfl⟩:=r
  exact ⟨_,ReadsW.int i t⟩
 | .str s,_,_,x,r=>by
  cases x
  obtain ⟨t,rfl⟩:=r
  exact ⟨_,ReadsW.str s t⟩
 | .bytes b,_,_,x,r=>by
  cases x
  obtain ⟨t,rfl⟩:=r
  exact ⟨_,ReadsW.bytes _ t⟩
 | .list ds,_,_,x,r=>by
  cases x with
  | lst hs ha=>
   cases r
   obtain ⟨its,o,n,rv,ho,hc,hd⟩:=aej hok KX hs
   obtain ⟨as,hr⟩:=Dw.readsAll hok KX ds _ its ha rv
   exact ⟨_,ReadsW.list ho hc hd hr⟩
 | .tuple ds,_,_,x,r=>by
  cases x with
  | tup hs ha=>
   cases r
   obtain ⟨its,o,n,rv,ho,hc,hd⟩:=aek hok KX hs
   obtain ⟨as,hr⟩:=Dw.readsAll hok KX ds _ its ha rv
   exact ⟨_,ReadsW.tuple ho hc hd hr⟩
 | .float _,_,_,x,_=>by cases x
 | .dict _,_,_,x,_=>by cases x
 | .bytearray _,_,_,x,_=>by cases x
 | .set _,_,_,x,_=>by cases x
 | .frozenset _,_,_,x,_=>by cases x
 | .obj _ _,_,_,x,_=>by cases x
theorem Dw.readsAll (hok:zg P w H h) (KX:K.In h):∀(ds:List WData) (vs:List V) (us:List Value),Cm K H vs ds→Vals vs us→∃as,ReadsAllW R cl h us ds as
 | [],_,_,x,r=>by
  cases x
  cases r
  exact ⟨_,ReadsAllW.nil⟩
 | d::ds,_,_,x,r=>by
  cases x with
  | cons h1 h2=>
   cases r with
   | cons r1 r2=>
    obtain ⟨as,q1⟩:=Dw.reads hok KX d _ _ h1 r1
    obtain ⟨bs,q2⟩:=Dw.readsAll hok KX ds _ _ h2 r2
    exact ⟨_,ReadsAllW.cons q1 q2⟩
end
end
mutual
noncomputable def plW:WData→Bool
 | .none=>true
 | .bool _=>true
 | .int _=>true
 | .str _=>true
 | .bytes _=>true
 | .list xs=>Rp xs
 | .tuple xs=>Rp xs
 | _=>false
noncomputable def Rp:List WData→Bool
 | []=>true
 | x::r=>plW x&&Rp r
end
theorem zY:∀{xs:List WData} {d:WData},d∈xs→d.weight≤WData.weightAll xs
 | [],d,h=>absurd h (by simp)
 | x::r,d,h=>by
  show d.weight≤x.weight+1+WData.weightAll r
  rcases List.mem_cons.mp h with e | m
  ·rw [e]
   omega
  ·have z:=zY m
   omega
noncomputable def toV:Value→V
 | .none=>.non
 | .bool b=>.bl b
 | .int i _=>.int i
 | .str x _=>.str x
 | .bytes b _=>.V0 b
 | .ref a=>.ref a
 | _=>.non
noncomputable def Zr (A:List Addr):Value→Prop
 | .none=>True
 | .bool _=>True
 | .int _ _=>True
 | .str _ _=>True
 | .bytes _ _=>True
 | .ref a=>a∈A
 | _=>False
theorem Zr.mono {A B:List Addr} (h:∀a∈A,a∈B):∀{u:Value},Zr A u→Zr B u:=fun {u} x=>by
 cases u with
 | ref a=>exact h a x
 | none=>trivial
 | bool b=>trivial
 | int i t=>trivial
 | str s t=>trivial
 | bytes b t=>trivial
 | _=>exact False.elim x
theorem abj {A:List Addr} {u:Value} (x:Zr A u):RelV (toV u) u:=by
 cases u with
 | ref a=>rfl
 | none=>rfl
 | bool b=>rfl
 | int i t=>exact ⟨t,rfl⟩
 | str s t=>exact ⟨t,rfl⟩
 | bytes b t=>exact ⟨t,rfl⟩
 | _=>exact False.elim x
theorem uU {A:List Addr}:∀{vs:List Value},(∀u∈vs,Zr A u)→Vals (vs.map toV) vs
 | [],_=>.nil
 | u::r,h=>.cons (abj (h u (List.mem_cons_self ..))) (uU fun x hx=>h x (List.mem_cons_of_mem _ hx))
noncomputable def wM (h:Heap) (A:List Addr) (a:Addr):Prop:=∃vs:List Value,vs.length≤sizeLine∧(∀u∈vs,Zr A u)∧
 (h.get? a=some { cls:=.type "list",data:=.seq vs.toArray }∨h.get? a=some { cls:=.type "tuple",data:=.seq vs.toArray })
theorem wM.mono {h:Heap} {A B:List Addr} {a:Addr} (k:∀a∈A,a∈B) (x:wM h A a):wM h B a:=by
 obtain ⟨vs,h1,h2,h3⟩:=x
 exact ⟨vs,h1,fun u hu=>(h2 u hu).mono k,h3⟩
theorem tE {P:Params} {h:Heap}:∀{vs:List Value} {ds:List WData},WellAll P h vs ds→vs.length=ds.length
 | _,_,.nil=>rfl
 | _,_,.cons _ b=>by
  show _+1=_+1
  rw [tE b]
theorem Qq {P:Params} {h:Heap} {v:Value} {ds:List WData} (x:Well P h v (.list ds)):∃(a:Addr) (vs:List Value),v=.ref a∧h.get? a=some { cls:=.type "list",data:=.seq vs.toArray }∧WellAll P h vs ds:=by
 cases x with
 | list ho hall=>exact ⟨_,_,rfl,ho,hall⟩
theorem J5 {P:Params} {h:Heap} {v:Value} {ds:List WData} (x:Well P h v (.tuple ds)):∃(a:Addr) (vs:List Value),v=.ref a∧h.get? a=some { cls:=.type "tuple",data:=.seq vs.toArray }∧WellAll P h vs ds:=by
 cases x with
 | tuple ho hall=>exact ⟨_,_,rfl,ho,hall⟩
theorem Qs {P:Params} {h:Heap} {us:List Value} {d:WData} {ds:List WData} (x:WellAll P h us (d::ds)):∃(v:Value) (vs:List Value),us=v::vs∧Well P h v d∧WellAll P h vs ds:=by
 cases x with
 | cons a b=>exact ⟨_,_,rfl,a,b⟩
theorem Yq {n:Nat} (h:n≤1048576):n≤sizeLine:=Nat.le_trans h (by decide)
section
variable {P:Params} {h:Heap}
mutual
theorem abk:∀(d:WData) (v:Value),Well P h v d→plW d=true→d.weight≤1048576→∃A:List Addr,Zr A v∧∀a∈A,wM h A a
 | .none,_,x,_,_=>by
  cases x
  exact ⟨[],trivial,fun a m=>absurd m (by simp)⟩
 | .bool b,_,x,_,_=>by
  cases x
  exact ⟨[],trivial,fun a m=>absurd m (by simp)⟩
 | .int i,_,x,_,_=>by
  cases x
  exact ⟨[],trivial,fun a m=>absurd m (by simp)⟩
 | .str s,_,x,_,_=>by
  cases x
  exact ⟨[],trivial,fun a m=>absurd m (by simp)⟩
 | .bytes b,_,x,_,_=>by
  cases x
  exact ⟨[],trivial,fun a m=>absurd m (by simp)⟩
 | .list ds,_,x,p,z=>by
  obtain ⟨a,vs,rfl,ho,hall⟩:=Qq x
  have z2:WData.weightAll ds≤1048576:=z
  obtain ⟨A,h1,h2⟩:=Cp ds _ hall p fun d hd=>Nat.le_trans (zY hd) z2
  have k:∀b∈A,b∈a::A:=fun b hb=>List.mem_cons_of_mem _ hb
  refine ⟨a::A,List.mem_cons_self ..,fun b hb=>?_⟩
  rcases List.mem_cons.mp hb with e | m
  ·rw [e]
   exact ⟨vs,Yq (by rw [tE hall];exact Nat.le_trans (PySem.W.length_le_weightAllW ds) z2),fun u hu=>(h1 u hu).mono k,.inl ho⟩
  ·exact (h2 b m).mono k
 | .tuple ds,_,x,p,z=>by
  obtain ⟨a,vs,rfl,ho,hall⟩:=J5 x
  have z2:WData.weightAll ds≤1048576:=z
  obtain ⟨A,h1,h2⟩:=Cp ds _ hall p fun d hd=>Nat.le_trans (zY hd) z2
  have k:∀b∈A,b∈a::A:=fun b hb=>List.mem_cons_of_mem _ hb
  refine ⟨a::A,List.mem_cons_self ..,fun b hb=>?_⟩
  rcases List.mem_cons.mp hb with e | m
  ·rw [e]
   exact ⟨vs,Yq (by rw [tE hall];exact Nat.le_trans (PySem.W.length_le_weightAllW ds) z2),fun u hu=>(h1 u hu).mono k,.inr ho⟩
  ·exact (h2 b m).mono k
 | .float _,_,_,p,_=>Bool.noConfusion (show false=true from p)
 | .dict _,_,_,p,_=>Bool.noConfusion (show false=true from p)
 | .bytearray _,_,_,p,_=>Bool.noConfusion (show false=true from p)
 | .set _,_,_,p,_=>Bool.noConfusion (show false=true from p)
 | .frozenset _,_,_,p,_=>Bool.noConfusion (show false=true from p)
 | .obj _ _,_,_,p,_=>Bool.noConfusion (show false=true from p)
theorem Cp:∀(ds:List WData) (vs:List Value),WellAll P h vs ds→Rp ds=true→(∀d∈ds,d.weight≤1048576)→∃A:List Addr,(∀u∈vs,Zr A u)∧∀a∈A,wM h A a
 | [],_,x,_,_=>by
  cases x
  exact ⟨[],fun u m=>absurd m (by simp),fun a m=>absurd m (by simp)⟩
 | d::ds,_,x,p,z=>by
  obtain ⟨v,vs,rfl,x1,x2⟩:=Qs x
  have q:plW d=true∧Rp ds=true:=Bool.and_eq_true_iff.mp p
  obtain ⟨A,a1,a2⟩:=abk d v x1 q.1 (z d (List.mem_cons_self ..))
  obtain ⟨B,b1,b2⟩:=Cp ds vs x2 q.2 fun e he=>z e (List.mem_cons_of_mem _ he)
  have kA:∀b∈A,b∈A++B:=fun b hb=>List.mem_append.mpr (.inl hb)
  have kB:∀b∈B,b∈A++B:=fun b hb=>List.mem_append.mpr (.inr hb)
  refine ⟨A++B,fun u hu=>?_,fun b hb=>?_⟩
  ·rcases List.mem_cons.mp hu with e | m
   ·rw [e]
    exact a1.mono kA
   ·exact (b1 u m).mono kB
  ·rcases List.mem_append.mp hb with m | m
   ·exact (a2 b m).mono kA
   ·exact (b2 b m).mono kB
end
end
noncomputable def acF (o:Obj):Option HO:=match o.data with
 | .seq vs _=>if (o.cls == Value.type "list")=true then some (.G4 o (.lst (vs.toList.map toV))) else some (.G4 o (.tup (vs.toList.map toV)))
 | _=>none
noncomputable def sW (K:PySem.W.Frag) (h:Heap) (A:List Addr):Hp:=fun b=>if b∈A then (if (K.lookup b).isNone=true then (h.get? b).bind acF else none) else none
noncomputable def ady (H:Hp):Prop:=∀b,H b=none∨∃o u,H b=some (.G4 o u)
theorem UT (vs:List Value):acF { cls:=.type "list",data:=.seq vs.toArray }=some (.G4 { cls:=.type "list",data:=.seq vs.toArray } (.lst (vs.map toV))):=by
 show (if (Value.type "list" == Value.type "list")=true then some (HO.G4 { cls:=.type "list",data:=.seq vs.toArray } (.lst (vs.toArray.toList.map toV))) else some (HO.G4 { cls:=.type "list",data:=.seq vs.toArray } (.tup (vs.toArray.toList.map toV))))=_
 rw [if_pos (beq_self_eq_true _)]
theorem UW (vs:List Value):acF { cls:=.type "tuple",data:=.seq vs.toArray }=some (.G4 { cls:=.type "tuple",data:=.seq vs.toArray } (.tup (vs.map toV))):=by
 show (if (Value.type "tuple" == Value.type "list")=true then some (HO.G4 { cls:=.type "tuple",data:=.seq vs.toArray } (.lst (vs.toArray.toList.map toV))) else some (HO.G4 { cls:=.type "tuple",data:=.seq vs.toArray } (.tup (vs.toArray.toList.map toV))))=_
 rw [if_neg (by decide)]
section
variable {P:Program} {w:World} {K:PySem.W.Frag} {h:Heap} {A:List Addr}
theorem Jf {b:Addr} {o:Obj} (hb:b∈A) (hk:K.lookup b=none) (e:h.get? b=some o):sW K h A b=acF o:=by
 unfold sW
 rw [if_pos hb,hk,if_pos (show (none:Option Obj).isNone=true from rfl),e]<;>rfl
theorem acG {b:Addr} {u:HO} (q:sW K h A b=some u):b∈A∧K.lookup b=none:=by
 unfold sW at q
 by_cases hb:b∈A
 ·rw [if_pos hb]at q
  cases hk:K.lookup b with
  | none=>exact ⟨hb,rfl⟩
  | some o=>
   rw [hk,if_neg (by simp)]at q
   cases q
 ·rw [if_neg hb]at q
  cases q
theorem Jg (ar:∀a∈A,wM h A a) {b:Addr} {u:HO} (q:sW K h A b=some u):K.lookup b=none∧∃vs:List Value,vs.length≤sizeLine∧(∀u∈vs,Zr A u)∧
  ((h.get? b=some { cls:=.type "list",data:=.seq vs.toArray }∧u=.G4 { cls:=.type "list",data:=.seq vs.toArray } (.lst (vs.map toV)))∨
    (h.get? b=some { cls:=.type "tuple",data:=.seq vs.toArray }∧u=.G4 { cls:=.type "tuple",data:=.seq vs.toArray } (.tup (vs.map toV)))):=by
 obtain ⟨hb,hk⟩:=acG q
 obtain ⟨vs,h1,h2,h3⟩:=ar b hb
 refine ⟨hk,vs,h1,h2,?_⟩
 rcases h3 with e | e
 ·rw [Jf hb hk e,UT]at q
  exact .inl ⟨e,(Option.some.inj q).symm⟩
 ·rw [Jf hb hk e,UW]at q
  exact .inr ⟨e,(Option.some.inj q).symm⟩
theorem Zt (ar:∀a∈A,wM h A a):ady (sW K h A):=fun b=>by
 cases q:sW K h A b with
 | none=>exact .inl rfl
 | some u=>
  obtain ⟨_,vs,_,_,⟨_,e⟩ | ⟨_,e⟩⟩:=Jg ar q
  ·exact .inr ⟨_,_,by rw [e]⟩
  ·exact .inr ⟨_,_,by rw [e]⟩
theorem acH (ar:∀a∈A,wM h A a):zg P w (sW K h A) h:=fun b u q=>by
 obtain ⟨_,vs,h1,h2,⟨e,rfl⟩ | ⟨e,rfl⟩⟩:=Jg ar q
 ·exact ⟨e,by rw [List.length_map];exact h1,vs,_,uU h2,e⟩
 ·exact ⟨e,by rw [List.length_map];exact h1,vs,uU h2,_,e,rfl,_,rfl⟩
theorem Jh {c c':Value} {vs us:List Value} (e:(some { cls:=c,data:=.seq vs.toArray }:Option Obj)=some { cls:=c',data:=.seq us.toArray }):c=c'∧vs=us:=by
 have e1:=Option.some.inj e
 have e2:c=c':=congrArg Obj.cls e1
 have e3:Data.seq vs.toArray=Data.seq us.toArray:=congrArg Obj.data e1
 injection e3 with e4
 refine ⟨e2,?_⟩
 have e5:=congrArg Array.toList e4
 simpa using e5
theorem ahk (KX:K.In h) (ar:∀a∈A,wM h A a) {a:Addr} {vs:List Value} (ha:a∈A) (e:h.get? a=some { cls:=.type "list",data:=.seq vs.toArray }):(∀u∈vs,Zr A u)∧b7 K (sW K h A) a (vs.map toV):=by
 obtain ⟨us,h1,h2,h3⟩:=ar a ha
 have hu:us=vs:=by
  rcases h3 with q | q
  ·rw [e]at q
   exact (Jh q).2.symm
  ·rw [e]at q
   exact absurd (Value.type.inj (Jh q).1) (by decide)
 subst hu
 refine ⟨h2,?_⟩
 cases hk:K.lookup a with
 | none=>exact .inl (.inr ⟨_,by rw [Jf ha hk e,UT]⟩)
 | some o=>
  have e2:=KX a o hk
  rw [e]at e2
  obtain rfl:=Option.some.inj e2
  exact .inr ⟨_,us.toArray,_,hk,rfl,rfl,rfl,by rw [List.size_toArray];exact h1,by simpa using uU h2⟩
theorem ahl (KX:K.In h) (ar:∀a∈A,wM h A a) {a:Addr} {vs:List Value} (ha:a∈A) (e:h.get? a=some { cls:=.type "tuple",data:=.seq vs.toArray }):(∀u∈vs,Zr A u)∧zj K (sW K h A) a (vs.map toV):=by
 obtain ⟨us,h1,h2,h3⟩:=ar a ha
 have hu:us=vs:=by
  rcases h3 with q | q
  ·rw [e]at q
   exact absurd (Value.type.inj (Jh q).1) (by decide)
  ·rw [e]at q
   exact (Jh q).2.symm
 subst hu
 refine ⟨h2,?_⟩
 cases hk:K.lookup a with
 | none=>exact .inl (.inr ⟨_,by rw [Jf ha hk e,UW]⟩)
 | some o=>
  have e2:=KX a o hk
  rw [e]at e2
  obtain rfl:=Option.some.inj e2
  exact .inr ⟨_,us.toArray,_,hk,rfl,rfl,by rw [List.size_toArray];exact h1,by simpa using uU h2⟩
mutual
theorem ael {Pm:Params} (KX:K.In h) (ar:∀a∈A,wM h A a):∀(d:WData) (v:Value),Well Pm h v d→plW d=true→Zr A v→Dw K (sW K h A) (toV v) d
 | .none,_,x,_,_=>by
  cases x
  exact .non
 | .bool b,_,x,_,_=>by
  cases x
  exact .bl b
 | .int i,_,x,_,_=>by
  cases x
  exact .int i
 | .str s,_,x,_,_=>by
  cases x
  exact .str s
 | .bytes b,_,x,_,_=>by
  cases x
  have z:=Dw.V0 (K:=K) (H:=sW K h A) b.toArray
  exact z
 | .list ds,_,x,p,hu=>by
  obtain ⟨a,vs,rfl,ho,hall⟩:=Qq x
  obtain ⟨h2,hs⟩:=ahk KX ar hu ho
  exact .lst hs (Rq KX ar ds _ hall p h2)
 | .tuple ds,_,x,p,hu=>by
  obtain ⟨a,vs,rfl,ho,hall⟩:=J5 x
  obtain ⟨h2,hs⟩:=ahl KX ar hu ho
  exact .tup hs (Rq KX ar ds _ hall p h2)
 | .float _,_,_,p,_=>Bool.noConfusion (show false=true from p)
 | .dict _,_,_,p,_=>Bool.noConfusion (show false=true from p)
 | .bytearray _,_,_,p,_=>Bool.noConfusion (show false=true from p)
 | .set _,_,_,p,_=>Bool.noConfusion (show false=true from p)
 | .frozenset _,_,_,p,_=>Bool.noConfusion (show false=true from p)
 | .obj _ _,_,_,p,_=>Bool.noConfusion (show false=true from p)
theorem Rq {Pm:Params} (KX:K.In h) (ar:∀a∈A,wM h A a):∀(ds:List WData) (vs:List Value),WellAll Pm h vs ds→Rp ds=true→(∀u∈vs,Zr A u)→Cm K (sW K h A) (vs.map toV) ds
 | [],_,x,_,_=>by
  cases x
  exact .nil
 | d::ds,_,x,p,hu=>by
  obtain ⟨v,vs,rfl,x1,x2⟩:=Qs x
  have q:plW d=true∧Rp ds=true:=Bool.and_eq_true_iff.mp p
  exact .cons (ael KX ar d v x1 q.1 (hu _ (List.mem_cons_self ..))) (Rq KX ar ds vs x2 q.2 fun u m=>hu u (List.mem_cons_of_mem _ m))
end
end
theorem J6 {ds:List WData} (h:WData.layableAll ds=true):∀d∈ds,d.weight≤1048576:=fun d hd=>
 (PySem.W.layableW_iff.mp (List.all_eq_true.mp h d hd)).2.2
end L2
end
namespace Ts
open PySem PySem.Spec PyProof.Rows L2
open Vbreab (Pt)
section
variable {P:Program} {w:World} {K:PySem.W.Frag} {mg:Str→Option Value} {base:Heap}
inductive ik (P:Program) (w:World) (K:PySem.W.Frag) (mg:Str→Option Value) (base:Heap) (x:Str) (k:Nat) (ps:List Str) (sp:Sp):Prop where
 | mk (f:Addr) (fd:FuncData) (_:cz P w K mg base fH k f fd ps sp) (_:mg x=some (.ref f)) (_:PySem.W.keepIn K (.ref f)=true) (_:Binds K fd ps []):ik P w K mg base x k ps sp
inductive Met (P:Program) (w:World) (K:PySem.W.Frag) (mg:Str→Option Value) (base:Heap) (C:Addr) (m:Str) (k:Nat) (ps:List Str) (sp:Sp):Prop where
 | mk (f:Addr) (fd:FuncData) (_:cz P w K mg base fH k f fd ps sp) (_:Uq K C) (_:Meth K C m f) (_:Binds K fd ps []):Met P w K mg base C m k ps sp
inductive Mak (P:Program) (w:World) (K:PySem.W.Frag) (mg:Str→Option Value) (base:Heap) (x:Str) (C:Addr) (k:Nat) (ps:List Str) (sp:Sp):Prop where
 | mk (f:Addr) (fd:FuncData) (_:cz P w K mg base fH k f fd ps sp) (_:mg x=some (.ref C)) (_:Mk K C f) (_:Binds K fd ps []):Mak P w K mg base x C k ps sp
end
theorem bN {X:Cx} {x:Str} {i:Int} {pos:Pos} (hg:Gl X x) (h:∃t,X.mg x=some (.int i t)) (hd:(x == ("__debug__" : Str))=false:=by decide):PE X (.Name x pos) (tC (.int i)):=by
 obtain ⟨t,h⟩:=h
 exact X5 hg h ⟨_,rfl⟩ hd
theorem boot_min:bootBuiltins "min" = some (.builtin "min"):=by decide +kernel
theorem boot_max:bootBuiltins "max" = some (.builtin "max"):=by decide +kernel
theorem cxK {P:Program} {w:World} {K:PySem.W.Frag} {mg:Str→Option Value} {base:Heap} {N:List Str} {q:Str} {sc:Scope} {f:Addr} {cdv:Value} {A:Around} {outer:List Env} {s:Shared} {H:Hp} {E:XK}:(J2 fH P w K mg base N q sc f cdv A outer s H E).K=K:=rfl
noncomputable def cB (H:Hp) (a:Addr) (p:Pt):Prop:=H a=some (.tup [.int p.x,.int p.y])
theorem cB.iff {H:Hp} {a:Addr} {p:Pt} (h:cB H a p) (q:Pt):cB H a q↔p=q:=by
 constructor
 ·intro h'
  unfold cB at h h'
  rw [h]at h'
  simp only [Option.some.injEq,HO.tup.injEq,List.cons.injEq,V.int.injEq,and_true]at h'
  cases p;cases q
  simp only [Pt.mk.injEq]at *
  exact h'
 ·rintro rfl
  exact h
theorem cB.same {H H':Hp} {a:Addr} {p:Pt} (h:cB H a p) (s:aK H H'):cB H' a p:=s _ _ h
theorem acI {X:Cx} {r r':R2} (h:Wt X r) (hr:∀x y H Q,r' x y H Q→r x y H Q):Wt X r':=
 fun e1 e2 pins s σ H x y v u Q I r1 r2 q=>h e1 e2 pins s σ H x y v u Q I r1 r2 (hr x y H Q q)
noncomputable def abl (p:Pt) (i:Int):Int:=if i=0 then p.x else p.y
theorem Rr (p:Pt):abl p 0=p.x:=rfl
theorem Rt (p:Pt):abl p 1=p.y:=rfl
noncomputable def aem (i:Int):Prop:=i=0∨i=1
theorem WD:aem 0↔True:=⟨fun _=>trivial,fun _=>.inl rfl⟩
theorem WK:aem 1↔True:=⟨fun _=>trivial,fun _=>.inr rfl⟩
noncomputable def rPt:R2:=fun x y H Q=>∃a p i,x=.ref a∧y=.int i∧cB H a p∧aem i∧Q (.int (abl p i)) H
theorem cQ {X:Cx}:Wt X rPt:=acI vD fun x y H Q h=>by
 obtain ⟨a,p,i,rfl,rfl,hp,h,q⟩:=h
 rcases h with rfl | rfl
 ·exact ⟨a,_,_,_,rfl,rfl,zj.of hp,at_of (j:=0) rfl rfl,q⟩
 ·exact ⟨a,_,_,_,rfl,rfl,zj.of hp,at_of (j:=1) rfl rfl,q⟩
theorem Ru (i j:Int) [Decidable (j<i)]:(if j<i then j else i)=min i j:=by
 by_cases h:j<i
 ·rw [if_pos h];omega
 ·rw [if_neg h];omega
theorem Rv (i j:Int) [Decidable (j>i)]:(if j>i then j else i)=max i j:=by
 by_cases h:j>i
 ·rw [if_pos h];omega
 ·rw [if_neg h];omega
theorem ahn {Q:VK} {H:Hp} {b b':Bool} (k:Q (.bl b) H) (e:b=b'):Q (.bl b') H:=e▸k
noncomputable def Loop (J:It) (g:TG) (tb:TS) (D:Ends) (σ:L2.St) (H:Hp):Prop:=Wl (fun _ H R=>R J H) g tb D σ H
section
variable {K:PySem.W.Frag} {ta:TA} {tl:TE} {g:TG} {tb:TS} {D:Ends} {σ:L2.St} {H:Hp} {a:Addr} {xs:List V}
theorem Ey:Wl (aaX ta) g tb D σ H=ta σ H fun vs H1=>∃j:Int,vs=[.int j]∧(-(2 ^ 62)≤j∧j<2 ^ 62∧Loop (Yc 0 j.toNat) g tb D σ H1):=rfl
theorem Ez:Wl (aaY ta) g tb D σ H=ta σ H fun vs H1=>∃i j:Int,vs=[.int i,.int j]∧((-(2 ^ 62)≤i∧i<2 ^ 62∧-(2 ^ 62)≤j∧j<2 ^ 62)∧Loop (Yc i (j-i).toNat) g tb D σ H1):=rfl
theorem EY:Wl (abg ta) g tb D σ H=ta σ H fun vs H1=>∃(i j c:Int) (n:Nat),vs=[.int i,.int j,.int c]∧(RgC i j c n∧Loop (Itc i c n) g tb D σ H1):=rfl
theorem Fb:Wl (Yd K tl) g tb D σ H=tl σ H fun x H1=>∃a,x=.ref a∧((∃xs,b7 K H1 a xs)∧Loop (Itl K a) g tb D σ H1):=rfl
theorem Fd:Wl (abi K ta) g tb D σ H=ta σ H fun vs H1=>∃a xs,vs=[.ref a]∧(b7 K H1 a xs∧Loop (Ite K a) g tb D σ H1):=rfl
theorem Loop.list (Pv:Nat→L2.St→Hp→Prop) (h0:Pv 0 σ H) (hl:∀i σ H,i≤xs.length→Pv i σ H→b7 K H a xs)
  (hs:∀i x σ H,xs[i]?=some x→Pv i σ H→g x σ H fun σ2 H2=>tb { D with nx:=Pv (i+1),ct:=Pv (i+1),bk:=D.nx } σ2 H2) (hd:∀σ H,Pv xs.length σ H→D.nx σ H):Loop (Itl K a) g tb D σ H:=
 aaZ Pv h0 hl hs hd
theorem Loop.range {lo:Int} {n:Nat} (Pv:Nat→L2.St→Hp→Prop) (h0:Pv 0 σ H)
  (hs:∀i σ H,i<n→Pv i σ H→g (.int (lo+i)) σ H fun σ2 H2=>tb { D with nx:=Pv (i+1),ct:=Pv (i+1),bk:=D.nx } σ2 H2) (hd:∀σ H,Pv n σ H→D.nx σ H):Loop (Yc lo n) g tb D σ H:=
 Zg Pv h0 hs hd
theorem Loop.enum (Pv:Nat→L2.St→Hp→Prop) (h0:Pv 0 σ H) (hl:∀i σ H,i≤xs.length→Pv i σ H→b7 K H a xs)
  (hs:∀i x σ H T,xs[i]?=some x→Pv i σ H→H T=none→g (.ref T) σ (upd H T (.tup [.int (i:Nat),x])) fun σ2 H2=>tb { D with nx:=Pv (i+1),ct:=Pv (i+1),bk:=D.nx } σ2 H2) (hd:∀σ H,Pv xs.length σ H→D.nx σ H):Loop (Ite K a) g tb D σ H:=by
 refine ⟨fun i m σ H=>m=xs.length-i∧i≤xs.length∧Pv i σ H,⟨xs.length,by simp,Nat.zero_le _,h0⟩,?_⟩
 rintro i m σ H ⟨rfl,hi,p⟩
 have q:=hl i σ H hi p
 by_cases hlt:i<xs.length
 ·refine .inr ⟨⟨xs,xs[i],q,by simp [hlt]⟩,Pv (i+1),fun σ' H' p'=>⟨xs.length-(i+1),by omega,rfl,hlt,p'⟩,fun x H' y=>?_⟩
  obtain ⟨T,z,rfl,hT,rfl,y⟩:=y
  exact hs i z σ _ T (y xs q) p hT
 ·have e:i=xs.length:=by omega
  subst e
  exact .inl ⟨⟨xs,q,Nat.le_refl _⟩,hd σ H p⟩
theorem acJ {n:Nat} (h:n≤1000000) (he:n % 2=0):RgC 0 (n:Int) 2 (n / 2):=by
 have hz:Builtin.Range.rangeSize 0 (n:Int) 2=((n / 2:Nat):Int):=by
  simp only [Builtin.Range.rangeSize]
  rw [if_pos (by decide)]
  by_cases h0:(0:Int)<n
  ·rw [if_pos h0];omega
  ·rw [if_neg h0];omega
 refine ⟨by decide,by decide,?_,hz⟩
 unfold Builtin.Range.small
 rw [hz]
 have fit:∀i:Int,-10≤i→i≤2000000→Builtin.Range.rangeFitsLong i=true:=fun i h1 h2=>by
  unfold Builtin.Range.rangeFitsLong
  rw [Bool.and_eq_true,decide_eq_true_eq,decide_eq_true_eq]
  omega
 have p:(2:Int)>0:=by decide
 rw [if_pos p,fit 0 (by omega) (by omega),fit n (by omega) (by omega),fit 2 (by omega) (by omega),fit _ (by omega) (by omega),fit _ (by omega) (by omega)]
 cases (((n / 2:Nat):Int) == 0)<;>rfl
end
theorem zW.near {i j:Int} (h:-2000000≤i∧i≤2000000):zW i j:=.inl ⟨by omega,by omega⟩
theorem boot_all:bootBuiltins "all" = some (.builtin "all"):=by decide +kernel
theorem boot_any:bootBuiltins "any" = some (.builtin "any"):=by decide +kernel
theorem boot_sum:bootBuiltins "sum" = some (.builtin "sum"):=by decide +kernel
noncomputable def gK (J:It) (g:TG) (tt:TT) (te:TE) (vs:List Nat) (σ:L2.St) (H1:Hp) (Q:VK):Prop:=∀D,H1 D=none→∃W:Nat→Nat→Hp→Prop,(∃m,W 0 m (upd H1 D (.lst [])))∧∀i m H,W i m H→
 (J.stop i H∧Q (.ref D) H)∨(J.go i H∧∃Nx:Hp→Prop,(∀H',Nx H'→∃m',m'<m∧W (i+1) m' H')∧∀x H',J.yld i H x H'→g x (wipe σ vs) H' fun σ2 H2=>wipe σ2 vs=wipe σ vs∧tt σ2 H2 fun b H3=>
  if b=true then te σ2 H3 fun y H4=>∃acc,H4 D=some (.lst acc)∧acc.length<sizeLine∧Nx (upd H4 D (.lst (acc++[y]))) else Nx H3)
section
variable {K:PySem.W.Frag} {ta:TA} {tl:TE} {g:TG} {tt:TT} {te:TE} {vs:List Nat} {σ:L2.St} {H H1:Hp} {Q:VK} {a:Addr}
theorem J7:tLc (aaX ta) g tt te vs σ H Q=ta σ H fun vs' H1=>∃j:Int,vs'=[.int j]∧(-(2 ^ 62)≤j∧j<2 ^ 62∧gK (Yc 0 j.toNat) g tt te vs σ H1 Q):=rfl
theorem J8:tLc (aaY ta) g tt te vs σ H Q=ta σ H fun vs' H1=>∃i j:Int,vs'=[.int i,.int j]∧((-(2 ^ 62)≤i∧i<2 ^ 62∧-(2 ^ 62)≤j∧j<2 ^ 62)∧gK (Yc i (j-i).toNat) g tt te vs σ H1 Q):=rfl
theorem J9:tLc (abg ta) g tt te vs σ H Q=ta σ H fun vs' H1=>∃(i j c:Int) (n:Nat),vs'=[.int i,.int j,.int c]∧(RgC i j c n∧gK (Itc i c n) g tt te vs σ H1 Q):=rfl
theorem Ka:tLc (Yd K tl) g tt te vs σ H Q=tl σ H fun x H1=>∃a,x=.ref a∧((∃xs,b7 K H1 a xs)∧gK (Itl K a) g tt te vs σ H1 Q):=rfl
theorem Kc:tLc (abi K ta) g tt te vs σ H Q=ta σ H fun vs' H1=>∃a xs,vs'=[.ref a]∧(b7 K H1 a xs∧gK (Ite K a) g tt te vs σ H1 Q):=rfl
theorem Rw:tLc (afQ K ta) g tt te vs σ H Q=ta σ H fun vs' H1=>∃(a:Addr) (xs:List V),vs'=[.ref a]∧b7 K H1 a xs∧gK (Itv K a xs.length) g tt te vs σ H1 Q:=rfl
end
theorem Fe {α β:Type} {F:α→β→Prop} {l:List α} {m:List β} {a:α} {b:β} (h:Paired F l m) (hab:F a b):Paired F (l++[a]) (m++[b]):=by
 induction h with
 | nil=>exact .cons hab .nil
 | cons h1 h2 ih=>exact .cons h1 ih
theorem bC {α β:Type} {F:α→β→Prop} {l:List α} {m:List β} (h:Paired F l m):l.length=m.length:=by
 induction h with
 | nil=>rfl
 | cons h1 h2 ih=>simp [ih]
theorem gK.rel {β:Type} {J:It} {g:TG} {tt:TT} {te:TE} {vs:List Nat} {σ:L2.St} {H1:Hp} {Q:VK} {n:Nat} (f:Nat→Option β) (Rl:Hp→V→β→Prop)
  (hst:∀(H H':Hp) (D:Addr) (acc:List V) (y:V) (b:β),Rl H y b→H D=some (.lst acc)→(∀a o,a≠D→H a=some o→H' a=some o)→Rl H' y b) (hn:n≤10000000)
  (hJ:∀i H,aK H1 H→(i<n→J.go i H)∧(n≤i→J.stop i H))
  (hs:∀i H x H' (R:V→Hp→Prop) (R':Hp→Prop),i<n→aK H1 H→J.yld i H x H'→(∀y b H4,f i=some b→Rl H4 y b→aK H H4→R y H4)→(∀H3,f i=none→aK H H3→R' H3)→
   g x (wipe σ vs) H' fun σ2 H2=>wipe σ2 vs=wipe σ vs∧tt σ2 H2 fun b H3=>if b=true then te σ2 H3 R else R' H3)
  (hd:∀D H ys,H1 D=none→H D=some (.lst ys)→Paired (Rl H) ys ((List.range n).filterMap f)→aK H1 H→Q (.ref D) H):gK J g tt te vs σ H1 Q:=by
 intro D hD
 have afS:aK H1 (upd H1 D (.lst [])):=fun b o h=>by rw [aJ (bw h hD)];exact h
 refine ⟨fun i m H=>m=n-i∧i≤n∧aK H1 H∧∃ys,H D=some (.lst ys)∧ys.length≤i∧Paired (Rl H) ys ((List.range i).filterMap f),⟨n,by simp,Nat.zero_le _,afS,[],aA,Nat.le_refl _,by simpa using Paired.nil⟩,?_⟩
 rintro i m H ⟨rfl,hi,sm,ys,hH,hl,hp⟩
 obtain ⟨j1,j2⟩:=hJ i H sm
 by_cases hlt:i<n
 ·refine .inr ⟨j1 hlt,fun H'=>i+1≤n∧aK H1 H'∧∃ys,H' D=some (.lst ys)∧ys.length≤i+1∧Paired (Rl H') ys ((List.range (i+1)).filterMap f),fun H' ⟨a1,a2,a3⟩=>⟨n-(i+1),by omega,rfl,a1,a2,a3⟩,fun x H' hy=>?_⟩
  have e:(List.range (i+1)).filterMap f=(List.range i).filterMap f++(f i).toList:=by
   rw [List.range_succ,List.filterMap_append]
   cases hf:f i<;>simp [List.filterMap_cons,hf]
  refine hs i H x H' (fun y H4=>∃acc,H4 D=some (.lst acc)∧acc.length<sizeLine∧(i+1≤n∧aK H1 (upd H4 D (.lst (acc++[y])))∧∃ys,(upd H4 D (.lst (acc++[y]))) D=some (.lst ys)∧ys.length≤i+1∧Paired (Rl (upd H4 D (.lst (acc++[y])))) ys ((List.range (i+1)).filterMap f))) (fun H'=>i+1≤n∧aK H1 H'∧∃ys,H' D=some (.lst ys)∧ys.length≤i+1∧Paired (Rl H') ys ((List.range (i+1)).filterMap f)) hlt sm hy (fun y b H4 hf hr s4=>?_) (fun H3 hf s3=>?_)
  ·have h4:=s4 _ _ hH
   have kp:∀a o,a≠D→H4 a=some o→(upd H4 D (.lst (ys++[y]))) a=some o:=fun a o ha h=>by rw [aJ ha];exact h
   refine ⟨ys,h4,Nat.lt_of_lt_of_le (Nat.lt_of_le_of_lt (Nat.le_trans hl (Nat.le_trans hi hn)) (by decide:10000000<16777216)) (by rw [sizeLine_eq];decide),hlt,fun b o h=>?_,ys++[y],aA,by rw [List.length_append];simp;omega,?_⟩
   ·rw [aJ (bw h hD)];exact s4 _ _ (sm _ _ h)
   ·rw [e,hf]
    refine Fe ?_ (hst _ _ D ys y b hr h4 kp)
    exact Paired.Y8 hp fun z c hz=>hst _ _ D ys z c (hst _ _ D ys z c hz hH fun a o _ h=>s4 a o h) h4 kp
  ·refine ⟨hlt,sm.trans s3,ys,s3 _ _ hH,by omega,?_⟩
   rw [e,hf]
   simp only [Option.toList_none,List.append_nil]
   exact Paired.Y8 hp fun z c hz=>hst _ _ D ys z c hz hH fun a o _ h=>s3 a o h
 ·have ei:i=n:=by omega
  subst ei
  exact .inl ⟨j2 (Nat.le_refl _),hd D H ys hD hH hp sm⟩
theorem acK {α:Type} {l m:List α} (h:Paired (fun a b=>a=b) l m):l=m:=by
 induction h with
 | nil=>rfl
 | cons h1 h2 ih=>rw [h1,ih]
theorem gK.val {J:It} {g:TG} {tt:TT} {te:TE} {vs:List Nat} {σ:L2.St} {H1:Hp} {Q:VK} {n:Nat} (f:Nat→Option V) (hn:n≤10000000)
  (hJ:∀i H,aK H1 H→(i<n→J.go i H)∧(n≤i→J.stop i H))
  (hs:∀i H x H' (R:V→Hp→Prop) (R':Hp→Prop),i<n→aK H1 H→J.yld i H x H'→(∀y H4,f i=some y→aK H H4→R y H4)→(∀H3,f i=none→aK H H3→R' H3)→
   g x (wipe σ vs) H' fun σ2 H2=>wipe σ2 vs=wipe σ vs∧tt σ2 H2 fun b H3=>if b=true then te σ2 H3 R else R' H3)
  (hd:∀D H,H1 D=none→H D=some (.lst ((List.range n).filterMap f))→aK H1 H→Q (.ref D) H):gK J g tt te vs σ H1 Q:=
 gK.rel (β:=V) f (fun _ y b=>y=b) (fun _ _ _ _ _ _ h _ _=>h) hn hJ (fun i H x H' R R' h1 h2 h3 h4 h5=>hs i H x H' R R' h1 h2 h3 (fun y H4 hf hs=>h4 y y H4 hf rfl hs) h5)
  (fun D H ys h1 h2 h3 h4=>hd D H h1 (by rw [h2,acK h3]) h4)
section
variable {K:PySem.W.Frag} {a:Addr} {xs:List V} {H1:Hp}
theorem vH (h:b7 K H1 a xs):∀i H,aK H1 H→(i<xs.length→(Itl K a).go i H)∧(xs.length≤i→(Itl K a).stop i H):=fun i H s=>
 ⟨fun hi=>⟨xs,xs[i],s.seq h,by simp [hi]⟩,fun hi=>⟨xs,s.seq h,hi⟩⟩
theorem WL {lo:Int} {n:Nat}:∀i H,aK H1 H→(i<n→(Yc lo n).go i H)∧(n≤i→(Yc lo n).stop i H):=fun i H _=>⟨fun hi=>hi,fun hi=>hi⟩
theorem abm (h:b7 K H1 a xs):∀i H,aK H1 H→(i<xs.length→(Ite K a).go i H)∧(xs.length≤i→(Ite K a).stop i H):=fun i H s=>
 ⟨fun hi=>⟨xs,xs[i],s.seq h,by simp [hi]⟩,fun hi=>⟨xs,s.seq h,hi⟩⟩
theorem aen (h:b7 K H1 a xs):∀i H,aK H1 H→(i<xs.length→(Itv K a xs.length).go i H)∧(xs.length≤i→(Itv K a xs.length).stop i H):=fun i H s=>
 ⟨fun hi=>⟨hi,xs,xs[xs.length-1-i],s.seq h,by simp [show xs.length-1-i<xs.length by omega]⟩,fun hi=>hi⟩
end
section
variable {X:Cx} {a b c d:Expr} {ta tb tc td:TE} {pos:Pos}
noncomputable def Yr (r r' r'':R2) (ta tb tc td:TE):TE:=fun σ H Q=>ta σ H fun x H1=>tb σ H1 fun y H2=>r x y H2 fun z H3=>∃k,z=.bl k∧
 (if k=true then tc σ H3 fun w' H4=>r' y w' H4 fun z' H5=>∃k',z'=.bl k'∧(if k'=true then td σ H5 fun w'' H6=>r'' w' w'' H6 Q else Q (.bl false) H5) else Q (.bl false) H3)
theorem Zu {op op' aeo:CmpOp} {r r' r'':R2} (ho:Ca X (compareOp op) r) (ho':Ca X (compareOp op') r') (ho'':Ca X (compareOp aeo) r'') (ha:PE X a ta) (hb:PE X b tb) (hc:PE X c tc) (hd:PE X d td)
  (hm:lastMarks [op,op',aeo] [b,c,d]=false:=by with_unfolding_all rfl):PT X (.Compare a [op,op',aeo] [b,c,d] pos) (Qh (Yr r r' r'' ta tb tc td)):=by
 intro pins s σ H Q I h
 refine isTrue_chain (fW (ha pins s σ H _ I h) fun v s1 ⟨x,H1,I1,r1,q1⟩=>test_link (fW (hb pins s1 σ H1 _ I1 q1) fun u s2 ⟨y,H2,I2,r2,q2⟩=>
  fW (ho pins s2 σ H2 x y v u _ I2 r1 r2 q2) fun d' s3 ⟨z,H3,I3,r3,k,e,q3⟩=>?_)) hm
 subst e
 cases r3
 refine wpAny_truthy_bool ?_
 cases k with
 | false=>
  obtain ⟨k',e',q'⟩:=q3
  cases e'
  exact ite_ff ⟨H3,I3,q'⟩
 | true=>
  refine ite_tt (test_link (fW (hc pins s3 σ H3 _ I3 q3) fun w' s4 ⟨z',H4,I4,r4,q4⟩=>fW (ho' pins s4 σ H4 y z' u w' _ I4 r2 r4 q4) fun d2 s5 ⟨z2,H5,I5,r5,k2,e2,q5⟩=>?_))
  subst e2
  cases r5
  refine wpAny_truthy_bool ?_
  cases k2 with
  | false=>
   obtain ⟨k',e',q'⟩:=q5
   cases e'
   exact ite_ff ⟨H5,I5,q'⟩
  | true=>
   refine ite_tt (test_last (fW (hd pins s5 σ H5 _ I5 q5) fun w2 s6 ⟨z3,H6,I6,r6,q6⟩=>fW (ho'' pins s6 σ H6 z' z3 w' w2 _ I6 r4 r6 q6) fun d3 s7 ⟨z4,H7,I7,r7,k3,e3,q7⟩=>?_))
   subst e3
   cases r7
   exact wpAny_truthy_bool ⟨H7,I7,q7⟩
end
section
variable {X:Cx}
noncomputable def Ys:V→List V→Hp→VK→Prop:=fun x vs H Q=>∃(l:Addr) (ns:List Int) (z:Int),x=.ref l∧vs=[.int z]∧H l=some (.lst (ns.map V.int))∧z∈ns∧Q .non (upd H l (.lst ((ns.erase z).map V.int)))
theorem U0 (z:Int):∀ns:List Int,z∈ns→∃j,ns[j]?=some z∧(∀m y,m<j→ns[m]?=some y→y≠z)∧ns.erase z=ns.eraseIdx j
 | [],h=>by simp at h
 | x::ns,h=>by
  by_cases e:x=z
  ·subst e
   exact ⟨0,rfl,fun m y hm=>by omega,by simp⟩
  ·obtain ⟨j,h1,h2,h3⟩:=U0 z ns (by simpa [Ne.symm e] using h)
   refine ⟨j+1,by simpa using h1,fun m y hm hy=>?_,?_⟩
   ·cases m with
    | zero=>simp at hy;subst hy;exact e
    | succ m=>exact h2 m y (by omega) (by simpa using hy)
   ·rw [List.erase_cons,if_neg (by simpa using e),h3];rfl
theorem Qt {α β:Type} (g:α→β):∀(l:List α) (j:Nat),(l.eraseIdx j).map g=(l.map g).eraseIdx j
 | [],_=>rfl
 | _::_,0=>rfl
 | x::l,j+1=>by simp [Qt g l j]
noncomputable def eqZ (z:Int) (u:Value):Bool:=match u with
 | .int n _=>n == z
 | _=>false
theorem Zv:MtM X "list.remove" Ys:=by
 intro pins s σ H x vs v us Q I rx rv h
 obtain ⟨l,ns,z,rfl,rfl,hH,hz,q⟩:=h
 cases rx
 obtain ⟨u,rfl,ru⟩:=rv.one
 obtain ⟨t,rfl⟩:=ru
 obtain ⟨zz,its,n,r,hl,e⟩:=I.Ww hH
 obtain ⟨j,h1,h2,h3⟩:=U0 z ns hz
 have item:∀(m:Nat) (y:Int),ns[m]?=some y→∃t',its[m]?=some (.int y t'):=fun m y hy=>by
  obtain ⟨w,hw,rw'⟩:=r.get (show (ns.map V.int)[m]?=some (.int y) by rw [List.getElem?_map,hy];rfl)
  obtain ⟨t',rfl⟩:=rw'
  exact ⟨t',hw⟩
 obtain ⟨tj,hj⟩:=item j z h1
 have hjl:j<its.toArray.size:=by rw [List.size_toArray];exact (List.getElem?_eq_some_iff.1 hj).1
 have hlen:its.length=ns.length:=by rw [←hl,List.length_map]
 refine call_meets F.slot_list_remove ⟨_,e,rfl⟩ F.entry_list_remove (F.args_list_remove_2 _ _)
  (MeetsSeq.list_remove l its.toArray n (.int z t) (eqZ z) (fun y hy=>?_) j hjl ?_ ?_ (by rw [List.size_toArray];omega)) ⟨e,?_⟩
 ·obtain ⟨m,hm,em⟩:=Array.mem_iff_getElem.1 hy
  have hm':m<ns.length:=by rw [List.size_toArray]at hm;omega
  obtain ⟨t',ht'⟩:=item m ns[m] (List.getElem?_eq_getElem hm')
  have ey:y=.int ns[m] t':=by
   obtain ⟨_,e2⟩:=List.getElem?_eq_some_iff.1 ht'
   rw [←em,←e2];simp
  subst ey
  exact MeetsSeq.EqGives.int _ _ _ _
 ·have:its.toArray[j]=.int z tj:=by
   obtain ⟨_,e2⟩:=List.getElem?_eq_some_iff.1 hj
   simpa using e2
  rw [this];simp [eqZ]
 ·intro m hm hmj
  have hm':m<ns.length:=by rw [List.size_toArray]at hm;omega
  obtain ⟨t',ht'⟩:=item m ns[m] (List.getElem?_eq_getElem hm')
  have:its.toArray[m]=.int ns[m] t':=by
   obtain ⟨_,e2⟩:=List.getElem?_eq_some_iff.1 ht'
   simpa using e2
  rw [this]
  have:=h2 m ns[m] hmj (List.getElem?_eq_getElem hm')
  simpa [eqZ] using this
 ·rw [h3]at q
  have em:(ns.eraseIdx j).map V.int=(ns.map V.int).eraseIdx j:=Qt _ _ _
  rw [em]at q
  refine ⟨.non,_,I.acz (its':=its.eraseIdx j) hH e ?_ (r.eraseIdx j) ?_,rfl,q⟩
  ·show its.toArray.eraseIdxIfInBounds j=(its.eraseIdx j).toArray
   rw [List.eraseIdxIfInBounds_toArray]
  ·have:=Qo (ns.map V.int) j
   omega
end
local macro_rules | `(tactic| open_ks with [$xs,*]) => `(tactic| ((try dsimp only [acq, aaV, X6, acn, aaR, JX, Qh, tUn, tOp, rU, tC, aaP, rI0, rI, acp, X7, X8, Zc, JS, acr, acj, tOr, ack, tB, tIf, Yj, Yi, Zj, tCB, rPt, cxK, Ey, Ez, EY, Fb, Fd, J7, J8, J9, Ka, Kc, Rw, ne_eq, not_false_eq_true, Nat.zero_le, Ru, Rv, Rr, Rt, WD, WK, rEq, rNe, aa1, acw, acx, L2.start, List.map, List.cons_append, List.nil_append, List.append_nil, List.getElem?_cons_zero, List.getElem?_cons_succ, List.set_cons_zero, List.set_cons_succ, List.length_cons, List.length_nil, List.replicate, List.set_nil, $[$xs:term],*]); try simp only [acq, aaV, X6, acn, aaR, JX, Qh, tUn, tOp, rU, tC, aaP, rI0, rI, acp, X7, X8, Zc, JS, acr, acj, tOr, ack, tB, tIf, Yj, Yi, Zj, tCB, rPt, cxK, Ey, Ez, EY, Fb, Fd, J7, J8, J9, Ka, Kc, Rw, ne_eq, not_false_eq_true, Nat.zero_le, Ru, Rv, Rr, Rt, WD, WK, rEq, rNe, aa1, acw, acx, L2.start, List.map, List.cons_append, List.nil_append, List.append_nil, List.getElem?_cons_zero, List.getElem?_cons_succ, List.set_cons_zero, List.set_cons_succ, List.length_cons, List.length_nil, List.replicate, List.set_nil, Option.some.injEq, V.int.injEq, V.bl.injEq, V.ref.injEq, List.cons.injEq, and_true, and_assoc, true_and, exists_eq_left', exists_and_left, exists_eq_left, exists_eq, decide_eq_true_eq, Bool.true_eq, Bool.false_eq_true, if_false, if_true, Nat.reduceAdd, Nat.reduceSub, reduceCtorEq, false_and, and_false, or_false, false_or, Bool.not_true, Bool.not_false, $[$xs:term],*]))
noncomputable def top (i:Nat):Stmt:=PySem.Challenge.pw_tautstrings_s01_answers.main.body.getD i (.Pass ⟨0,0,0,0⟩)
structure Txt (mg:Str→Option Value):Prop where
 cZ:mg "len" = none
 adA:mg "min" = none
 Yt:mg "max" = none
 vI:mg "range" = none
 ph:mg "enumerate" = none
 Kd:mg "reversed" = none
 abn:mg "sorted" = none
 abo:mg "all" = none
 afT:mg "any" = none
 adB:mg "sum" = none
 aep:mg "list" = none
 vJ:∃t,mg "FARTHEST" = some (.int 1000000 t)
 uV:∃t,mg "NO_MARK" = some (.int (-1) t)
 yU:∃t,mg "HIGHEST" = some (.int 1000 t)
 Rx:∃t,mg "MOST_MARKS" = some (.int 16 t)
 Nt:∃t,mg "MOST_TRACKS" = some (.int 8 t)
 zF:∃t,mg "MOST_PLACES" = some (.int 200 t)
 fB:∃t,mg "BAD_VALUE" = some (.int (-1) t)
 Ry:∃t,mg "MARK_THERE" = some (.int (-2) t)
 di:∃t,mg "NO_TRACK" = some (.int (-2) t)
 vK:∃t,mg "TOO_MANY" = some (.int (-3) t)
 Nu:∃t,mg "TRACK_THERE" = some (.int (-4) t)
 wN:∃t,mg "MARK_ON_PIECE" = some (.int (-5) t)
 tY:∃t,mg "ENDS_UNLIKE" = some (.int (-7) t)
section
variable {P:Program} {w:World} {K:PySem.W.Frag} {mg:Str→Option Value} {base:Heap} {f:Addr} {fd:FuncData}
noncomputable abbrev zZ:Stmt:=top 7
theorem U3:aW ["x","y"] ["x","y"] (aF zZ):=⟨rfl,rfl,rfl,by decide +kernel,rfl,by decide +kernel,by decide +kernel⟩
noncomputable def Ji (x y:Int):Bool:=decide (-1000000≤x∧x≤1000000∧-1000000≤y∧y≤1000000)
noncomputable def jk:Sp:=fun vs H Q _=>∃x y:Int,vs=[.int x,.int y]∧Q (.bl (Ji x y)) H
theorem U4 (F:cI K "in_range" "in_range" zZ f fd) (T:Txt mg):cz P w K mg base fH 1 f fd ["x","y"] jk:=by
 refine F.ok U3 (fun vs H Q E h=>?_) (fun cdv A outer s H vs Q E hr h=>?_)
 ·obtain ⟨x,y,rfl,_⟩:=h
  rfl
 ·obtain ⟨x,y,rfl,q⟩:=h
  refine ⟨_,(aB (aH (vB (o9 lM lM (o8 jj (bN rfl T.vJ)) (pv 0) (bN rfl T.vJ)) (pD (o9 lM lM (o8 jj (bN rfl T.vJ)) (pv 1) (bN rfl T.vJ)))))),?_⟩
  open_ks with []
  unfold Ji at q
  by_cases h1:-1000000≤x<;>by_cases h2:x≤1000000<;>by_cases h3:-1000000≤y<;>by_cases h4:y≤1000000<;>simp [h1,h2,h3,h4]at q ⊢<;>exact q
noncomputable abbrev WM:Stmt:=top 9
theorem acL:aW ["a","b","place"] ["a","b","place"] (aF WM):=⟨rfl,rfl,rfl,by decide +kernel,rfl,by decide +kernel,by decide +kernel⟩
noncomputable def gk:Sp:=fun vs H Q _=>∃(a b c:Addr) (p q r:Pt),vs=[.ref a,.ref b,.ref c]∧cB H a p∧cB H b q∧cB H c r∧az.Near 1000000 p∧az.Near 1000000 q∧az.Near 1000000 r∧Q (.int (Vbreab.side p q r)) H
theorem acM (F:cI K "turn" "turn" WM f fd) (T:Txt mg):cz P w K mg base fH 1 f fd ["a","b","place"] gk:=by
 refine F.ok acL (fun vs H Q E h=>?_) (fun cdv A outer s H vs Q E hr h=>?_)
 ·obtain ⟨a,b,c,p,q,r,rfl,_⟩:=h
  rfl
 ·obtain ⟨a,b,c,p,q,r,rfl,ha,hb,hc,np,nq,nr,k⟩:=h
  refine ⟨_,(aB (aH (bU dh (bU qT (bU dh (bA cQ (pv 1) aG (fun _ _=>rfl)) (bA cQ (pv 0) aG (fun _ _=>rfl))) (bU dh (bA cQ (pv 2) aG (fun _ _=>rfl)) (bA cQ (pv 0) aG (fun _ _=>rfl)))) (bU qT (bU dh (bA cQ (pv 1) aG (fun _ _=>rfl)) (bA cQ (pv 0) aG (fun _ _=>rfl))) (bU dh (bA cQ (pv 2) aG (fun _ _=>rfl)) (bA cQ (pv 0) aG (fun _ _=>rfl))))))),?_⟩
  open_ks with [ha.iff,hb.iff,hc.iff]
  obtain ⟨p1,p2,p3,p4⟩:=np
  obtain ⟨q1,q2,q3,q4⟩:=nq
  refine ⟨zW.near (by omega),zW.near (by omega),?_⟩
  exact k
noncomputable abbrev Ff:Stmt:=top 10
theorem z6:aW ["place","a","b","within_x","within_y"] ["place","a","b"] (aF Ff):=⟨rfl,rfl,rfl,by decide +kernel,rfl,by decide +kernel,by decide +kernel⟩
theorem aeq (p a b:Pt):Vbreab.onSegment a b p=(decide (Vbreab.side a b p=0)&&(decide (min a.x b.x≤p.x)&&decide (p.x≤max a.x b.x)&&(decide (min a.y b.y≤p.y)&&decide (p.y≤max a.y b.y)))):=by
 unfold Vbreab.onSegment
 by_cases hs:Vbreab.side a b p=0
 ·rw [decide_eq_true hs,Bool.true_and,Bool.true_and]
  have key:Vbreab.dot (Vbreab.sub a p) (Vbreab.sub b p)≤0↔((a.x-p.x)*(b.x-p.x)≤0∧(a.y-p.y)*(b.y-p.y)≤0):=by
   simp only [Vbreab.dot,Vbreab.sub]
   constructor
   ·intro h
    have e:(a.x-p.x)*(b.y-p.y)=(a.y-p.y)*(b.x-p.x):=by
     simp only [Vbreab.side,Vbreab.cross,Vbreab.sub]at hs
     grind
    have z:=az.sq_nonneg ((a.x-p.x)*(b.y-p.y))
    have e2:(a.x-p.x)*(b.y-p.y)*((a.x-p.x)*(b.y-p.y))=((a.x-p.x)*(b.x-p.x))*((a.y-p.y)*(b.y-p.y)):=by
     rw [show (a.x-p.x)*(b.y-p.y)*((a.x-p.x)*(b.y-p.y))=(a.x-p.x)*(b.y-p.y)*((a.y-p.y)*(b.x-p.x)) by rw [←e]]
     grind
    rw [e2]at z
    generalize (a.x-p.x)*(b.x-p.x)=A at *
    generalize (a.y-p.y)*(b.y-p.y)=B at *
    constructor
    ·rcases az.cN 0 A with hA | hA
     ·have:=az.jh hA z;omega
     ·exact hA
    ·rcases az.cN 0 B with hB | hB
     ·have:=az.jh hB (by rw [Int.mul_comm];exact z);omega
     ·exact hB
   ·rintro ⟨h1,h2⟩
    omega
  have one:∀u v c:Int,(u-c)*(v-c)≤0↔(min u v≤c∧c≤max u v):=by
   intro u v c
   constructor
   ·intro h
    rcases az.cN c u with h1 | h1<;>rcases az.cN c v with h2 | h2
    ·have:=Int.mul_pos (show 0<u-c by omega) (show 0<v-c by omega);omega
    ·omega
    ·omega
    ·rcases az.cN u c with h3 | h3<;>rcases az.cN v c with h4 | h4
     ·have:=Int.mul_pos_of_neg_of_neg (show u-c<0 by omega) (show v-c<0 by omega);omega
     ·omega
     ·omega
     ·omega
   ·rintro ⟨h1,h2⟩
    rcases az.cN c u with h3 | h3
    ·exact Int.mul_nonpos_of_nonneg_of_nonpos (by omega) (by omega)
    ·rcases az.cN u c with h4 | h4
     ·exact Int.mul_nonpos_of_nonpos_of_nonneg (by omega) (by omega)
     ·have:u-c=0:=by omega
      rw [this];simp
  rw [show decide (Vbreab.dot (Vbreab.sub a p) (Vbreab.sub b p)≤0)=decide (((a.x-p.x)*(b.x-p.x)≤0∧(a.y-p.y)*(b.y-p.y)≤0)) from decide_eq_decide.2 key]
  rw [show decide (((a.x-p.x)*(b.x-p.x)≤0∧(a.y-p.y)*(b.y-p.y)≤0))=(decide ((a.x-p.x)*(b.x-p.x)≤0)&&decide ((a.y-p.y)*(b.y-p.y)≤0)) from Bool.decide_and _ _]
  rw [decide_eq_decide.2 (one a.x b.x p.x),decide_eq_decide.2 (one a.y b.y p.y),Bool.decide_and,Bool.decide_and]
 ·rw [decide_eq_false hs];rfl
noncomputable def qY:Sp:=fun vs H Q _=>∃(c a b:Addr) (r p q:Pt),vs=[.ref c,.ref a,.ref b]∧cB H c r∧cB H a p∧cB H b q∧az.Near 1000000 r∧az.Near 1000000 p∧az.Near 1000000 q∧Q (.bl (Vbreab.onSegment p q r)) H
theorem WN (F:cI K "lies_on" "lies_on" Ff f fd) (T:Txt mg) (eX:ik P w K mg base "turn" 1 ["a","b","place"] gk):cz P w K mg base fH 2 f fd ["place","a","b"] qY:=by
 obtain ⟨_,_,dI,dJ,dM,dN⟩:=eX
 refine F.ok z6 (fun vs H Q E h=>?_) (fun cdv A outer s H vs Q E hr h=>?_)
 ·obtain ⟨a,b,c,p,q,r,rfl,_⟩:=h
  rfl
 ·obtain ⟨c,a,b,r,p,q,rfl,hc,ha,hb,nr,np,nq,k⟩:=h
  refine ⟨_,(ao (cC (bV Uo (aM dI (hr.mono (by decide)) rfl dJ dM dN .nil aO (aj (pv 1) (aj (pv 2) (aj (pv 0) ak)))) aG (bQ _)) (aB (aH adt)) bH) (ao (aY (i:=3) z6.nd rfl (Or.inl rfl) (o9 lM lM (bF (Qi rfl) (by rfl) T.adA boot_min (aj (bA cQ (pv 1) aG (fun _ _=>rfl)) (aj (bA cQ (pv 2) aG (fun _ _=>rfl)) ak))) (bA cQ (pv 0) aG (fun _ _=>rfl)) (bF (Eo rfl) (by rfl) T.Yt boot_max (aj (bA cQ (pv 1) aG (fun _ _=>rfl)) (aj (bA cQ (pv 2) aG (fun _ _=>rfl)) ak))))) (ao (aY (i:=4) z6.nd rfl (Or.inl rfl) (o9 lM lM (bF (Qi rfl) (by rfl) T.adA boot_min (aj (bA cQ (pv 1) aG (fun _ _=>rfl)) (aj (bA cQ (pv 2) aG (fun _ _=>rfl)) ak))) (bA cQ (pv 0) aG (fun _ _=>rfl)) (bF (Eo rfl) (by rfl) T.Yt boot_max (aj (bA cQ (pv 1) aG (fun _ _=>rfl)) (aj (bA cQ (pv 2) aG (fun _ _=>rfl)) ak))))) (aB (aH (vB (pv 3) (pD (pv 4)))))))),?_⟩
  open_ks with [ha.iff,hb.iff,hc.iff,gk,np,nq,nr]
  rw [aeq]at k
  by_cases h0:Vbreab.side p q r=0<;>by_cases h1:min p.x q.x≤r.x<;>by_cases h2:r.x≤max p.x q.x<;>by_cases h3:min p.y q.y≤r.y<;>by_cases h4:r.y≤max p.y q.y<;>simp only [h0,h1,h2,h3,h4,decide_true,decide_false,Bool.true_and,Bool.false_and,Bool.and_true,Bool.and_false,Bool.not_true,Bool.not_false,if_true,if_false,Bool.false_eq_true]at k ⊢<;>exact k
end
section
variable {P:Program} {w:World} {K:PySem.W.Frag} {mg:Str→Option Value} {base:Heap} {f:Addr} {fd:FuncData}
noncomputable def rf (a:Addr) (k:Int):List (Str×V):=[("calls",.ref a),("position",.int k)]
theorem Ke (a:Addr) (k:Int):(rf a k).lookup ("calls" : Str)=some (.ref a):=by
 have:(("calls" : Str) == ("calls" : Str))=true:=by decide +kernel
 simp only [rf,List.lookup,this]
theorem WQ (a:Addr) (k:Int):(rf a k).lookup ("position" : Str)=some (.int k):=by
 have h1:(("position" : Str) == ("calls" : Str))=false:=by decide +kernel
 have h2:(("position" : Str) == ("position" : Str))=true:=by decide +kernel
 simp only [rf,List.lookup,h1,h2]
theorem Yu (a:Addr) (k:Int) {m:Str} (h1:(m == ("calls" : Str))=false) (h2:(m == ("position" : Str))=false):(rf a k).lookup m=none:=by
 simp only [rf,List.lookup,h1,h2]
theorem abp (a:Addr) (k:Int):(rf a k).length<1000:=by show 2<1000;decide
theorem abq (a:Addr) (k j:Int):gf "position" (.int j) (rf a k)=rf a j:=by
 have h1:¬("calls" : Str)=("position" : Str):=by decide +kernel
 simp only [rf,gf,if_neg h1,if_true]
theorem aer (a:Addr):gf "position" (.int 0) (gf "calls" (.ref a) [])=rf a 0:=by
 have h1:¬("calls" : Str)=("position" : Str):=by decide +kernel
 simp only [rf,gf,if_neg h1]
structure Zw (K:PySem.W.Frag) (C:Addr):Prop where
 cl:Uq K C
 calls:gV K C "calls"
 position:gV K C "position"
noncomputable def pA (C:Addr) (H:Hp) (r a:Addr) (k:Nat):Prop:=∃dx,H r=some (.ins C dx (rf a (k:Int)))
noncomputable def Kp (r:Addr) (H H':Hp):Prop:=∀b o,H b=some o→b≠r→H' b=some o
theorem Kp.upd {r:Addr} {H:Hp} {o:HO}:Kp r H (upd H r o):=fun b o h n=>by rw [aJ n];exact h
theorem Kp.seq {r a:Addr} {H H':Hp} {xs:List V} {C dx:Addr} {fs:List (Str×V)} (k:Kp r H H') (n:H r=some (.ins C dx fs)) (h:b7 K H a xs):b7 K H' a xs:=by
 rcases h with (h | ⟨o,h⟩) | h
 ·exact .inl (.inl (k _ _ h (ji h n (by intro z;cases z))))
 ·exact .inl (.inr ⟨o,k _ _ h (ji h n (by intro z;cases z))⟩)
 ·exact .inr h
theorem Kp.trans {r:Addr} {H H1 H2:Hp} (a:Kp r H H1) (b:Kp r H1 H2):Kp r H H2:=fun c o h n=>b c o (a c o h n) n
theorem Kp.of_same {r:Addr} {H H':Hp} (a:aK H H'):Kp r H H':=fun c o h _=>a c o h
theorem aK.new {H:Hp} {p:Addr} {o:HO} (h:H p=none):aK H (upd H p o):=fun b u e=>by rw [aJ (bw e h)];exact e
theorem Kp.free {r p:Addr} {H H':Hp} {o:HO} (a:Kp r H H') (hr:H' r=some o) (h:H' p=none):H p=none:=by
 cases e:H p with
 | none=>rfl
 | some u=>
  have n:p≠r:=by rintro rfl;rw [hr]at h;cases h
  rw [a _ _ e n]at h;cases h
noncomputable abbrev tZ:Stmt:=inClass (top 3) 0
theorem Kf:aW ["self","calls"] ["self","calls"] (aF tZ):=⟨rfl,rfl,rfl,by decide +kernel,rfl,by decide +kernel,by decide +kernel⟩
inductive qZ (C:Addr) (vs:List V) (H:Hp) (Q:VK) (E:XK):Prop where
 | mk (r a dx:Addr) (_:vs=[.ref r,.ref a]) (_:H r=some (.ins C dx [])) (_:∀H',pA C H' r a 0→Kp r H H'→Q .non H'):qZ C vs H Q E
theorem Kg {C:Addr} (F:cI K "__init__" "Reader.__init__" tZ f fd) (T:Txt mg) (R:Zw K C):cz P w K mg base fH 1 f fd ["self","calls"] (qZ C):=by
 skip
 refine F.ok Kf (fun vs H Q E h=>?_) (fun cdv A outer s H vs Q E hr h=>?_)
 ·obtain ⟨r,a,dx,rfl,_⟩:=h
  rfl
 ·obtain ⟨r,a,dx,rfl,h1,k⟩:=h
  refine ⟨_,(ao (jO (pv 0) (pv 1) rfl) (aB (jO (pv 0) aG rfl))),?_⟩
  open_ks with [Nq,h1,HO.ins.injEq,aA,R.cl,R.calls,R.position]
  refine ⟨by decide,Nat.lt_of_le_of_lt (dH _ _ _) (by decide),?_⟩
  rw [aer,sZ]
  exact k _ ⟨dx,aA⟩ Kp.upd
noncomputable abbrev pF:Stmt:=inClass (top 3) 1
theorem Fg:aW ["self"] ["self"] (aF pF):=⟨rfl,rfl,rfl,by decide +kernel,rfl,by decide +kernel,by decide +kernel⟩
inductive m9 (K:PySem.W.Frag) (C:Addr) (vs:List V) (H:Hp) (Q:VK) (E:XK):Prop where
 | mk (r a:Addr) (k:Nat) (xs:List V) (_:vs=[.ref r]) (_:pA C H r a k) (_:b7 K H a xs) (_:Q (.bl (decide (xs.length≤k))) H):m9 K C vs H Q E
theorem Fi {C:Addr} (F:cI K "at_end" "Reader.at_end" pF f fd) (T:Txt mg) (R:Zw K C):cz P w K mg base fH 1 f fd ["self"] (m9 K C):=by
 skip
 refine F.ok Fg (fun vs H Q E h=>?_) (fun cdv A outer s H vs Q E hr h=>?_)
 ·obtain ⟨r,a,_,_,rfl,_⟩:=h
  rfl
 ·obtain ⟨r,a,i,xs,rfl,⟨dx,h1⟩,hs,k⟩:=h
  refine ⟨_,(aB (aH (fQ Up (bG (pv 0) rfl) (bF aZ (by rfl) T.cZ PySem.boot_len (aj (bG (pv 0) rfl) ak)) (bQ _)))),?_⟩
  open_ks with [gh,h1,HO.ins.injEq,aA,R.cl,R.calls,R.position,Ke,WQ]
  refine ⟨xs,.inl hs,?_⟩
  refine ahn k (decide_eq_decide.2 ?_)
  omega
noncomputable abbrev pG:Stmt:=inClass (top 3) 2
theorem uW:aW ["self","value"] ["self"] (aF pG):=⟨rfl,rfl,rfl,by decide +kernel,rfl,by decide +kernel,by decide +kernel⟩
inductive bJ (K:PySem.W.Frag) (C:Addr) (vs:List V) (H:Hp) (Q:VK) (E:XK):Prop where
 | mk (r a:Addr) (k:Nat) (xs:List V) (z:V) (_:vs=[.ref r]) (_:pA C H r a k) (_:b7 K H a xs) (_:xs[k]?=some z) (_:∀H',pA C H' r a (k+1)→Kp r H H'→Q z H'):bJ K C vs H Q E
theorem Fj {C:Addr} (F:cI K "number" "Reader.number" pG f fd) (T:Txt mg) (R:Zw K C):cz P w K mg base fH 1 f fd ["self"] (bJ K C):=by
 skip
 refine F.ok uW (fun vs H Q E h=>?_) (fun cdv A outer s H vs Q E hr h=>?_)
 ·obtain ⟨r,a,_,_,_,rfl,_⟩:=h
  rfl
 ·obtain ⟨r,a,i,xs,z,rfl,⟨dx,h1⟩,hs,hz,k⟩:=h
  refine ⟨_,(ao (aY (i:=1) uW.nd rfl (Or.inl rfl) (bA bB (bG (pv 0) rfl) (bG (pv 0) rfl) (fun _ _=>rfl))) (ao (jO (pv 0) (bU d8 (bG (pv 0) rfl) aG) rfl) (aB (aH (pv 1))))),?_⟩
  open_ks with [gh,Nq,gj,h1,HO.ins.injEq,aA,R.cl,R.calls,R.position,Ke,WQ,abq]
  refine ⟨xs,hs,z,Ym hz,abp _ _,?_⟩
  exact k _ ⟨dx,aA⟩ Kp.upd
theorem acN (xs:List V) {i n:Nat} (h:i+n≤xs.length):Er xs (some (i:Int)) (some ((i:Int)+(n:Int)))=(xs.drop i).take n:=by
 unfold Er
 rw [show ((i:Int)+(n:Int))=((i+n:Nat):Int) by omega,HT.yR,HT.yR]
 rw [show min i xs.length=i by omega,show min (i+n) xs.length-i=n by omega]
noncomputable abbrev vL:Stmt:=inClass (top 3) 3
theorem t7:aW ["self","size","start"] ["self"] (aF vL):=⟨rfl,rfl,rfl,by decide +kernel,rfl,by decide +kernel,by decide +kernel⟩
inductive fC (K:PySem.W.Frag) (C:Addr) (vs:List V) (H:Hp) (Q:VK) (E:XK):Prop where
 | mk (r a:Addr) (k n:Nat) (xs:List V) (_:vs=[.ref r]) (_:pA C H r a k) (_:b7 K H a xs) (_:xs[k]?=some (.int n)) (_:k+1+n≤xs.length) (_:∀H' p,H p=none→H' p=some (.lst ((xs.drop (k+1)).take n))→pA C H' r a (k+1+n)→Kp r H H'→Q (.ref p) H'):fC K C vs H Q E
theorem Nv {C:Addr} (F:cI K "row" "Reader.row" vL f fd) (T:Txt mg) (R:Zw K C) (aX:Met P w K mg base C "number" 1 ["self"] (bJ K C)):cz P w K mg base fH 2 f fd ["self"] (fC K C):=by
 obtain ⟨_,_,aP,aQ,aU,aV⟩:=aX
 refine F.ok t7 (fun vs H Q E h=>?_) (fun cdv A outer s H vs Q E hr h=>?_)
 ·obtain ⟨r,a,_,_,_,rfl,_⟩:=h
  rfl
 ·obtain ⟨r,a,i,n,xs,rfl,⟨dx,h1⟩,hs,hz,hlen,k⟩:=h
  refine ⟨_,(ao (aY (i:=1) t7.nd rfl (Or.inl rfl) (b8 (pv 0) aQ aU aP (hr.mono (by decide)) aV .nil aO)) (ao (aY (i:=2) t7.nd rfl (Or.inl rfl) (bG (pv 0) rfl)) (ao (jO (pv 0) (bU d8 (pv 2) (pv 1)) rfl) (aB (aH (qW vG (bG (pv 0) rfl) (qt (pv 2)) (qt (bU d8 (pv 2) (pv 1))))))))),?_⟩
  have nm:(rf a (i:Int)).lookup ("number" : Str)=none:=Yu _ _ (by decide +kernel) (by decide +kernel)
  open_ks with [iY,h1,HO.ins.injEq,nm]
  refine ⟨r,a,i,xs,_,rfl,⟨dx,h1⟩,hs,hz,fun H1 h2 kp=>?_⟩
  obtain ⟨dx2,h2⟩:=h2
  have hs2:b7 K (upd H1 r (.ins C dx2 (rf a ((i:Int)+1+(n:Int))))) a xs:=Kp.upd.seq h2 (kp.seq h1 hs)
  open_ks with [gh,Nq,tSl,Qn,Zk,h2,HO.ins.injEq,aA,R.cl,R.calls,R.position,Ke,WQ,abq,abp,Int.natCast_add,Int.cast_ofNat_Int]
  refine ⟨xs,hs2,fun p hp=>?_⟩
  rw [show ((i:Int)+1)=((i+1:Nat):Int) by omega]at hp ⊢
  rw [acN xs (show i+1+n≤xs.length from hlen)]
  have kp2:=kp.trans (Kp.upd (o:=.ins C dx2 (rf a (((i+1:Nat):Int)+(n:Int)))))
  have hpr:p≠r:=by rintro rfl;rw [aA]at hp;cases hp
  refine k _ p (kp2.free aA hp) aA ⟨dx2,?_⟩ (kp2.trans (Kp.of_same (aK.new hp)))
  rw [aJ (Ne.symm hpr),aA]
  rfl
end
open Vbreab (Pt State)
noncomputable def cu (H:Hp) (l:Addr) (ps:List Pt):Prop:=∃as:List Addr,H l=some (.lst (as.map V.ref))∧Paired (cB H) as ps
theorem bM {α β:Type} {F G:α→β→Prop} {l:List α} {m:List β} (h:Paired F l m) (k:∀a∈l,∀b,F a b→G a b):Paired G l m:=by
 induction h with
 | nil=>exact .nil
 | cons h1 h2 ih=>exact .cons (k _ (by simp) _ h1) (ih fun a ha=>k a (List.mem_cons_of_mem _ ha))
theorem lA {α β:Type} {F:α→β→Prop} {l:List α} {m:List β} {a:α} {b:β} (h:Paired F l m) (k:F a b):Paired F (l++[a]) (m++[b]):=by
 induction h with
 | nil=>exact .cons k .nil
 | cons h1 h2 ih=>exact .cons h1 ih
theorem rm {α β:Type} {F:α→β→Prop} {l l':List α} {m m':List β} (h:Paired F l m) (k:Paired F l' m'):Paired F (l++l') (m++m'):=by
 induction h with
 | nil=>exact k
 | cons h1 h2 ih=>exact .cons h1 ih
theorem bc {α β:Type} {F:α→β→Prop} {l:List α} {m:List β} (h:Paired F l m):∀{i:Nat} {b:β},m[i]?=some b→∃a,l[i]?=some a∧F a b:=by
 induction h with
 | nil=>intro i b e;simp at e
 | cons h1 h2 ih=>
  intro i b e
  cases i with
  | zero=>simp at e;subst e;exact ⟨_,rfl,h1⟩
  | succ i=>exact ih (i:=i) (by simpa using e)
theorem WR {α β:Type} {F:α→β→Prop} {l:List α} {m:List β} {a:α} {b:β} (h:Paired F l m) (k:F a b):∀i:Nat,Paired F (l.set i a) (m.set i b):=by
 induction h with
 | nil=>intro i;exact .nil
 | cons h1 h2 ih=>
  intro i
  cases i with
  | zero=>exact .cons k h2
  | succ i=>exact .cons h1 (ih i)
theorem cu.same {H H':Hp} {l:Addr} {ps:List Pt} (h:cu H l ps) (s:aK H H'):cu H' l ps:=by
 obtain ⟨as,h1,h2⟩:=h
 exact ⟨as,s _ _ h1,bM h2 fun a _ b hb=>hb.same s⟩
theorem pairs_len:∀(n:Nat) (l:List Int),l.length≤n→(l.length % 2=1→Vbreab.pairs l=none)∧(l.length % 2=0→∃ps,Vbreab.pairs l=some ps∧2*ps.length=l.length∧∀(i:Nat) (q:Pt),ps[i]?=some q→l[2*i]?=some q.x∧l[2*i+1]?=some q.y)
 | _,[],_=>⟨fun h=>by simp at h,fun _=>⟨[],rfl,rfl,fun i q h=>by simp at h⟩⟩
 | _,[_],_=>⟨fun _=>rfl,fun h=>by simp at h⟩
 | 0,_::_::_,h=>by simp at h
 | n+1,x::y::r,h=>by
  obtain ⟨h1,h2⟩:=pairs_len n r (by simp at h;omega)
  constructor
  ·intro e
   simp only [List.length_cons]at e
   simp only [Vbreab.pairs,h1 (by omega),Option.map_none]
  ·intro e
   simp only [List.length_cons]at e
   obtain ⟨ps,e1,e2,e3⟩:=h2 (by omega)
   refine ⟨⟨x,y⟩::ps,by simp only [Vbreab.pairs,e1,Option.map_some],by simp only [List.length_cons];omega,fun i q hq=>?_⟩
   cases i with
   | zero=>simp at hq;subst hq;simp
   | succ i=>
    obtain ⟨g1,g2⟩:=e3 i q (by simpa using hq)
    rw [show 2*(i+1)=2*i+2 by omega,show 2*i+2+1=2*i+1+2 by omega]
    exact ⟨by simpa using g1,by simpa using g2⟩
theorem take_snoc {α:Type} {l:List α} {i:Nat} {x:α} (h:l[i]?=some x):l.take (i+1)=l.take i++[x]:=by
 rw [List.take_add_one,h];rfl
theorem eY {α:Type}:∀l:List α,(List.range l.length).filterMap (fun i=>l[i]?)=l
 | []=>rfl
 | x::l=>by
  rw [List.length_cons,List.range_succ_eq_map,List.filterMap_cons]
  have:=eY l
  simp [List.filterMap_map,Function.comp_def,this]
noncomputable def PtV (H:Hp) (y:V) (p:Pt):Prop:=∃t,y=.ref t∧cB H t p
theorem PtV.stay (H H':Hp) (D:Addr) (acc:List V) (y:V) (b:Pt) (h:PtV H y b) (hD:H D=some (.lst acc)) (k:∀a o,a≠D→H a=some o→H' a=some o):PtV H' y b:=by
 obtain ⟨t,e,h⟩:=h
 exact ⟨t,e,k _ _ (ji h hD (by intro z;cases z)) h⟩
theorem Rz {H:Hp} {ys:List V} {ps:List Pt} (h:Paired (PtV H) ys ps):∃as:List Addr,ys=as.map V.ref∧Paired (cB H) as ps:=by
 induction h with
 | nil=>exact ⟨[],rfl,.nil⟩
 | cons h1 h2 ih=>
  obtain ⟨t,e,h1⟩:=h1
  obtain ⟨as,e2,h3⟩:=ih
  exact ⟨t::as,by rw [e,e2];rfl,.cons h1 h3⟩
section
variable {P:Program} {w:World} {K:PySem.W.Frag} {mg:Str→Option Value} {base:Heap} {f:Addr} {fd:FuncData}
noncomputable abbrev qw:Stmt:=top 4
theorem t8:aW ["numbers","k"] ["numbers"] (aF qw):=⟨rfl,rfl,rfl,by decide +kernel,rfl,by decide +kernel,by decide +kernel⟩
noncomputable def gr (K:PySem.W.Frag):Sp:=fun vs H Q _=>∃(a:Addr) (l:List Int),vs=[.ref a]∧b7 K H a (l.map V.int)∧l.length≤60∧
 (match Vbreab.pairs l with
  | none=>∀H',aK H H'→Q .non H'
  | some ps=>∀H' p,H p=none→cu H' p ps→aK H H'→Q (.ref p) H')
theorem Ny (F:cI K "pairs_told" "pairs_told" qw f fd) (T:Txt mg):cz P w K mg base fH 1 f fd ["numbers"] (gr K):=by
 skip
 refine F.ok t8 (fun vs H Q E h=>?_) (fun cdv A outer s H vs Q E hr h=>?_)
 ·obtain ⟨a,l,rfl,_⟩:=h
  rfl
 ·obtain ⟨a,l,rfl,hs,hl,k⟩:=h
  refine ⟨_,(ao (cC (bV uQ (bU ad6 (bF aZ (by rfl) T.cZ PySem.boot_len (aj (pv 0) ak)) aG) aG (bQ _)) (aB (aH eU)) bH) (aB (aH (qX (own:=[("k",1)]) rfl t8.nd (Zo rfl T.vI (aj aG (aj (bF aZ (by rfl) T.cZ PySem.boot_len (aj (pv 0) ak)) (aj aG ak)))) (eE (N:=["numbers","k"]) (sc:=aF qw) (by decide +kernel)) (fun _ _ _ _ _=>(cA (i:=1) t8.nd rfl (Or.inl rfl))) (fun _ _ _ _ _=>jV) (fun _ _ _ _ _=>(tX (aj (bA (show Wt _ (gj K) from bB) (pv 0) (pv 1) (fun _ _=>rfl)) (aj (bA (show Wt _ (gj K) from bB) (pv 0) (bU d8 (pv 1) aG) (fun _ _=>rfl)) ak)))))))),?_⟩
  open_ks with []
  refine ⟨_,.inl hs,by decide,?_⟩
  rw [List.length_map]
  obtain ⟨o1,o2⟩:=pairs_len l.length l (Nat.le_refl _)
  refine ahj (fun h1=>?_) (fun h1=>?_)
  ·rw [o1 (by omega)]at k
   exact k H (aK.refl H)
  obtain ⟨ps,e1,e2,e3⟩:=o2 (by omega)
  simp only [e1]at k
  have en:ps.length=l.length / 2:=by omega
  refine ⟨_,.inl hs,ps.length,?_,?_⟩
  ·rw [List.length_map,en];exact acJ (by omega) (by omega)
  refine gK.rel (n:=ps.length) (fun i=>ps[i]?) PtV PtV.stay (by omega) (fun i H _=>⟨fun hi=>hi,fun hi=>hi⟩) (fun i H1 x H' R R' hi sm hy hR _=>?_) (fun D H' ys hD hH hp sm=>?_)
  ·obtain ⟨rfl,rfl⟩:=hy
   obtain ⟨q,hq⟩:∃q,ps[i]?=some q:=⟨_,List.getElem?_eq_getElem hi⟩
   obtain ⟨g1,g2⟩:=e3 i q hq
   have a1:oO (l.map V.int) (0+(i:Int)*2)=some (.int q.x):=at_of (j:=2*i) (by omega) (by rw [List.getElem?_map,g1];rfl)
   have a2:oO (l.map V.int) (0+(i:Int)*2+1)=some (.int q.y):=at_of (j:=2*i+1) (by omega) (by rw [List.getElem?_map,g2];rfl)
   have hs':=sm.seq hs
   open_ks with [gj,wipe,Ex]
   refine ⟨_,hs',_,a1,_,hs',_,a2,by decide,fun t ht=>?_⟩
   exact hR _ q _ hq ⟨t,rfl,aA⟩ (aK.new ht)
  ·rw [eY]at hp
   obtain ⟨as,rfl,hp2⟩:=Rz hp
   exact k H' D hD ⟨as,hH,hp2⟩ sm
end
noncomputable def Fr (c q:Addr) (H H':Hp):Prop:=∀b o,H b=some o→b≠c→((∀xs,o≠.lst xs)∨b=q)→H' b=some o
noncomputable def cf (lm lt:Addr):List (Str×V):=[("marks",.ref lm),("tracks",.ref lt)]
theorem eF (a b:Addr):(cf a b).lookup ("marks" : Str)=some (.ref a):=by
 have:(("marks" : Str) == ("marks" : Str))=true:=by decide +kernel
 simp only [cf,List.lookup,this]
theorem cD (a b:Addr):(cf a b).lookup ("tracks" : Str)=some (.ref b):=by
 have h1:(("tracks" : Str) == ("marks" : Str))=false:=by decide +kernel
 have h2:(("tracks" : Str) == ("tracks" : Str))=true:=by decide +kernel
 simp only [cf,List.lookup,h1,h2]
theorem Yv (a b:Addr) {m:Str} (h1:(m == ("marks" : Str))=false) (h2:(m == ("tracks" : Str))=false):(cf a b).lookup m=none:=by
 simp only [cf,List.lookup,h1,h2]
theorem abr (a b:Addr):(cf a b).length<1000:=by show 2<1000;decide
theorem aes (a b:Addr):gf "tracks" (.ref b) (gf "marks" (.ref a) [])=cf a b:=by
 have h1:¬("marks" : Str)=("tracks" : Str):=by decide +kernel
 simp only [cf,gf,if_neg h1]
theorem acO (a b c:Addr):gf "marks" (.ref c) (cf a b)=cf c b:=by
 simp only [cf,gf,if_true]
theorem acP (a b c:Addr):gf "tracks" (.ref c) (cf a b)=cf a c:=by
 have h1:¬("marks" : Str)=("tracks" : Str):=by decide +kernel
 simp only [cf,gf,if_neg h1,if_true]
structure ni (K:PySem.W.Frag) (C:Addr):Prop where
 cl:Uq K C
 marks:gV K C "marks"
 tracks:gV K C "tracks"
structure eZ (C:Addr) (H:Hp) (c:Addr) (s:State) (dx lm lt:Addr) (gA:List Addr):Prop where
 ins:H c=some (.ins C dx (cf lm lt))
 marks:cu H lm s.marks
 lst:H lt=some (.lst (gA.map V.ref))
 tracks:Paired (cu H) gA s.tracks
 ne:lm≠lt
 nm:lm∉gA
 nt:lt∉gA
inductive gm (C q:Addr) (H:Hp) (c:Addr) (s:State):Prop where
 | mk (dx:Addr) (lm:Addr) (lt:Addr) (gA:List Addr) (_:eZ C H c s dx lm lt gA) (_:q≠lm∧q≠lt∧q∉gA):gm C q H c s
theorem eZ.same {C c dx lm lt:Addr} {gA:List Addr} {H H':Hp} {s:State} (h:eZ C H c s dx lm lt gA) (e:aK H H'):eZ C H' c s dx lm lt gA:=
 ⟨e _ _ h.ins,h.marks.same e,e _ _ h.lst,bM h.tracks fun a _ b hb=>hb.same e,h.ne,h.nm,h.nt⟩
theorem gm.same {C q c:Addr} {H H':Hp} {s:State} (h:gm C q H c s) (e:aK H H'):gm C q H' c s:=by
 obtain ⟨dx,lm,lt,gA,h,n⟩:=h
 exact ⟨dx,lm,lt,gA,h.same e,n⟩
theorem Yw {K:PySem.W.Frag} {H:Hp} {l:Addr} {xs:List V} (h:H l=some (.lst xs)):tyV K "list" (.ref l) H:=.inl ⟨rfl,_,b7.of h⟩
section
variable {P:Program} {w:World} {K:PySem.W.Frag} {mg:Str→Option Value} {base:Heap} {f:Addr} {fd:FuncData}
noncomputable abbrev vM:Stmt:=inClass (top 1) 0
theorem Nz:aW ["self"] ["self"] (aF vM):=⟨rfl,rfl,rfl,by decide +kernel,rfl,by decide +kernel,by decide +kernel⟩
inductive uc (C:Addr) (vs:List V) (H:Hp) (Q:VK) (E:XK):Prop where
 | mk (c dx:Addr) (_:vs=[.ref c]) (_:H c=some (.ins C dx [])) (_:∀H' dx lm lt,eZ C H' c Vbreab.start dx lm lt []→Kp c H H'→Q .non H'):uc C vs H Q E
theorem NB {C:Addr} (F:cI K "__init__" "Chart.__init__" vM f fd) (T:Txt mg) (R:ni K C):cz P w K mg base fH 1 f fd ["self"] (uc C):=by
 skip
 refine F.ok Nz (fun vs H Q E h=>?_) (fun cdv A outer s H vs Q E hr h=>?_)
 ·obtain ⟨c,dx,rfl,_⟩:=h
  rfl
 ·obtain ⟨c,dx,rfl,h1,k⟩:=h
  refine ⟨_,(ao (jO (pv 0) (bL ak) rfl) (aB (jO (pv 0) (bL ak) rfl))),?_⟩
  open_ks with []
  refine ⟨Nat.zero_le _,fun l1 e1=>?_⟩
  have n1:c≠l1:=bw h1 e1
  open_ks with [Nq,aJ,n1,h1,HO.ins.injEq,aA,R.cl,R.marks,R.tracks]
  refine ⟨by decide,fun l2 e2=>?_⟩
  have n2:c≠l2:=by rintro rfl;rw [aA]at e2;cases e2
  open_ks with [Nq,aJ,n2,aA,HO.ins.injEq,R.cl,R.marks,R.tracks]
  refine ⟨Nat.lt_of_le_of_lt (dH _ _ _) (by decide),?_⟩
  rw [aes]
  have n12:l1≠l2:=by rintro rfl;rw [aJ (Ne.symm n1),aA]at e2;cases e2
  refine k _ dx l1 l2 ⟨aA,⟨[],?_,.nil⟩,?_,.nil,n12,by simp,by simp⟩ ?_
  ·rw [aJ (Ne.symm n1),aJ n12,aJ (Ne.symm n1),aA];rfl
  ·rw [aJ (Ne.symm n2),aA];rfl
  ·intro b o hb nb
   have m1:b≠l1:=bw hb e1
   have m2:b≠l2:=by
    rintro rfl
    rw [aJ nb,aJ m1,hb]at e2
    cases e2
   rw [aJ nb,aJ m2,aJ nb,aJ m1]
   exact hb
noncomputable abbrev vN:Stmt:=inClass (top 1) 1
theorem NK:aW ["self"] ["self"] (aF vN):=⟨rfl,rfl,rfl,by decide +kernel,rfl,by decide +kernel,by decide +kernel⟩
inductive ud (C:Addr) (vs:List V) (H:Hp) (Q:VK) (E:XK):Prop where
 | mk (c q:Addr) (s:State) (o:HO) (_:vs=[.ref c]) (_:gm C q H c s) (_:H q=some o) (_:∀H',gm C q H' c Vbreab.start→Kp c H H'→Q .non H'):ud C vs H Q E
theorem NP {C:Addr} (F:cI K "wipe" "Chart.wipe" vN f fd) (T:Txt mg) (R:ni K C):cz P w K mg base fH 1 f fd ["self"] (ud C):=by
 skip
 refine F.ok NK (fun vs H Q E h=>?_) (fun cdv A outer s H vs Q E hr h=>?_)
 ·obtain ⟨c,q,s,o,rfl,_⟩:=h
  rfl
 ·obtain ⟨c,q,s,o,rfl,⟨dx,lm,lt,gA,h,_⟩,hq,k⟩:=h
  have h1:=h.ins
  refine ⟨_,(ao (jO (pv 0) (bL ak) rfl) (aB (jO (pv 0) (bL ak) rfl))),?_⟩
  open_ks with []
  refine ⟨Nat.zero_le _,fun l1 e1=>?_⟩
  have n1:c≠l1:=bw h1 e1
  open_ks with [Nq,aJ,n1,h1,HO.ins.injEq,aA,R.cl,R.marks,R.tracks,acO,abr]
  intro l2 e2
  have n2:c≠l2:=by rintro rfl;rw [aA]at e2;cases e2
  open_ks with [Nq,aJ,n2,aA,HO.ins.injEq,R.cl,R.marks,R.tracks,acP,abr]
  have n12:l1≠l2:=by rintro rfl;rw [aJ (Ne.symm n1),aA]at e2;cases e2
  have kp:Kp c H (upd (upd (upd (upd H l1 (.lst [])) c (.ins C dx (cf l1 lt))) l2 (.lst [])) c (.ins C dx (cf l1 l2))):=by
   intro b o hb nb
   have m1:b≠l1:=bw hb e1
   have m2:b≠l2:=by
    rintro rfl
    rw [aJ nb,aJ m1,hb]at e2
    cases e2
   rw [aJ nb,aJ m2,aJ nb,aJ m1]
   exact hb
  refine k _ ⟨dx,l1,l2,[],⟨aA,⟨[],?_,.nil⟩,?_,.nil,n12,by simp,by simp⟩,?_,?_,by simp⟩ kp
  ·rw [aJ (Ne.symm n1),aJ n12,aJ (Ne.symm n1),aA];rfl
  ·rw [aJ (Ne.symm n2),aA];rfl
  ·exact bw hq e1
  ·rintro rfl
   by_cases nb:q=c
   ·exact n2 nb.symm
   ·rw [aJ nb,aJ (bw hq e1),hq]at e2
    cases e2
noncomputable abbrev lO:Stmt:=inClass (top 1) 2
theorem z7:aW ["self","t"] ["self","t"] (aF lO):=⟨rfl,rfl,rfl,by decide +kernel,rfl,by decide +kernel,by decide +kernel⟩
inductive bR (C:Addr) (vs:List V) (H:Hp) (Q:VK) (E:XK):Prop where
 | mk (c q:Addr) (t:Int) (s:State) (_:vs=[.ref c,.int t]) (_:gm C q H c s) (_:Q (.bl (decide (0≤t)&&decide (t<(s.tracks.length:Int)))) H):bR C vs H Q E
theorem z8 {C:Addr} (F:cI K "has_track" "Chart.has_track" lO f fd) (T:Txt mg) (R:ni K C):cz P w K mg base fH 1 f fd ["self","t"] (bR C):=by
 skip
 refine F.ok z7 (fun vs H Q E h=>?_) (fun cdv A outer s H vs Q E hr h=>?_)
 ·obtain ⟨c,q,t,s,rfl,_⟩:=h
  rfl
 ·obtain ⟨c,q,t,s,rfl,⟨dx,lm,lt,gA,h,_⟩,k⟩:=h
  have h1:=h.ins
  refine ⟨_,(aB (aH (o9 lM qU aG (pv 1) (bF aZ (by rfl) T.cZ PySem.boot_len (aj (bG (pv 0) rfl) ak))))),?_⟩
  open_ks with [gh,h1,HO.ins.injEq,R.cl,R.marks,R.tracks,cD]
  have e:gA.length=s.tracks.length:=h.tracks.length
  by_cases ht:0≤t
  ·simp only [ht,if_true,decide_true,Bool.true_and]at k ⊢
   refine ⟨_,.inl (b7.of h.lst),?_⟩
   rw [List.length_map,e]
   exact k
  ·simp only [ht,if_false,decide_false,Bool.false_and]at k ⊢
   exact k
noncomputable abbrev nj:Stmt:=inClass (top 1) 3
theorem Cq:aW ["self","place"] ["self","place"] (aF nj):=⟨rfl,rfl,rfl,by decide +kernel,rfl,by decide +kernel,by decide +kernel⟩
inductive lQ (C:Addr) (vs:List V) (H:Hp) (Q:VK) (E:XK):Prop where
 | mk (c q a:Addr) (p:Pt) (s:State) (_:vs=[.ref c,.ref a]) (_:gm C q H c s) (_:cB H a p) (_:s.marks.length<16) (_:∀H',gm C q H' c { s with marks:=s.marks++[p] }→Fr c q H H'→Q (.int (s.marks.length:Int)) H'):lQ C vs H Q E
theorem aet:16<sizeLine:=by decide
theorem Cr {C:Addr} (F:cI K "new_mark" "Chart.new_mark" nj f fd) (T:Txt mg) (R:ni K C):cz P w K mg base fH 1 f fd ["self","place"] (lQ C):=by
 skip
 refine F.ok Cq (fun vs H Q E h=>?_) (fun cdv A outer s H vs Q E hr h=>?_)
 ·obtain ⟨c,q,a,p,s,rfl,_⟩:=h
  rfl
 ·obtain ⟨c,q,a,p,s,rfl,⟨dx,lm,lt,gA,h,m1,m2,m3⟩,ha,hl,k⟩:=h
  have h1:=h.ins
  obtain ⟨as,hm,hp⟩:=h.marks
  have el:as.length=s.marks.length:=hp.length
  refine ⟨_,(ao (gU (uR PySem.F.plainAttrs_list PySem.F.slot_list_append PySem.F.type_list_append jB (bG (pv 0) rfl) (aj (pv 1) ak))) (aB (aH (bU dh (bF aZ (by rfl) T.cZ PySem.boot_len (aj (bG (pv 0) rfl) ak)) aG)))),?_⟩
  have nlc:c≠lm:=ji h1 hm (by intro z;cases z)
  have ty:=Yw (K:=K) hm
  have hz:(as.map V.ref).length<sizeLine:=by rw [List.length_map,el];exact Nat.lt_trans hl aet
  open_ks with [tBM,qu,gh,h1,HO.ins.injEq,R.cl,R.marks,R.tracks,eF,ty,hm,hz,HO.lst.injEq,aJ,nlc]
  refine ⟨_,.inl (b7.of aA),?_⟩
  have hn:(((as.map V.ref++[V.ref a]).length:Nat):Int)-1=(s.marks.length:Int):=by
   rw [List.length_append,List.length_map,el];simp
  rw [hn]
  have pt:∀b r,cB H b r→cB (upd H lm (.lst (as.map V.ref++[V.ref a]))) b r:=fun b r hb=>by
   unfold cB at *
   rw [aJ (ji hb hm (by intro z;cases z))];exact hb
  refine k _ ⟨dx,lm,lt,gA,⟨by rw [aJ nlc];exact h1,⟨as++[a],?_,?_⟩,by rw [aJ (Ne.symm h.ne)];exact h.lst,?_,h.ne,h.nm,h.nt⟩,m1,m2,m3⟩ ?_
  ·rw [aA,List.map_append];rfl
  ·exact lA (bM hp fun b _ r hb=>pt b r hb) (pt _ _ ha)
  ·refine bM h.tracks fun b hb ps hp=>?_
   obtain ⟨bs,g1,g2⟩:=hp
   exact ⟨bs,by rw [aJ (by rintro rfl;exact h.nm hb)];exact g1,bM g2 fun b _ r hb=>pt b r hb⟩
  ·intro b o hb nb ho
   rw [aJ ?_]
   ·exact hb
   ·rcases ho with ho | rfl
    ·rintro rfl
     rw [hm]at hb
     exact ho _ (Option.some.inj hb).symm
    ·exact m1
noncomputable abbrev lU:Stmt:=inClass (top 1) 4
theorem Aa:aW ["self","places"] ["self","places"] (aF lU):=⟨rfl,rfl,rfl,by decide +kernel,rfl,by decide +kernel,by decide +kernel⟩
inductive gW (C:Addr) (vs:List V) (H:Hp) (Q:VK) (E:XK):Prop where
 | mk (c q a:Addr) (ps:List Pt) (s:State) (_:vs=[.ref c,.ref a]) (_:gm C q H c s) (_:cu H a ps) (_:a≠q) (_:(∀dx lm lt gA,eZ C H c s dx lm lt gA→a≠lm∧a≠lt)) (_:s.tracks.length<8) (_:∀H',gm C q H' c { s with tracks:=s.tracks++[ps] }→Fr c q H H'→Q (.int (s.tracks.length:Int)) H'):gW C vs H Q E
theorem Ab {C:Addr} (F:cI K "new_track" "Chart.new_track" lU f fd) (T:Txt mg) (R:ni K C):cz P w K mg base fH 1 f fd ["self","places"] (gW C):=by
 skip
 refine F.ok Aa (fun vs H Q E h=>?_) (fun cdv A outer s H vs Q E hr h=>?_)
 ·obtain ⟨c,q,a,p,s,rfl,_⟩:=h
  rfl
 ·obtain ⟨c,q,a,ps,s,rfl,⟨dx,lm,lt,gA,h,m1,m2,m3⟩,ha,naq,nal,hl,k⟩:=h
  have h1:=h.ins
  obtain ⟨na1,na2⟩:=nal _ _ _ _ h
  have el:gA.length=s.tracks.length:=h.tracks.length
  refine ⟨_,(ao (gU (uR PySem.F.plainAttrs_list PySem.F.slot_list_append PySem.F.type_list_append jB (bG (pv 0) rfl) (aj (pv 1) ak))) (aB (aH (bU dh (bF aZ (by rfl) T.cZ PySem.boot_len (aj (bG (pv 0) rfl) ak)) aG)))),?_⟩
  have hm:=h.lst
  have nlc:c≠lt:=ji h1 hm (by intro z;cases z)
  have ty:=Yw (K:=K) hm
  have hz:(gA.map V.ref).length<sizeLine:=by rw [List.length_map,el];exact Nat.lt_trans hl (by decide)
  open_ks with [tBM,qu,gh,h1,HO.ins.injEq,R.cl,R.marks,R.tracks,cD,ty,hm,hz,HO.lst.injEq,aJ,nlc]
  refine ⟨_,.inl (b7.of aA),?_⟩
  have hn:(((gA.map V.ref++[V.ref a]).length:Nat):Int)-1=(s.tracks.length:Int):=by
   rw [List.length_append,List.length_map,el];simp
  rw [hn]
  have pt:∀b r,cB H b r→cB (upd H lt (.lst (gA.map V.ref++[V.ref a]))) b r:=fun b r hb=>by
   unfold cB at *
   rw [aJ (ji hb hm (by intro z;cases z))];exact hb
  have Zx:∀b ps,b≠lt→cu H b ps→cu (upd H lt (.lst (gA.map V.ref++[V.ref a]))) b ps:=fun b ps nb hp=>by
   obtain ⟨bs,g1,g2⟩:=hp
   exact ⟨bs,by rw [aJ nb];exact g1,bM g2 fun b _ r hb=>pt b r hb⟩
  refine k _ ⟨dx,lm,lt,gA++[a],⟨by rw [aJ nlc];exact h1,Zx _ _ h.ne h.marks,?_,?_,h.ne,?_,?_⟩,m1,m2,?_⟩ ?_
  ·rw [aA,List.map_append];rfl
  ·exact lA (bM h.tracks fun b hb r hp=>Zx b r (by rintro rfl;exact h.nt hb) hp) (Zx _ _ na2 ha)
  ·simp [h.nm,Ne.symm na1]
  ·simp [h.nt,Ne.symm na2]
  ·simp [m3,Ne.symm naq]
  ·intro b o hb nb ho
   rw [aJ ?_]
   ·exact hb
   ·rcases ho with ho | rfl
    ·rintro rfl
     rw [hm]at hb
     exact ho _ (Option.some.inj hb).symm
    ·exact m2
end
section
variable {P:Program} {w:World} {K:PySem.W.Frag} {mg:Str→Option Value} {base:Heap} {f:Addr} {fd:FuncData}
theorem qx {c:Prop} [Decidable c] {a b:Prop} (h1:c→a) (h2:¬c→b):if c then a else b:=by
 by_cases h:c
 ·rw [if_pos h];exact h1 h
 ·rw [if_neg h];exact h2 h
noncomputable def fJ (least:Nat) (l:List Int):Option (List Pt):=match Vbreab.pairs l with
 | none=>none
 | some p=>if p.all Vbreab.placeOk=true∧least≤p.length then some p else none
theorem Ac (q:Pt):Ji q.x q.y=Vbreab.placeOk q:=by
 unfold Ji Vbreab.placeOk Vbreab.within Vbreab.FAR
 by_cases h1:-1000000≤q.x<;>by_cases h2:q.x≤1000000<;>by_cases h3:-1000000≤q.y<;>by_cases h4:q.y≤1000000<;>simp [h1,h2,h3,h4]
theorem Ad {q:Pt} (h:Vbreab.placeOk q=true):az.Near 1000000 q:=by
 unfold Vbreab.placeOk Vbreab.within Vbreab.FAR at h
 simp only [Bool.and_eq_true,decide_eq_true_eq]at h
 exact ⟨h.1.1,h.1.2,h.2.1,h.2.2⟩
theorem uX {α β:Type} (l:List α) (g:α→β):(List.range l.length).filterMap (fun i=>l[i]?.map g)=l.map g:=by
 have:=eY (l.map g)
 rw [List.length_map]at this
 simp only [List.getElem?_map]at this
 exact this
theorem WT {α:Type} (l:List α) (g:α→Bool):(l.map g).all id=l.all g:=by simp [List.all_map]
noncomputable abbrev oU:Stmt:=top 8
theorem jl:aW ["numbers","least","places","x","y"] ["numbers","least"] (aF oU):=⟨rfl,rfl,rfl,by decide +kernel,rfl,by decide +kernel,by decide +kernel⟩
inductive jm (K:PySem.W.Frag) (vs:List V) (H:Hp) (Q:VK) (E:XK):Prop where
 | mk (a:Addr) (l:List Int) (n:Nat) (_:vs=[.ref a,.int n]) (_:b7 K H a (l.map V.int)) (_:l.length≤60) (_:n≤2) (_:(match fJ n l with | none=>∀H',aK H H'→Q .non H' | some ps=>∀H' p,H p=none→cu H' p ps→aK H H'→Q (.ref p) H')):jm K vs H Q E
theorem Kh (F:cI K "places_told" "places_told" oU f fd) (T:Txt mg) (gY:ik P w K mg base "in_range" 1 ["x","y"] jk) (fj:ik P w K mg base "pairs_told" 1 ["numbers"] (gr K)):cz P w K mg base fH 2 f fd ["numbers","least"] (jm K):=by
 obtain ⟨_,_,jn,jo,jq,jr⟩:=fj;obtain ⟨_,_,lW,lX,lY,mj⟩:=gY
 refine F.ok jl (fun vs H Q E h=>?_) (fun cdv A outer s H vs Q E hr h=>?_)
 ·obtain ⟨a,l,n,rfl,_⟩:=h
  rfl
 ·obtain ⟨a,l,n,rfl,hs,hl,hn,k⟩:=h
  refine ⟨_,(ao (aY (i:=2) jl.nd rfl (Or.inl rfl) (aM jn (hr.mono (by decide)) rfl jo jq jr .nil aO (aj (pv 0) ak))) (ao (cC (PW.pt (Qg (bV tW (pv 2) eU (bQ _)) (El (bV qU (bF aZ (by rfl) T.cZ PySem.boot_len (aj (pv 2) ak)) (pv 1) (bQ _))))) (aB (aH eU)) bH) (ao (cC (eV (cP (bF (Wx rfl) (by rfl) T.abo boot_all (aj (qX (own:=[("x",3),("y",4)]) rfl jl.nd (jA (pv 2)) (eE (N:=["numbers","least","places","x","y"]) (sc:=aF oU) (by decide +kernel)) (fun _ _ _ _ _=>(show PG _ _ (Ul K 2 _) from qR rfl (cR (cA (i:=3) jl.nd rfl (Or.inl rfl)) (cR (cA (i:=4) jl.nd rfl (Or.inl rfl)) lK)))) (fun _ _ _ _ _=>jV) (fun _ _ _ _ _=>(aM lW (hr.mono (by decide)) rfl lX lY mj .nil aO (aj (pv 3) (aj (pv 4) ak))))) ak)))) (aB (aH eU)) bH) (aB (aH (pv 2)))))),?_⟩
  open_ks with [gr]
  refine ⟨l,hs,hl,?_⟩
  obtain ⟨o1,o2⟩:=pairs_len l.length l (Nat.le_refl _)
  cases hp:Vbreab.pairs l with
  | none=>
   simp only [fJ,hp]at k
   intro H' sm
   exact k H' sm
  | some ps=>
   simp only [fJ,hp]at k
   intro H1 p hpn hpt s1
   have hps:2*ps.length=l.length:=by
    by_cases e:l.length % 2=1
    ·rw [o1 e]at hp;cases hp
    ·obtain ⟨ps',e1,e2,_⟩:=o2 (by omega)
     rw [hp]at e1;cases e1;exact e2
   obtain ⟨as,h1,h2⟩:=id hpt
   have la:as.length=ps.length:=bC h2
   refine ⟨_,.inl (b7.of h1),?_⟩
   rw [List.length_map,la]
   refine qx (fun h3=>?_) (fun h3=>?_)
   ·rw [if_neg (by omega)]at k
    exact k H1 s1
   refine ⟨⟨_,b7.of h1⟩,?_⟩
   refine gK.val (n:=(as.map V.ref).length) (fun i=>ps[i]?.map fun q=>V.bl (Vbreab.placeOk q)) (by rw [List.length_map];omega) (vH (b7.of h1)) (fun i H2 x H' R R' hi sm hy hR _=>?_) (fun D H2 hD hH sm=>?_)
   ·obtain ⟨rfl,hy⟩:=hy
    have hx:=hy _ (b7.of (sm _ _ h1))
    obtain ⟨q,hq⟩:∃q,ps[i]?=some q:=⟨_,List.getElem?_eq_getElem (by rw [List.length_map]at hi;omega)⟩
    obtain ⟨aq,Hq,pq⟩:=bc h2 hq
    rw [List.getElem?_map,Hq]at hx
    cases hx
    refine ⟨aq,_,rfl,zj.of (sm _ _ pq),rfl,?_⟩
    open_ks with [wL,Ho,wipe,Ex,jk,Ac]
    exact hR _ _ (by rw [hq];rfl) (aK.refl _)
   ·rw [List.length_map,la,uX,show (ps.map fun q=>V.bl (Vbreab.placeOk q))=(ps.map Vbreab.placeOk).map V.bl by simp]at hH
    refine ⟨D,_,rfl,b7.of hH,?_⟩
    refine ⟨_,rfl,?_⟩
    rw [WT]
    cases ha:ps.all Vbreab.placeOk with
    | false=>
     rw [if_neg (by rw [ha];simp)]at k
     exact k H2 (s1.trans sm)
    | true=>
     rw [if_pos ⟨ha,by omega⟩]at k
     exact k H2 p hpn (hpt.same sm) (s1.trans sm)
end
section
variable {P:Program} {w:World} {K:PySem.W.Frag} {mg:Str→Option Value} {base:Heap} {f:Addr} {fd:FuncData}
theorem seg_at:∀(ps:List Pt) (i:Nat),(Vbreab.segments ps)[i]?=(match ps[i]?,ps[i+1]? with
  | some p,some q=>some (p,q)
  | _,_=>none)
 | [],i=>by simp [Vbreab.segments]
 | [p],i=>by cases i<;>simp [Vbreab.segments]
 | p::q::r,0=>by simp [Vbreab.segments]
 | p::q::r,i+1=>by
  have:=seg_at (q::r) i
  simp only [Vbreab.segments,List.getElem?_cons_succ]at this ⊢
  exact this
theorem Cu {α β:Type} (g:α×Nat→Option β):∀(l:List α) (k i:Nat) (y:α) (b:β),l[i]?=some y→g (y,k+i)=some b→(∀(j:Nat) (x:α),j<i→l[j]?=some x→g (x,k+j)=none)→(l.zipIdx k).findSome? g=some b
 | [],_,_,_,_,h,_,_=>by simp at h
 | x::l,k,0,y,b,h,hg,_=>by
  simp at h
  subst h
  simp only [List.zipIdx_cons,List.findSome?_cons]
  rw [show g (x,k)=some b from hg]
 | x::l,k,i+1,y,b,h,hg,hn=>by
  simp only [List.zipIdx_cons,List.findSome?_cons]
  rw [show g (x,k)=none from hn 0 x (by omega) (by simp)]
  refine Cu g l (k+1) i y b (by simpa using h) (by rw [show k+1+i=k+(i+1) by omega];exact hg) fun j z hj hz=>?_
  rw [show k+1+j=k+(j+1) by omega]
  exact hn (j+1) z (by omega) (by simpa using hz)
theorem G7 {α β:Type} (g:α×Nat→Option β):∀(l:List α) (k:Nat),(∀(j:Nat) (x:α),l[j]?=some x→g (x,k+j)=none)→(l.zipIdx k).findSome? g=none
 | [],_,_=>by simp
 | x::l,k,hn=>by
  simp only [List.zipIdx_cons,List.findSome?_cons]
  rw [show g (x,k)=none from hn 0 x (by simp)]
  refine G7 g l (k+1) fun j z hz=>?_
  rw [show k+1+j=k+(j+1) by omega]
  exact hn (j+1) z (by simpa using hz)
noncomputable def onM (ms:List Pt) (a b:Pt) (m:Nat):Bool:=match ms[m]? with
 | some p=>Vbreab.onSegment a b p
 | none=>false
theorem Ae (ms:List Pt) (a b:Pt):(Vbreab.marksOn ms a b).head?=(List.range ms.length).find? (onM ms a b):=by
 rw [←List.head?_filter];rfl
theorem Kl (g:Nat→Bool):∀(n m:Nat),m<n→g m=true→(∀j,j<m→g j=false)→(List.range n).find? g=some m:=by
 intro n m hm hg hn
 rw [List.find?_range_eq_some]
 refine ⟨hg,by simpa using hm,fun j hj=>by simp [hn j hj]⟩
theorem zG (g:Nat→Bool) (n:Nat) (h:∀j,j<n→g j=false):(List.range n).find? g=none:=by
 rw [List.find?_eq_none]
 intro x hx
 have:=List.mem_range.1 hx
 simp [h x this]
noncomputable def U5 (ms ps:List Pt) (i m:Nat):Prop:=∃p q r,ps[i]?=some p∧ps[i+1]?=some q∧ms[m]?=some r∧Vbreab.onSegment p q r=true
theorem zH {ms ps:List Pt} (h:∀i m,¬U5 ms ps i m):Vbreab.touching ms ps=none:=by
 unfold Vbreab.touching
 apply G7
 intro j x hx
 rw [seg_at]at hx
 rw [Ae,zG]
 ·rfl
 ·intro m hm
  unfold onM
  cases h1:ps[j]? with
  | none=>rw [h1]at hx;simp at hx
  | some p=>
   cases h2:ps[j+1]? with
   | none=>rw [h1,h2]at hx;simp at hx
   | some q=>
    rw [h1,h2]at hx
    simp at hx
    subst hx
    cases h3:ms[m]? with
    | none=>rfl
    | some r=>
     cases h4:Vbreab.onSegment p q r with
     | false=>exact h4
     | true=>exact absurd ⟨p,q,r,h1,h2,h3,h4⟩ (h j m)
theorem Qu {ms ps:List Pt} {i m:Nat} {p q:Pt} (h1:ps[i]?=some p) (h2:ps[i+1]?=some q) (h:¬U5 ms ps i m):onM ms p q m=false:=by
 unfold onM
 cases h3:ms[m]? with
 | none=>rfl
 | some r=>
  cases h4:Vbreab.onSegment p q r with
  | false=>exact h4
  | true=>exact absurd ⟨p,q,r,h1,h2,h3,h4⟩ h
theorem zJ {ms ps:List Pt} {i m:Nat} (h:U5 ms ps i m) (h1:∀i',i'<i→∀m,¬U5 ms ps i' m) (h2:∀m',m'<m→¬U5 ms ps i m'):Vbreab.touching ms ps=some (i,m):=by
 obtain ⟨p,q,r,e1,e2,e3,e4⟩:=h
 unfold Vbreab.touching
 have hm:m<ms.length:=(List.getElem?_eq_some_iff.1 e3).1
 refine Cu _ _ 0 i (p,q) (i,m) (by rw [seg_at,e1,e2]) ?_ ?_
 ·rw [Ae,Kl _ _ m hm]
  ·simp
  ·unfold onM;rw [e3];exact e4
  ·intro j hj
   exact Qu e1 e2 (h2 j hj)
 ·intro j x hj hx
  rw [seg_at]at hx
  rw [Ae,zG]
  ·rfl
  ·intro m hm
   cases g1:ps[j]? with
   | none=>rw [g1]at hx;simp at hx
   | some p'=>
    cases g2:ps[j+1]? with
    | none=>rw [g1,g2]at hx;simp at hx
    | some q'=>
     rw [g1,g2]at hx
     simp at hx
     subst hx
     exact Qu g1 g2 (h1 j hj m)
noncomputable def jC (ps:List Pt):Prop:=∀p∈ps,az.Near 1000000 p
noncomputable abbrev ue:Stmt:=top 11
theorem mq:aW ["places","marks","piece","number","place"] ["places","marks"] (aF ue):=⟨rfl,rfl,rfl,by decide +kernel,rfl,by decide +kernel,by decide +kernel⟩
inductive jt (vs:List V) (H:Hp) (Q:VK) (E:XK):Prop where
 | mk (a b:Addr) (ps ms:List Pt) (_:vs=[.ref a,.ref b]) (_:cu H a ps) (_:cu H b ms) (_:jC ps) (_:jC ms) (_:ps.length≤100000) (_:(match Vbreab.touching ms ps with | none=>∀H',aK H H'→Q .non H' | some x=>∀H' t,H t=none→H' t=some (.tup [.int (x.1:Nat),.int (x.2:Nat)])→aK H H'→Q (.ref t) H')):jt  vs H Q E
theorem Km (F:cI K "first_touch" "first_touch" ue f fd) (T:Txt mg) (qK:ik P w K mg base "lies_on" 2 ["place","a","b"] qY):cz P w K mg base fH 3 f fd ["places","marks"] jt:=by
 obtain ⟨_,_,xG,xH,xJ,xK⟩:=qK
 refine F.ok mq (fun vs H Q E h=>?_) (fun cdv A outer s H vs Q E hr h=>?_)
 ·obtain ⟨a,b,ps,ms,rfl,_⟩:=h
  rfl
 ·obtain ⟨a,b,ps,ms,rfl,⟨as,ha,pa⟩,⟨bs,hb,pb⟩,na,nb,hlen,k⟩:=h
  have la:as.length=ps.length:=pa.length
  have lb:bs.length=ms.length:=pb.length
  refine ⟨_,(ao (vC PassesOwn.never rfl (yQ rfl T.vI (aj (bU dh (bF aZ (by rfl) T.cZ PySem.boot_len (aj (pv 0) ak)) aG) ak)) (cA (i:=2) mq.nd rfl (Or.inl rfl)) (aB (vC PassesOwn.never rfl (Ck rfl T.ph (aj (pv 1) ak)) (qR rfl (cR (cA (i:=3) mq.nd rfl (Or.inl rfl)) (cR (cA (i:=4) mq.nd rfl (Or.inl rfl)) lK))) (aB (cC (cP (aM xG (hr.mono (by decide)) rfl xH xJ xK .nil aO (aj (pv 4) (aj (bA bB (pv 0) (pv 2) (fun _ _=>rfl)) (aj (bA bB (pv 0) (bU d8 (pv 2) aG) (fun _ _=>rfl)) ak))))) (aB (aH (tX (aj (pv 2) (aj (pv 3) ak))))) bH))))) (aB (aH eU))),?_⟩
  open_ks with []
  refine ⟨_,.inl (b7.of ha),by rw [List.length_map];omega,by rw [List.length_map];omega,?_⟩
  rw [List.length_map,la]
  refine Loop.range (fun i σ H'=>∃v2 v3 v4,σ=[some (.ref a),some (.ref b),v2,v3,v4]∧aK H H'∧∀i',i'<i→∀m,¬U5 ms ps i' m) ⟨none,none,none,rfl,aK.refl H,fun i hi=>by omega⟩ ?_ ?_
  ·rintro i σ H1 hi ⟨v2,v3,v4,rfl,s1,no1⟩
   obtain ⟨p,hp⟩:∃p,ps[i]?=some p:=⟨_,List.getElem?_eq_getElem (by omega)⟩
   obtain ⟨q,hq⟩:∃q,ps[i+1]?=some q:=⟨_,List.getElem?_eq_getElem (by omega)⟩
   obtain ⟨ap,hap,pp⟩:=bc pa hp
   obtain ⟨aq,Hq,pq⟩:=bc pa hq
   open_ks with []
   refine ⟨_,b7.of (s1 _ _ hb),?_⟩
   refine Loop.enum (xs:=bs.map V.ref) (fun j σ H'=>∃v3 v4,σ=[some (.ref a),some (.ref b),some (.int (0+(i:Int))),v3,v4]∧aK H H'∧∀m',m'<j→¬U5 ms ps i m') ⟨v3,v4,rfl,s1,fun m hm=>by omega⟩ (fun j σ H' _ ⟨_,_,_,s2,_⟩=>b7.of (s2 _ _ hb)) ?_ ?_
   ·rintro j x σ H2 T0 hx ⟨v3,v4,rfl,s2,no2⟩ hT
    obtain ⟨am,ham,rfl⟩:∃am,bs[j]?=some am∧x=.ref am:=by
     rw [List.getElem?_map]at hx
     cases e:bs[j]? with
     | none=>rw [e]at hx;cases hx
     | some am=>rw [e]at hx;exact ⟨am,rfl,(Option.some.inj hx).symm⟩
    obtain ⟨r,hr'⟩:∃r,ms[j]?=some r:=⟨_,List.getElem?_eq_getElem (by have:=(List.getElem?_eq_some_iff.1 ham).1;omega)⟩
    obtain ⟨am',afY,pr⟩:=bc pb hr'
    rw [ham]at afY
    cases afY
    have s3:aK H (upd H2 T0 (.tup [.int (j:Nat),.ref am])):=s2.trans (aK.new hT)
    refine ⟨T0,_,rfl,zj.of aA,rfl,?_⟩
    open_ks with [wL,Ho]
    have i1:oO (as.map V.ref) (0+(i:Int))=some (.ref ap):=at_of (j:=i) (by omega) (by rw [List.getElem?_map,hap];rfl)
    have i2:oO (as.map V.ref) (0+(i:Int)+1)=some (.ref aq):=at_of (j:=i+1) (by omega) (by rw [List.getElem?_map,Hq];rfl)
    open_ks with [gj]
    refine ⟨_,b7.of (s3 _ _ ha),_,i1,_,b7.of (s3 _ _ ha),_,i2,?_⟩
    have np:=na p (List.mem_of_getElem? hp)
    have nq:=na q (List.mem_of_getElem? hq)
    have nr:=nb r (List.mem_of_getElem? hr')
    have pp3:=pp.same s3
    have pq3:=pq.same s3
    have pr3:=pr.same s3
    open_ks with [qY,pp3.iff,pq3.iff,pr3.iff,np,nq,nr]
    cases ho:Vbreab.onSegment p q r with
    | false=>
     open_ks with []
     refine ⟨s3,fun m' hm'=>?_⟩
     by_cases e:m'=j
     ·rintro ⟨p',q',r',e1,e2,e3,e4⟩
      rw [hp]at e1;rw [hq]at e2;rw [e,hr']at e3
      cases e1;cases e2;cases e3
      rw [ho]at e4;cases e4
     ·exact no2 m' (by omega)
    | true=>
     open_ks with []
     rw [zJ ⟨p,q,r,hp,hq,hr',ho⟩ no1 no2]at k
     refine ⟨by decide,fun t ht=>?_⟩
     refine k _ t (s3.free ht) ?_ (s3.trans (aK.new ht))
     rw [aA,Int.zero_add]
   ·rintro σ H2 ⟨v3,v4,rfl,s2,no2⟩
    rw [List.length_map,lb]at no2
    refine ⟨_,v3,v4,rfl,s2,fun i' hi' m=>?_⟩
    by_cases e:i'=i
    ·subst e
     by_cases hm:m<ms.length
     ·exact no2 m hm
     ·rintro ⟨p',q',r',e1,e2,e3,e4⟩
      have:=(List.getElem?_eq_some_iff.1 e3).1
      omega
    ·exact no1 i' (by omega) m
  ·rintro σ H1 ⟨v2,v3,v4,rfl,s1,no1⟩
   open_ks with []
   rw [zH]at k
   ·exact k H1 s1
   ·rintro i m ⟨p',q',r',e1,e2,e3,e4⟩
    have:=(List.getElem?_eq_some_iff.1 e2).1
    exact no1 i (by omega) m ⟨p',q',r',e1,e2,e3,e4⟩
end
section
variable {P:Program} {w:World} {K:PySem.W.Frag} {mg:Str→Option Value} {base:Heap} {f:Addr} {fd:FuncData}
noncomputable abbrev N6 (p:Pt):Prop:=az.Near 1000000 p
theorem NQ {Q:VK} {H:Hp} {b b':Bool} (k:Q (.bl b) H) (e:b=b'):Q (.bl b') H:=e▸k
noncomputable abbrev nA:Stmt:=top 17
theorem Cv:aW ["centre","place"] ["centre","place"] (aF nA):=⟨rfl,rfl,rfl,by decide +kernel,rfl,by decide +kernel,by decide +kernel⟩
noncomputable def mC:Sp:=fun vs H Q _=>∃(a b:Addr) (c p:Pt),vs=[.ref a,.ref b]∧cB H a c∧cB H b p∧Q (.bl (az.second (Vbreab.sub p c))) H
theorem Cw (F:cI K "in_second_half" "in_second_half" nA f fd) (T:Txt mg)  : cz P w K mg base fH 1 f fd ["centre","place"] mC:=by
 skip
 refine F.ok Cv (fun vs H Q E h=>?_) (fun cdv A outer s H vs Q E hr h=>?_)
 ·obtain ⟨a,b,c,p,rfl,_⟩:=h
  rfl
 ·obtain ⟨a,b,c,p,rfl,ha,hb,k⟩:=h
  refine ⟨_,(aB (aH (aaS (fQ xm (bA cQ (pv 1) aG (fun _ _=>rfl)) (bA cQ (pv 0) aG (fun _ _=>rfl)) (bQ _)) (pD (vB (fQ uQ (bA cQ (pv 1) aG (fun _ _=>rfl)) (bA cQ (pv 0) aG (fun _ _=>rfl)) (bQ _)) (pD (fQ qU (bA cQ (pv 1) aG (fun _ _=>rfl)) (bA cQ (pv 0) aG (fun _ _=>rfl)) (bQ _)))))))),?_⟩
  open_ks with [ha.iff,hb.iff]
  have e:az.second (Vbreab.sub p c)=(decide (c.x<p.x)||(decide (p.x=c.x)&&decide (p.y<c.y))):=by
   unfold az.second Vbreab.sub
   dsimp only
   rw [decide_eq_decide.2 (show 0<p.x-c.x↔c.x<p.x by omega),decide_eq_decide.2 (show p.x-c.x=0↔p.x=c.x by omega),decide_eq_decide.2 (show p.y-c.y<0↔p.y<c.y by omega)]
  rw [e]at k
  by_cases h1:c.x<p.x<;>by_cases h2:p.x=c.x<;>by_cases h3:p.y<c.y<;>simp [h1,h2,h3]at k ⊢<;>first | exact k | omega
noncomputable abbrev uf:Stmt:=top 18
theorem Ko:aW ["centre","a","b"] ["centre","a","b"] (aF uf):=⟨rfl,rfl,rfl,by decide +kernel,rfl,by decide +kernel,by decide +kernel⟩
noncomputable def ju:Sp:=fun vs H Q _=>∃(a1 a2 a3:Addr) (c p q:Pt),vs=[.ref a1,.ref a2,.ref a3]∧cB H a1 c∧cB H a2 p∧cB H a3 q∧N6 c∧N6 p∧N6 q∧Q (.bl (az.ray (Vbreab.sub p c) (Vbreab.sub q c))) H
theorem Kr (F:cI K "seen_sooner" "seen_sooner" uf f fd) (T:Txt mg) (nD:ik P w K mg base "in_second_half" 1 ["centre","place"] mC) (eX:ik P w K mg base "turn" 1 ["a","b","place"] gk):cz P w K mg base fH 2 f fd ["centre","a","b"] ju:=by
 obtain ⟨_,_,j6,j7,j8,j9⟩:=nD;obtain ⟨_,_,dI,dJ,dM,dN⟩:=eX
 refine F.ok Ko (fun vs H Q E h=>?_) (fun cdv A outer s H vs Q E hr h=>?_)
 ·obtain ⟨a1,a2,a3,c,p,q,rfl,_⟩:=h
  rfl
 ·obtain ⟨a1,a2,a3,c,p,q,rfl,h1,h2,h3,n1,n2,n3,k⟩:=h
  refine ⟨_,(ao (cC (bV Uo (aM j6 (hr.mono (by decide)) rfl j7 j8 j9 .nil aO (aj (pv 0) (aj (pv 1) ak))) (aM j6 (hr.mono (by decide)) rfl j7 j8 j9 .nil aO (aj (pv 0) (aj (pv 2) ak))) (bQ _)) (aB (aH (aM j6 (hr.mono (by decide)) rfl j7 j8 j9 .nil aO (aj (pv 0) (aj (pv 2) ak))))) bH) (aB (aH (fQ xm (aM dI (hr.mono (by decide)) rfl dJ dM dN .nil aO (aj (pv 0) (aj (pv 1) (aj (pv 2) ak)))) aG (bQ _))))),?_⟩
  open_ks with [mC,gk,h1.iff,h2.iff,h3.iff,n1,n2,n3]
  unfold az.ray at k
  cases e1:az.second (Vbreab.sub p c)<;>cases e2:az.second (Vbreab.sub q c)<;>rw [e1,e2]at k<;>simp [e2]at k ⊢<;>exact k
noncomputable abbrev nF:Stmt:=top 19
theorem tG:aW ["centre","a","b","along"] ["centre","a","b"] (aF nF):=⟨rfl,rfl,rfl,by decide +kernel,rfl,by decide +kernel,by decide +kernel⟩
noncomputable def mD:Sp:=fun vs H Q _=>∃(a1 a2 a3:Addr) (c p q:Pt),vs=[.ref a1,.ref a2,.ref a3]∧cB H a1 c∧cB H a2 p∧cB H a3 q∧N6 c∧N6 p∧N6 q∧Q (.bl (az.BV c p q)) H
theorem Cy (F:cI K "same_direction" "same_direction" nF f fd) (T:Txt mg) (eX:ik P w K mg base "turn" 1 ["a","b","place"] gk):cz P w K mg base fH 2 f fd ["centre","a","b"] mD:=by
 obtain ⟨_,_,dI,dJ,dM,dN⟩:=eX
 refine F.ok tG (fun vs H Q E h=>?_) (fun cdv A outer s H vs Q E hr h=>?_)
 ·obtain ⟨a1,a2,a3,c,p,q,rfl,_⟩:=h
  rfl
 ·obtain ⟨a1,a2,a3,c,p,q,rfl,h1,h2,h3,n1,n2,n3,k⟩:=h
  refine ⟨_,(ao (aY (i:=3) tG.nd rfl (Or.inl rfl) (bU d8 (bU qT (bU dh (bA cQ (pv 1) aG (fun _ _=>rfl)) (bA cQ (pv 0) aG (fun _ _=>rfl))) (bU dh (bA cQ (pv 2) aG (fun _ _=>rfl)) (bA cQ (pv 0) aG (fun _ _=>rfl)))) (bU qT (bU dh (bA cQ (pv 1) aG (fun _ _=>rfl)) (bA cQ (pv 0) aG (fun _ _=>rfl))) (bU dh (bA cQ (pv 2) aG (fun _ _=>rfl)) (bA cQ (pv 0) aG (fun _ _=>rfl)))))) (aB (aH (vB (fQ uQ (aM dI (hr.mono (by decide)) rfl dJ dM dN .nil aO (aj (pv 0) (aj (pv 1) (aj (pv 2) ak)))) aG (bQ _)) (pD (fQ xm (pv 3) aG (bQ _))))))),?_⟩
  open_ks with [gk,h1.iff,h2.iff,h3.iff,n1,n2,n3]
  have m1:=n1
  have m2:=n2
  obtain ⟨p1,p2,p3,p4⟩:=m1
  obtain ⟨q1,q2,q3,q4⟩:=m2
  refine ⟨zW.near (by omega),zW.near (by omega),?_⟩
  unfold az.BV at k
  have e:Vbreab.dot (Vbreab.sub p c) (Vbreab.sub q c)=(p.x-c.x)*(q.x-c.x)+(p.y-c.y)*(q.y-c.y):=rfl
  rw [e]at k
  by_cases g1:Vbreab.side c p q=0<;>simp [g1]at k ⊢<;>exact k
noncomputable abbrev vO:Stmt:=top 20
theorem oV:aW ["centre","before","behind","laps","whole","bend"] ["centre","before","behind","laps"] (aF vO):=⟨rfl,rfl,rfl,by decide +kernel,rfl,by decide +kernel,by decide +kernel⟩
noncomputable def ug:Sp:=fun vs H Q _=>∃(a1 a2 a3:Addr) (c p q:Pt) (z:Int),vs=[.ref a1,.ref a2,.ref a3,.int z]∧cB H a1 c∧cB H a2 p∧cB H a3 q∧N6 c∧N6 p∧N6 q∧
 ∀H' t,H t=none→H' t=some (.tup [.int (az.jL c p q z),.int (az.jR c p q)])→aK H H'→Q (.ref t) H'
theorem NT (F:cI K "half_turns" "half_turns" vO f fd) (T:Txt mg) (iR:ik P w K mg base "seen_sooner" 2 ["centre","a","b"] ju) (eX:ik P w K mg base "turn" 1 ["a","b","place"] gk) (nG:ik P w K mg base "same_direction" 2 ["centre","a","b"] mD):cz P w K mg base fH 3 f fd ["centre","before","behind","laps"] ug:=by
 obtain ⟨_,_,pH,pI,pJ,pK⟩:=iR;obtain ⟨_,_,dI,dJ,dM,dN⟩:=eX;obtain ⟨_,_,Af,Ag,Ah,Ai⟩:=nG
 refine F.ok oV (fun vs H Q E h=>?_) (fun cdv A outer s H vs Q E hr h=>?_)
 ·obtain ⟨a1,a2,a3,c,p,q,z,rfl,_⟩:=h
  rfl
 ·obtain ⟨a1,a2,a3,c,p,q,z,rfl,h1,h2,h3,n1,n2,n3,k⟩:=h
  refine ⟨_,(ao (aY (i:=4) oV.nd rfl (Or.inl rfl) (bU qT aG (pv 3))) (ao (cC (cP (aM pH (hr.mono (by decide)) rfl pI pJ pK .nil aO (aj (pv 0) (aj (pv 2) (aj (pv 1) ak))))) (aB (aY (i:=4) oV.nd rfl (Or.inl rfl) (bU dh (pv 4) aG))) bH) (ao (aY (i:=5) oV.nd rfl (Or.inl rfl) (aM dI (hr.mono (by decide)) rfl dJ dM dN .nil aO (aj (pv 0) (aj (pv 1) (aj (pv 2) ak))))) (ao (cC (PW.pt (Qg (bV xm (pv 5) aG (bQ _)) (El (cP (aM Af (hr.mono (by decide)) rfl Ag Ah Ai .nil aO (aj (pv 0) (aj (pv 1) (aj (pv 2) ak)))))))) (aB (aH (tX (aj (pv 4) (aj (o7 (bV uQ (pv 5) aG (bQ _)) aG aG) ak))))) bH) (aB (aH (tX (aj (bU d8 (pv 4) aG) (aj (o7 (bV uQ (pv 5) aG (bQ _)) aG aG) ak))))))))),?_⟩
  open_ks with [ju,mD,gk,h1.iff,h2.iff,h3.iff,n1,n2,n3]
  refine ⟨zW.near (by omega),?_⟩
  have fin:∀(b j:Int),az.jL c p q z=b→az.jR c p q=j→2≤sizeLine∧∀t,H t=none→Q (.ref t) (upd H t (.tup [.int b,.int j])):=fun b j e e'=>⟨by decide,fun t ht=>by
   refine k _ t ht ?_ (aK.new ht)
   rw [aA,e,e']⟩
  by_cases g0:az.ray (Vbreab.sub q c) (Vbreab.sub p c)=true<;>by_cases g1:0<Vbreab.side c p q<;>by_cases g2:az.BV c p q=true<;>by_cases g3:Vbreab.side c p q=0<;>simp only [g0,g1,g2,g3,if_true,if_false,Bool.false_eq_true] <;>
   exact fin _ _ (by simp [az.jL,g0,g1,g2,g3]) (by simp [az.jR,g3])
noncomputable abbrev xM:Stmt:=top 21
theorem qy:aW ["centre","before","behind","laps","told","whole","just"] ["centre","before","behind","laps"] (aF xM):=⟨rfl,rfl,rfl,by decide +kernel,rfl,by decide +kernel,by decide +kernel⟩
noncomputable def Ks (c p q:Pt) (z:Int):List V:=[.int (az.GZ (az.jL c p q z)),.int (az.wJ (az.jL c p q z) (az.jR c p q)),.int (az.jR c p q)]
inductive vP (vs:List V) (H:Hp) (Q:VK) (E:XK):Prop where
 | mk (a1 a2 a3:Addr) (c p q:Pt) (z:Int) (_:vs=[.ref a1,.ref a2,.ref a3,.int z]) (_:cB H a1 c) (_:cB H a2 p) (_:cB H a3 q) (_:N6 c) (_:N6 p) (_:N6 q) (_:∀H' t,H t=none→H' t=some (.tup (Ks c p q z))→aK H H'→Q (.ref t) H'):vP  vs H Q E
theorem RB (F:cI K "turn_past" "turn_past" xM f fd) (T:Txt mg) (vQ:ik P w K mg base "half_turns" 3 ["centre","before","behind","laps"] ug):cz P w K mg base fH 4 f fd ["centre","before","behind","laps"] vP:=by
 obtain ⟨_,_,Ku,Kv,Kw,Ky⟩:=vQ
 refine F.ok qy (fun vs H Q E h=>?_) (fun cdv A outer s H vs Q E hr h=>?_)
 ·obtain ⟨a1,a2,a3,c,p,q,z,rfl,_⟩:=h
  rfl
 ·obtain ⟨a1,a2,a3,c,p,q,z,rfl,h1,h2,h3,n1,n2,n3,k⟩:=h
  refine ⟨_,(ao (aY (i:=4) qy.nd rfl (Or.inl rfl) (aM Ku (hr.mono (by decide)) rfl Kv Kw Ky .nil aO (aj (pv 0) (aj (pv 1) (aj (pv 2) (aj (pv 3) ak)))))) (ao (aY (i:=5) qy.nd rfl (Or.inl rfl) (bA vD (pv 4) aG (fun _ _=>rfl))) (ao (aY (i:=6) qy.nd rfl (Or.inl rfl) (bA vD (pv 4) aG (fun _ _=>rfl))) (ao (cC (bV Up (pv 5) aG (bQ _)) (aB (aH (tX (aj aG (aj (pv 5) (aj (pv 6) ak)))))) bH) (aB (aH (tX (aj (o8 jj aG) (aj (bU d8 (bU dh (o8 jj (pv 5)) aG) (pv 6)) (aj (pv 6) ak)))))))))),?_⟩
  open_ks with [ug,h1.iff,h2.iff,h3.iff,n1,n2,n3]
  intro H1 t ht h4 s1
  have i0:oO [V.int (az.jL c p q z),V.int (az.jR c p q)] 0=some (.int (az.jL c p q z)):=at_of (j:=0) rfl rfl
  have i1:oO [V.int (az.jL c p q z),V.int (az.jR c p q)] 1=some (.int (az.jR c p q)):=at_of (j:=1) rfl rfl
  open_ks with [aa7]
  refine ⟨_,zj.of h4,_,i0,_,zj.of h4,_,i1,?_⟩
  open_ks with []
  have fin:∀b j:Int,az.GZ (az.jL c p q z)=b→az.wJ (az.jL c p q z) (az.jR c p q)=j→3≤sizeLine∧∀t,H1 t=none→Q (.ref t) (upd H1 t (.tup [.int b,.int j,.int (az.jR c p q)])):=fun b j e e'=>⟨by decide,fun t ht=>by
   refine k _ t (s1.free ht) ?_ (s1.trans (aK.new ht))
   rw [aA]
   unfold Ks
   rw [e,e']⟩
  by_cases g0:0≤az.jL c p q z<;>simp only [g0,if_true,if_false]
  ·exact fin _ _ (by simp [az.GZ,g0]) (by simp [az.wJ,g0])
  ·exact fin _ _ (by simp [az.GZ,g0]) (by simp [az.wJ,g0])
noncomputable abbrev xN:Stmt:=top 22
theorem Cz:aW ["centre","before","behind","side","laps"] ["centre","before","behind","side"] (aF xN):=⟨rfl,rfl,rfl,by decide +kernel,rfl,by decide +kernel,by decide +kernel⟩
noncomputable def Yx (c p q:Pt) (side:Int):Int:=if side=1 then az.bI (az.ray (Vbreab.sub q c) (Vbreab.sub p c)) else az.bI (az.ray (Vbreab.sub q c) (Vbreab.sub p c))-1
inductive vR (vs:List V) (H:Hp) (Q:VK) (E:XK):Prop where
 | mk (a1 a2 a3:Addr) (c p q:Pt) (z:Int) (_:vs=[.ref a1,.ref a2,.ref a3,.int z]) (_:cB H a1 c) (_:cB H a2 p) (_:cB H a3 q) (_:N6 c) (_:N6 p) (_:N6 q) (_:Q (.int (Yx c p q z)) H):vR  vs H Q E
theorem RD (F:cI K "laps_past" "laps_past" xN f fd) (T:Txt mg) (iR:ik P w K mg base "seen_sooner" 2 ["centre","a","b"] ju):cz P w K mg base fH 3 f fd ["centre","before","behind","side"] vR:=by
 obtain ⟨_,_,pH,pI,pJ,pK⟩:=iR
 refine F.ok Cz (fun vs H Q E h=>?_) (fun cdv A outer s H vs Q E hr h=>?_)
 ·obtain ⟨a1,a2,a3,c,p,q,z,rfl,_⟩:=h
  rfl
 ·obtain ⟨a1,a2,a3,c,p,q,z,rfl,h1,h2,h3,n1,n2,n3,k⟩:=h
  refine ⟨_,(ao (aY (i:=4) Cz.nd rfl (Or.inl rfl) (o7 (cP (aM pH (hr.mono (by decide)) rfl pI pJ pK .nil aO (aj (pv 0) (aj (pv 2) (aj (pv 1) ak))))) aG aG)) (aB (aH (o7 (bV uQ (pv 3) aG (bQ _)) (pv 4) (bU dh (pv 4) aG))))),?_⟩
  open_ks with [ju,h1.iff,h2.iff,h3.iff,n1,n2,n3]
  unfold Yx at k
  cases g0:az.ray (Vbreab.sub q c) (Vbreab.sub p c)<;>by_cases g1:z=1<;>simp [g0,g1,az.bI]at k ⊢<;>exact k
noncomputable abbrev mF:Stmt:=top 25
theorem Aj:aW ["a","b","place"] ["a","b","place"] (aF mF):=⟨rfl,rfl,rfl,by decide +kernel,rfl,by decide +kernel,by decide +kernel⟩
noncomputable def dj:Sp:=fun vs H Q _=>∃(a1 a2 a3:Addr) (a b p:Pt),vs=[.ref a1,.ref a2,.ref a3]∧cB H a1 a∧cB H a2 b∧cB H a3 p∧N6 a∧N6 b∧N6 p∧Q (.bl (az.lu a b p)) H
theorem Ak (F:cI K "passes_eastward" "passes_eastward" mF f fd) (T:Txt mg) (eX:ik P w K mg base "turn" 1 ["a","b","place"] gk):cz P w K mg base fH 2 f fd ["a","b","place"] dj:=by
 obtain ⟨_,_,dI,dJ,dM,dN⟩:=eX
 refine F.ok Aj (fun vs H Q E h=>?_) (fun cdv A outer s H vs Q E hr h=>?_)
 ·obtain ⟨a1,a2,a3,a,b,p,rfl,_⟩:=h
  rfl
 ·obtain ⟨a1,a2,a3,a,b,p,rfl,h1,h2,h3,n1,n2,n3,k⟩:=h
  refine ⟨_,(aB (aH (vB (o9 lM qU (bA cQ (pv 0) aG (fun _ _=>rfl)) (bA cQ (pv 2) aG (fun _ _=>rfl)) (bA cQ (pv 1) aG (fun _ _=>rfl))) (pD (fQ qU (aM dI (hr.mono (by decide)) rfl dJ dM dN .nil aO (aj (pv 0) (aj (pv 1) (aj (pv 2) ak)))) aG (bQ _)))))),?_⟩
  open_ks with [gk,h1.iff,h2.iff,h3.iff,n1,n2,n3]
  unfold az.lu at k
  by_cases g1:a.x≤p.x<;>by_cases g2:p.x<b.x<;>simp [g1,g2]at k ⊢<;>exact k
noncomputable abbrev rn:Stmt:=top 26
theorem Hr:aW ["a","b","place"] ["a","b","place"] (aF rn):=⟨rfl,rfl,rfl,by decide +kernel,rfl,by decide +kernel,by decide +kernel⟩
noncomputable def jW:Sp:=fun vs H Q _=>∃(a1 a2 a3:Addr) (a b p:Pt),vs=[.ref a1,.ref a2,.ref a3]∧cB H a1 a∧cB H a2 b∧cB H a3 p∧N6 a∧N6 b∧N6 p∧Q (.int (az.tU a b p)) H
theorem Hs (F:cI K "ray_crossing" "ray_crossing" rn f fd) (T:Txt mg) (dX:ik P w K mg base "passes_eastward" 2 ["a","b","place"] dj):cz P w K mg base fH 3 f fd ["a","b","place"] jW:=by
 obtain ⟨_,_,eG,eH,eN,eO⟩:=dX
 refine F.ok Hr (fun vs H Q E h=>?_) (fun cdv A outer s H vs Q E hr h=>?_)
 ·obtain ⟨a1,a2,a3,a,b,p,rfl,_⟩:=h
  rfl
 ·obtain ⟨a1,a2,a3,a,b,p,rfl,h1,h2,h3,n1,n2,n3,k⟩:=h
  refine ⟨_,(ao (cC (cP (aM eG (hr.mono (by decide)) rfl eH eN eO .nil aO (aj (pv 0) (aj (pv 1) (aj (pv 2) ak))))) (aB (aH (o8 jj aG))) bH) (ao (cC (cP (aM eG (hr.mono (by decide)) rfl eH eN eO .nil aO (aj (pv 1) (aj (pv 0) (aj (pv 2) ak))))) (aB (aH aG)) bH) (aB (aH aG)))),?_⟩
  open_ks with [dj,h1.iff,h2.iff,h3.iff,n1,n2,n3]
  unfold az.tU at k
  cases g1:az.lu a b p<;>cases g2:az.lu b a p<;>simp [g1,g2]at k ⊢<;>exact k
end
open az (sg) in
noncomputable def yV (l:Bool) (u v w p:Pt):Bool:=decide (0<sg l*Vbreab.side u v p)&&(decide (0<sg l*Vbreab.side v w p)&&decide (0≤sg l*Vbreab.side w u p))
theorem Qv (u v w p:Pt):(yV (decide (0<Vbreab.side u v w)) u v w p=true)↔(Vbreab.inTriangle u v w p=true∧p≠u∧p≠w):=by
 have sum:Vbreab.side u v p+Vbreab.side v w p+Vbreab.side w u p=Vbreab.side u v w:=by simp only [Vbreab.side,Vbreab.cross,Vbreab.sub];grind
 have nu:p=u→Vbreab.side u v p=0:=by rintro rfl;simp only [Vbreab.side,Vbreab.cross,Vbreab.sub];grind
 have nw:p=w→Vbreab.side v w p=0:=by rintro rfl;simp only [Vbreab.side,Vbreab.cross,Vbreab.sub];grind
 unfold yV Vbreab.inTriangle
 simp only [Bool.and_eq_true,decide_eq_true_eq]
 by_cases h:0<Vbreab.side u v w
 ·simp only [h,decide_true,az.sg,if_true,decide_eq_true_eq]
  constructor
  ·rintro ⟨a,b,c⟩
   exact ⟨by omega,fun e=>by have:=nu e;omega,fun e=>by have:=nw e;omega⟩
  ·rintro ⟨a,b,c⟩
   omega
 ·by_cases h':Vbreab.side u v w<0
  ·simp only [h,h',decide_false,az.sg,Bool.false_eq_true,if_false,if_true,decide_eq_true_eq]
   constructor
   ·rintro ⟨a,b,c⟩
    exact ⟨by omega,fun e=>by have:=nu e;omega,fun e=>by have:=nw e;omega⟩
   ·rintro ⟨a,b,c⟩
    omega
  ·simp only [h,h',decide_false,az.sg,Bool.false_eq_true,if_false]
   constructor
   ·rintro ⟨a,b,c⟩
    omega
   ·rintro ⟨a,b,c⟩
    cases a
theorem Yy (l:Bool):-2000000≤az.sg l∧az.sg l≤2000000:=by cases l<;>simp [az.sg]
noncomputable def pM (l:List (Pt×Nat)):List V:=l.map fun x=>V.int (x.2:Nat)
section
variable {P:Program} {w:World} {K:PySem.W.Frag} {mg:Str→Option Value} {base:Heap} {f:Addr} {fd:FuncData}
noncomputable abbrev jb:Stmt:=top 13
theorem gZ:aW ["u","v","w","side","marks","number","place"] ["u","v","w","side","marks"] (aF jb):=⟨rfl,rfl,rfl,by decide +kernel,rfl,by decide +kernel,by decide +kernel⟩
noncomputable def kh:Sp:=fun vs H Q _=>∃(a1 a2 a3 am:Addr) (u v w:Pt) (ms:List Pt),vs=[.ref a1,.ref a2,.ref a3,.int (az.sg (decide (0<Vbreab.side u v w))),.ref am]∧cB H a1 u∧cB H a2 v∧cB H a3 w∧N6 u∧N6 v∧N6 w∧cu H am ms∧jC ms∧ms.length≤16∧
 ∀H' p,H p=none→H' p=some (.lst (pM (az.cX ms u v w)))→aK H H'→Q (.ref p) H'
theorem Al (F:cI K "marks_in_corner" "marks_in_corner" jb f fd) (T:Txt mg) (eX:ik P w K mg base "turn" 1 ["a","b","place"] gk):cz P w K mg base fH 2 f fd ["u","v","w","side","marks"] kh:=by
 obtain ⟨_,_,dI,dJ,dM,dN⟩:=eX
 refine F.ok gZ (fun vs H Q E h=>?_) (fun cdv A outer s H vs Q E hr h=>?_)
 ·obtain ⟨a1,a2,a3,am,u,v,w,ms,rfl,_⟩:=h
  rfl
 ·obtain ⟨a1,a2,a3,am,u,v,w,ms,rfl,h1,h2,h3,n1,n2,n3,⟨as,hm,pm⟩,nm,j4,k⟩:=h
  refine ⟨_,(aB (aH (qX (own:=[("number",5),("place",6)]) rfl gZ.nd (Ck rfl T.ph (aj (pv 4) ak)) (eE (N:=["u","v","w","side","marks","number","place"]) (sc:=aF jb) (by decide +kernel)) (fun _ _ _ _ _=>(show PG _ _ (Ul K 2 _) from qR rfl (cR (cA (i:=5) gZ.nd rfl (Or.inl rfl)) (cR (cA (i:=6) gZ.nd rfl (Or.inl rfl)) lK)))) (fun _ _ _ _ _=>(Je (PW.pt (Em (bV xm (bU qT (pv 3) (aM dI (hr.mono (by decide)) rfl dJ dM dN .nil aO (aj (pv 0) (aj (pv 1) (aj (pv 6) ak))))) aG (bQ _)) (Em (bV xm (bU qT (pv 3) (aM dI (hr.mono (by decide)) rfl dJ dM dN .nil aO (aj (pv 1) (aj (pv 2) (aj (pv 6) ak))))) aG (bQ _)) (BX (bV Up (bU qT (pv 3) (aM dI (hr.mono (by decide)) rfl dJ dM dN .nil aO (aj (pv 2) (aj (pv 0) (aj (pv 6) ak))))) aG (bQ _)))))))) (fun _ _ _ _ _=>(pv 5))))),?_⟩
  generalize hz:az.sg (decide (0<Vbreab.side u v w))=z at *
  have la:as.length=ms.length:=bC pm
  open_ks with []
  refine ⟨_,b7.of hm,?_⟩
  refine gK.val (n:=(as.map V.ref).length) (fun i=>match ms[i]? with
   | some p=>if yV (decide (0<Vbreab.side u v w)) u v w p=true then some (V.int (i:Nat)) else none
   | none=>none) (by rw [List.length_map];omega) (abm (b7.of hm)) (fun i H1 x H' R R' hi sm hy hR hR'=>?_) (fun D H1 hD hH sm=>?_)
  ·obtain ⟨T0,y,rfl,hT,rfl,hy⟩:=hy
   have hx:=hy _ (b7.of (sm _ _ hm))
   obtain ⟨q,hq⟩:∃q,ms[i]?=some q:=⟨_,List.getElem?_eq_getElem (by rw [List.length_map]at hi;omega)⟩
   obtain ⟨aq,Hq,pq⟩:=bc pm hq
   rw [List.getElem?_map,Hq]at hx
   cases hx
   have s1:aK H1 (upd H1 T0 (.tup [.int (i:Nat),.ref aq])):=aK.new hT
   have g1:=(h1.same sm).same s1
   have g2:=(h2.same sm).same s1
   have g3:=(h3.same sm).same s1
   have g4:=(pq.same sm).same s1
   have nq:=nm q (List.mem_of_getElem? hq)
   have mz:-2000000≤z∧z≤2000000:=by rw [←hz];exact Yy _
   refine ⟨T0,_,rfl,zj.of aA,rfl,?_⟩
   open_ks with [wL,Ho,wipe,gk,g1.iff,g2.iff,g3.iff,g4.iff,n1,n2,n3,nq]
   simp only [hq]at hR hR'
   have e:yV (decide (0<Vbreab.side u v w)) u v w q=(decide (0<z*Vbreab.side u v q)&&(decide (0<z*Vbreab.side v w q)&&decide (0≤z*Vbreab.side w u q))):=by unfold yV;rw [hz]
   rw [e]at hR hR'
   refine ⟨zW.near mz,?_⟩
   by_cases c1:0<z*Vbreab.side u v q<;>by_cases c2:0<z*Vbreab.side v w q<;>by_cases c3:0≤z*Vbreab.side w u q<;>simp [c1,c2,c3,zW.near mz]at hR hR' ⊢ <;>
    first | exact hR _ _ rfl s1 | exact hR' _ s1
  ·refine k H1 D hD ?_ sm
   rw [hH,List.length_map,la]
   unfold pM az.cX
   rw [List.map_filterMap]
   refine congrArg (fun g=>some (HO.lst ((List.range ms.length).filterMap g))) (funext fun i=>?_)
   cases hi:ms[i]? with
   | none=>rfl
   | some p=>
    simp only
    by_cases c:yV (decide (0<Vbreab.side u v w)) u v w p=true
    ·rw [if_pos c,if_pos ((Qv _ _ _ _).1 c)];rfl
    ·rw [if_neg c,if_neg (fun z=>c ((Qv _ _ _ _).2 z))];rfl
theorem RG {l:List (Pt×Nat)} {i:Nat} {x:Pt×Nat} (h:l[i]?=some x):(pM l)[i]?=some (.int (x.2:Nat)):=by
 unfold pM;rw [List.getElem?_map,h];rfl
theorem pB (l:List (Pt×Nat)):(pM l).length=l.length:=by unfold pM;rw [List.length_map]
noncomputable def U6 (b:Option (Pt×Nat)):V:=match b with
 | none=>.non
 | some y=>.int (y.2:Nat)
structure xO (ms:List Pt) (l:Bool) (c goal:Pt) (xs:List (Pt×Nat)):Prop where
 hug:xs=[]∨∃h d,az.vg l h d c goal xs
 num:az.jQ xs
 at_:∀x∈xs,ms[x.2]?=some x.1
theorem xO.look {ms:List Pt} {l:Bool} {c goal:Pt} {xs:List (Pt×Nat)} (L:xO ms l c goal xs) {i:Nat} {x:Pt×Nat} (hx:xs[i]?=some x) :
  az.fX l c xs goal (i+1)=if az.JH l c (az.vq (az.fX l c xs goal i) goal) x.1=true then some x else az.fX l c xs goal i:=by
 rcases L.hug with e | ⟨h,d,HI⟩
 ·rw [e]at hx;simp at hx
 ·exact HI.look L.num hx
theorem xO.next {ms:List Pt} {l:Bool} {c goal:Pt} {xs:List (Pt×Nat)} (L:xO ms l c goal xs) {y:Pt×Nat} (hb:az.bestOf l c xs goal=some y) :
  y∈xs∧xO ms l y.1 goal (xs.filter fun x=>x.2 != y.2):=by
 rcases L.hug with e | ⟨h,d,HI⟩
 ·rw [e]at hb;cases hb
 ·obtain ⟨h1,h2⟩:=HI.next hb
  exact ⟨h1,.inr ⟨h,_,h2⟩,az.Hm L.num y,fun x hx=>L.at_ x (List.mem_filter.1 hx).1⟩
noncomputable abbrev uh:Stmt:=top 14
theorem fK:aW ["here","w","side","numbers","marks","found","goal","number","place"] ["here","w","side","numbers","marks"] (aF uh):=⟨rfl,rfl,rfl,by decide +kernel,rfl,by decide +kernel,by decide +kernel⟩
inductive rz (vs:List V) (H:Hp) (Q:VK) (E:XK):Prop where
 | mk (a1 a2 al am:Addr) (l:Bool) (c goal:Pt) (xs:List (Pt×Nat)) (ms:List Pt) (_:vs=[.ref a1,.ref a2,.int (az.sg l),.ref al,.ref am]) (_:cB H a1 c) (_:cB H a2 goal) (_:N6 c) (_:N6 goal) (_:H al=some (.lst (pM xs))) (_:cu H am ms) (_:jC ms) (_:xO ms l c goal xs) (_:Q (U6 (az.bestOf l c xs goal)) H):rz  vs H Q E
theorem Kz (F:cI K "next_caught" "next_caught" uh f fd) (T:Txt mg) (qK:ik P w K mg base "lies_on" 2 ["place","a","b"] qY) (eX:ik P w K mg base "turn" 1 ["a","b","place"] gk):cz P w K mg base fH 3 f fd ["here","w","side","numbers","marks"] rz:=by
 obtain ⟨_,_,xG,xH,xJ,xK⟩:=qK;obtain ⟨_,_,dI,dJ,dM,dN⟩:=eX
 refine F.ok fK (fun vs H Q E h=>?_) (fun cdv A outer s H vs Q E hr h=>?_)
 ·obtain ⟨a1,a2,al,am,l,c,goal,xs,ms,rfl,_⟩:=h
  rfl
 ·obtain ⟨a1,a2,al,am,l,c,goal,xs,ms,rfl,h1,h2,n1,n2,hl,⟨as,hm,pm⟩,nm,L,k⟩:=h
  refine ⟨_,(ao (aY (i:=5) fK.nd rfl (Or.inl rfl) eU) (ao (aY (i:=6) fK.nd rfl (Or.inl rfl) (pv 1)) (ao (vC PassesOwn.never rfl (jA (pv 3)) (cA (i:=7) fK.nd rfl (Or.inl rfl)) (ao (aY (i:=8) fK.nd rfl (Or.inl rfl) (bA bB (pv 4) (pv 7) (fun _ _=>rfl))) (aB (cC (PW.pt (Qg (bV qU (bU qT (pv 2) (aM dI (hr.mono (by decide)) rfl dJ dM dN .nil aO (aj (pv 0) (aj (pv 6) (aj (pv 8) ak))))) aG (bQ _)) (El (cP (aM xG (hr.mono (by decide)) rfl xH xJ xK .nil aO (aj (pv 8) (aj (pv 0) (aj (pv 6) ak)))))))) (ao (aY (i:=5) fK.nd rfl (Or.inl rfl) (pv 7)) (aB (aY (i:=6) fK.nd rfl (Or.inl rfl) (pv 8)))) bH)))) (aB (aH (pv 5)))))),?_⟩
  have mz:=Yy l
  open_ks with []
  refine ⟨⟨_,b7.of hl⟩,?_⟩
  refine Loop.list (xs:=pM xs) (fun i σ H'=>H'=H∧∃ag v7 v8,σ=[some (.ref a1),some (.ref a2),some (.int (az.sg l)),some (.ref al),some (.ref am),some (U6 (az.fX l c xs goal i)),some (.ref ag),v7,v8]∧cB H ag (az.vq (az.fX l c xs goal i) goal)∧N6 (az.vq (az.fX l c xs goal i) goal)) ⟨rfl,a2,none,none,rfl,h2,n2⟩ (fun i σ H' _ ⟨e,_⟩=>by rw [e];exact b7.of hl) ?_ ?_
  ·rintro i x σ H' hx ⟨rfl,ag,v7,v8,rfl,hg,ng⟩
   have hi:i<xs.length:=by rw [←pB];exact (List.getElem?_eq_some_iff.1 hx).1
   obtain ⟨y,hy⟩:∃y,xs[i]?=some y:=⟨_,List.getElem?_eq_getElem hi⟩
   rw [RG hy]at hx
   cases hx
   have hym:=L.at_ y (List.mem_of_getElem? hy)
   obtain ⟨ay,hay,py⟩:=bc pm hym
   have ny:=nm y.1 (List.mem_of_getElem? hym)
   have i1:oO (as.map V.ref) ((y.2:Nat):Int)=some (.ref ay):=at_of (j:=y.2) rfl (by rw [List.getElem?_map,hay];rfl)
   open_ks with [gj]
   refine ⟨_,b7.of hm,_,i1,?_⟩
   open_ks with [gk,qY,h1.iff,hg.iff,py.iff,n1,ng,ny]
   refine ⟨zW.near mz,?_⟩
   have step:=L.look hy
   unfold az.JH at step
   rw [step]
   by_cases c1:az.sg l*Vbreab.side c (az.vq (az.fX l c xs goal i) goal) y.1<0
   ·simp only [c1,if_true,decide_true,Bool.true_or]
    exact ⟨rfl,rfl,ny⟩
   ·cases c2:Vbreab.onSegment c (az.vq (az.fX l c xs goal i) goal) y.1 with
    | true=>
     simp only [c1,if_true,if_false,decide_false,Bool.false_or]
     exact ⟨rfl,rfl,ny⟩
    | false=>
     simp only [c1,if_false,decide_false,Bool.false_or,Bool.false_eq_true]
     exact ⟨trivial,trivial,ng⟩
  ·rintro σ H' ⟨rfl,ag,v7,v8,rfl,hg,ng⟩
   rw [pB,az.Wg]
   open_ks with []
   exact k
theorem WW {ms:List Pt} (jM:az.bK ms) {u v w:Pt} (n1:N6 u) (n2:N6 v) (n3:N6 w):xO ms (decide (0<Vbreab.side u v w)) u w (az.cX ms u v w):=by
 refine ⟨?_,az.Hl ms u v w,fun x hx=>(az.eQ hx).1⟩
 by_cases hs:Vbreab.side u v w=0
 ·left
  cases h:az.cX ms u v w with
  | nil=>rfl
  | cons x l=>
   have:=(az.eQ (show x∈az.cX ms u v w by rw [h];simp)).2.1
   unfold Vbreab.inTriangle at this
   simp [hs]at this
 ·exact .inr ⟨_,_,az.Ef jM n1 n2 n3 hs⟩
noncomputable abbrev rA:Stmt:=top 15
theorem d9:aW ["u","v","w","side","marks","left","caught","here","number"] ["u","v","w","side","marks"] (aF rA):=⟨rfl,rfl,rfl,by decide +kernel,rfl,by decide +kernel,by decide +kernel⟩
inductive pN (vs:List V) (H:Hp) (Q:VK) (E:XK):Prop where
 | mk (a1 a2 a3 am:Addr) (u v w:Pt) (ms:List Pt) (_:vs=[.ref a1,.ref a2,.ref a3,.int (az.sg (decide (0<Vbreab.side u v w))),.ref am]) (_:cB H a1 u) (_:cB H a2 v) (_:cB H a3 w) (_:N6 u) (_:N6 v) (_:N6 w) (_:cu H am ms) (_:az.bK ms) (_:ms.length≤16) (_:∀H' p,H p=none→H' p=some (.lst (pM (az.rowOf ms u v w)))→aK H H'→Q (.ref p) H'):pN  vs H Q E
theorem U7 (l:List (Pt×Nat)):pM l=(l.map fun x=>((x.2:Nat):Int)).map V.int:=by unfold pM;rw [List.map_map];rfl
noncomputable def Yz (H:Hp) (ms:List Pt) (L0:Bool) (u v w:Pt) (a1 a2 a3 am pl pc:Addr) (m:Nat) (σ:L2.St) (H':Hp):Prop:=
 ∃xs c ac done fu,m=xs.length∧σ=[some (.ref a1),some (.ref a2),some (.ref a3),some (.int (az.sg L0)),some (.ref am),some (.ref pl),some (.ref pc),some (.ref ac),some (U6 (az.bestOf L0 c xs w))]∧
  H' pl=some (.lst (pM xs))∧H' pc=some (.lst (pM done))∧cB H' ac c∧N6 c∧xO ms L0 c w xs∧az.rowOf ms u v w=done++Vbreab.hug L0 fu c xs w∧xs.length<fu∧xs.length+done.length≤16∧aK H H'
theorem Ht (F:cI K "caught_marks" "caught_marks" rA f fd) (T:Txt mg) (mG:ik P w K mg base "marks_in_corner" 2 ["u","v","w","side","marks"] kh) (uo:ik P w K mg base "next_caught" 3 ["here","w","side","numbers","marks"] rz):cz P w K mg base fH 4 f fd ["u","v","w","side","marks"] pN:=by
 obtain ⟨_,_,zm,zp,zq,zr⟩:=mG;obtain ⟨_,_,wO,wQ,wR,wU⟩:=uo
 refine F.ok d9 (fun vs H Q E h=>?_) (fun cdv A outer s H vs Q E hr h=>?_)
 ·obtain ⟨a1,a2,a3,am,u,v,w,ms,rfl,_⟩:=h
  rfl
 ·obtain ⟨a1,a2,a3,am,u,v,w,ms,rfl,h1,h2,h3,n1,n2,n3,hm,jM,j4,k⟩:=h
  refine ⟨_,(ao (aY (i:=5) d9.nd rfl (Or.inl rfl) (aM zm (hr.mono (by decide)) rfl zp zq zr .nil aO (aj (pv 0) (aj (pv 1) (aj (pv 2) (aj (pv 3) (aj (pv 4) ak))))))) (ao (aY (i:=6) d9.nd rfl (Or.inl rfl) (bL ak)) (ao (aY (i:=7) d9.nd rfl (Or.inl rfl) (pv 0)) (ao (aY (i:=8) d9.nd rfl (Or.inl rfl) (aM wO (hr.mono (by decide)) rfl wQ wR wU .nil aO (aj (pv 7) (aj (pv 2) (aj (pv 3) (aj (pv 5) (aj (pv 4) ak))))))) (ao (JT PassesOwn.never (bV Jc (pv 8) eU (bQ _)) (ao (gU (uR PySem.F.plainAttrs_list PySem.F.slot_list_append PySem.F.type_list_append jB (pv 6) (aj (pv 8) ak))) (ao (gU (uR PySem.F.plainAttrs_list PySem.F.slot_list_remove PySem.F.type_list_remove Zv (pv 5) (aj (pv 8) ak))) (ao (aY (i:=7) d9.nd rfl (Or.inl rfl) (bA bB (pv 4) (pv 8) (fun _ _=>rfl))) (aB (aY (i:=8) d9.nd rfl (Or.inl rfl) (aM wO (hr.mono (by decide)) rfl wQ wR wU .nil aO (aj (pv 7) (aj (pv 2) (aj (pv 3) (aj (pv 5) (aj (pv 4) ak)))))))))))) (aB (aH (pv 6)))))))),?_⟩
  have nm:jC ms:=jM.near
  open_ks with [kh]
  refine ⟨am,u,v,w,rfl,rfl,h1,h2,h3,n1,n2,n3,ms,hm,nm,j4,fun H1 pl hpl hl s1 pc hpc=>?_⟩
  have LO:=WW jM n1 n2 n3 (u:=u) (v:=v) (w:=w)
  have hrow:az.rowOf ms u v w=[]++Vbreab.hug (decide (0<Vbreab.side u v w)) (ms.length+1) u (az.cX ms u v w) w:=rfl
  have hfu:(az.cX ms u v w).length<ms.length+1:=Nat.lt_succ_of_le (az.JK ms u v w)
  have aev:(az.cX ms u v w).length≤16:=Nat.le_trans (az.JK ms u v w) j4
  generalize decide (0<Vbreab.side u v w)=L0 at *
  have s2:aK H1 (upd H1 pc (.lst [])):=aK.new hpc
  have s12:=s1.trans s2
  have npl:pl≠pc:=bw hl hpc
  refine ⟨a1,a3,pl,am,L0,u,w,_,ms,rfl,h1.same s12,h3.same s12,n1,n3,s2 _ _ hl,hm.same s12,nm,LO,?_⟩
  unfold Rh
  refine ⟨Yz H ms L0 u v w a1 a2 a3 am pl pc,
   ⟨_,_,u,a1,[],_,rfl,rfl,s2 _ _ hl,aA,h1.same s12,n1,LO,hrow,hfu,by simpa using aev,s12⟩,?_⟩
  rintro m σ H' ⟨xs,c,ac,done,fu,rfl,rfl,g1,g2,g3,g4,g5,g6,g7,g8,sm⟩
  obtain ⟨fu,rfl⟩:∃fu',fu=fu'+1:=⟨fu-1,by omega⟩
  rw [az.Bw]at g6
  cases hb:az.bestOf L0 c xs w with
  | none=>
   simp only [hb,List.append_nil]at g6
   open_ks with [U6]
   rw [←g6]at g2
   exact k H' pc (s1.free hpc) g2 sm
  | some y=>
   simp only [hb]at g6
   obtain ⟨ym,LN⟩:=g5.next hb
   obtain ⟨as,hma,pm⟩:=hm
   have hym:=g5.at_ y ym
   obtain ⟨ay,hay,py⟩:=bc pm hym
   have ny:=nm y.1 (List.mem_of_getElem? hym)
   have ty1:=Yw (K:=K) g2
   have hz:(pM done).length<sizeLine:=by rw [pB];exact Nat.lt_of_le_of_lt (show done.length≤16 by omega) (by decide)
   have hH1:(upd H' pc (.lst (pM done++[V.int (y.2:Nat)]))) pl=some (.lst (pM xs)):=by rw [aJ npl];exact g1
   have ty2:=Yw (K:=K) hH1
   have i1:oO (as.map V.ref) ((y.2:Nat):Int)=some (.ref ay):=at_of (j:=y.2) rfl (by rw [List.getElem?_map,hay];rfl)
   open_ks with [U6,tBM,qu,Ys,ty1,g2,HO.lst.injEq,hz,ty2,hH1,gj]
   simp only [show (!decide False)=true from rfl,if_true]
   refine ⟨fun σ' H'=>∃m',m'<xs.length∧Yz H ms L0 u v w a1 a2 a3 am pl pc m' σ' H',fun _ _ h=>h,xs.map (fun x=>((x.2:Nat):Int)),U7 xs,List.mem_map.2 ⟨y,ym,rfl⟩,?_⟩
   have er:((xs.map fun x=>((x.2:Nat):Int)).erase ((y.2:Nat):Int)).map V.int=pM (xs.filter fun x=>x.2 != y.2):=by
    rw [U7]
    congr 1
    have:=az.Q8 g5.num y ym
    have e2:(xs.map fun x=>((x.2:Nat):Int))=(xs.map (·.2)).map (fun n:Nat=>(n:Int)):=by rw [List.map_map];rfl
    rw [e2]
    have e3:∀(l:List Nat) (n:Nat),(l.map fun n:Nat=>(n:Int)).erase (n:Int)=(l.erase n).map fun n:Nat=>(n:Int):=by
     intro l n
     induction l with
     | nil=>rfl
     | cons x l ih=>
      simp only [List.map_cons,List.erase_cons]
      by_cases e:x=n
      ·subst e;simp
      ·have e':¬((x:Int)=(n:Int)):=by omega
       simp [e,e',ih]
    rw [e3,←this,List.map_map];rfl
   rw [er]
   have kp:∀b o,H b=some o→(upd (upd H' pc (.lst (pM done++[V.int (y.2:Nat)]))) pl (.lst (pM (xs.filter fun x=>x.2 != y.2)))) b=some o:=fun b o hb=>by
    have n1:b≠pl:=bw hb hpl
    have n2:b≠pc:=bw hb (s1.free hpc)
    rw [aJ n1,aJ n2];exact sm _ _ hb
   have kp':aK H (upd (upd H' pc (.lst (pM done++[V.int (y.2:Nat)]))) pl (.lst (pM (xs.filter fun x=>x.2 != y.2)))):=kp
   refine ⟨_,b7.of (kp _ _ hma),_,i1,?_⟩
   refine ⟨ay,a3,pl,am,L0,y.1,w,_,ms,rfl,py.same kp',h3.same kp',ny,n3,aA,⟨as,kp _ _ hma,bM pm fun a _ b hb=>hb.same kp'⟩,nm,LN,?_⟩
   have lt:=az.Uc y ym
   refine ⟨_,lt,_,y.1,ay,done++[y],fu,rfl,rfl,aA,?_,py.same kp',ny,LN,?_,by omega,?_,kp'⟩
   ·rw [aJ (Ne.symm npl),aA]
    unfold pM
    rw [List.map_append];rfl
   ·rw [g6];simp
   ·rw [List.length_append,List.length_singleton];omega
end
open Vbreab (Pt State Node)
noncomputable def markV (m:Option Nat):V:=match m with
 | none=>.non
 | some n=>.int (n:Nat)
noncomputable def nf (p:Addr) (m:V) (k:Int):List (Str×V):=[("place",.ref p),("mark",m),("laps",.int k)]
theorem jw (p:Addr) (m:V) (k:Int):(nf p m k).lookup ("place" : Str)=some (.ref p):=by
 have:(("place" : Str) == ("place" : Str))=true:=by decide +kernel
 simp only [nf,List.lookup,this]
theorem CG (p:Addr) (m:V) (k:Int):(nf p m k).lookup ("mark" : Str)=some m:=by
 have h1:(("mark" : Str) == ("place" : Str))=false:=by decide +kernel
 have h2:(("mark" : Str) == ("mark" : Str))=true:=by decide +kernel
 simp only [nf,List.lookup,h1,h2]
theorem CJ (p:Addr) (m:V) (k:Int):(nf p m k).lookup ("laps" : Str)=some (.int k):=by
 have h1:(("laps" : Str) == ("place" : Str))=false:=by decide +kernel
 have h2:(("laps" : Str) == ("mark" : Str))=false:=by decide +kernel
 have h3:(("laps" : Str) == ("laps" : Str))=true:=by decide +kernel
 simp only [nf,List.lookup,h1,h2,h3]
theorem aew (p:Addr) (m:V) (k:Int):gf "laps" (.int k) (gf "mark" m (gf "place" (.ref p) []))=nf p m k:=by
 have h1:¬("place" : Str)=("mark" : Str):=by decide +kernel
 have h2:¬("place" : Str)=("laps" : Str):=by decide +kernel
 have h3:¬("mark" : Str)=("laps" : Str):=by decide +kernel
 simp only [nf,gf,if_neg h1,if_neg h2,if_neg h3]
structure RJ (K:PySem.W.Frag) (C:Addr):Prop where
 cl:Uq K C
 place:gV K C "place"
 mark:gV K C "mark"
 laps:gV K C "laps"
noncomputable def fZ (C:Addr) (H:Hp) (a:Addr) (n:Node):Prop:=∃dx ap,H a=some (.ins C dx (nf ap (markV n.mark) n.k))∧cB H ap n.at_
theorem fZ.same {C:Addr} {H H':Hp} {a:Addr} {n:Node} (h:fZ C H a n) (s:aK H H'):fZ C H' a n:=by
 obtain ⟨dx,ap,h1,h2⟩:=h
 exact ⟨dx,ap,s _ _ h1,h2.same s⟩
noncomputable def gn (C:Addr) (H:Hp) (l:Addr) (ns:List Node):Prop:=∃as:List Addr,H l=some (.lst (as.map V.ref))∧Paired (fZ C H) as ns
theorem gn.same {C:Addr} {H H':Hp} {l:Addr} {ns:List Node} (h:gn C H l ns) (s:aK H H'):gn C H' l ns:=by
 obtain ⟨as,h1,h2⟩:=h
 exact ⟨as,s _ _ h1,bM h2 fun a _ b hb=>hb.same s⟩
noncomputable def tf (p:Addr) (m s h j:V):List (Str×V):=[("place",.ref p),("mark",m),("side",s),("halves",h),("just",j)]
theorem KC (p:Addr) (m s h j:V):(tf p m s h j).lookup ("place" : Str)=some (.ref p):=by
 have:(("place" : Str) == ("place" : Str))=true:=by decide +kernel
 simp only [tf,List.lookup,this]
theorem acQ (p:Addr) (m s h j:V):(tf p m s h j).lookup ("mark" : Str)=some m:=by
 have h1:(("mark" : Str) == ("place" : Str))=false:=by decide +kernel
 have h2:(("mark" : Str) == ("mark" : Str))=true:=by decide +kernel
 simp only [tf,List.lookup,h1,h2]
theorem YB (p:Addr) (m s h j:V):(tf p m s h j).lookup ("side" : Str)=some s:=by
 have h1:(("side" : Str) == ("place" : Str))=false:=by decide +kernel
 have h2:(("side" : Str) == ("mark" : Str))=false:=by decide +kernel
 have h3:(("side" : Str) == ("side" : Str))=true:=by decide +kernel
 simp only [tf,List.lookup,h1,h2,h3]
theorem Zy (p:Addr) (m s h j:V):(tf p m s h j).lookup ("halves" : Str)=some h:=by
 have h1:(("halves" : Str) == ("place" : Str))=false:=by decide +kernel
 have h2:(("halves" : Str) == ("mark" : Str))=false:=by decide +kernel
 have h3:(("halves" : Str) == ("side" : Str))=false:=by decide +kernel
 have h4:(("halves" : Str) == ("halves" : Str))=true:=by decide +kernel
 simp only [tf,List.lookup,h1,h2,h3,h4]
theorem acR (p:Addr) (m s h j:V):(tf p m s h j).lookup ("just" : Str)=some j:=by
 have h1:(("just" : Str) == ("place" : Str))=false:=by decide +kernel
 have h2:(("just" : Str) == ("mark" : Str))=false:=by decide +kernel
 have h3:(("just" : Str) == ("side" : Str))=false:=by decide +kernel
 have h4:(("just" : Str) == ("halves" : Str))=false:=by decide +kernel
 have h5:(("just" : Str) == ("just" : Str))=true:=by decide +kernel
 simp only [tf,List.lookup,h1,h2,h3,h4,h5]
theorem aex (p:Addr) (m s h j:V):gf "just" j (gf "halves" h (gf "side" s (gf "mark" m (gf "place" (.ref p) []))))=tf p m s h j:=by
 have h1:¬("place" : Str)=("mark" : Str):=by decide +kernel
 have h2:¬("place" : Str)=("side" : Str):=by decide +kernel
 have h3:¬("place" : Str)=("halves" : Str):=by decide +kernel
 have h4:¬("place" : Str)=("just" : Str):=by decide +kernel
 have h5:¬("mark" : Str)=("side" : Str):=by decide +kernel
 have h6:¬("mark" : Str)=("halves" : Str):=by decide +kernel
 have h7:¬("mark" : Str)=("just" : Str):=by decide +kernel
 have h8:¬("side" : Str)=("halves" : Str):=by decide +kernel
 have h9:¬("side" : Str)=("just" : Str):=by decide +kernel
 have h10:¬("halves" : Str)=("just" : Str):=by decide +kernel
 simp only [tf,gf,if_neg h1,if_neg h2,if_neg h3,if_neg h4,if_neg h5,if_neg h6,if_neg h7,if_neg h8,if_neg h9,if_neg h10]
structure acS (K:PySem.W.Frag) (C:Addr):Prop where
 cl:Uq K C
 place:gV K C "place"
 mark:gV K C "mark"
 side:gV K C "side"
 halves:gV K C "halves"
 just:gV K C "just"
noncomputable def jX (C:Addr) (H:Hp) (a:Addr) (x:Pt×Vbreab.Touch):Prop:=∃dx ap,H a=some (.ins C dx (tf ap (.int (x.2.mark:Nat)) (.int x.2.side) (.int (x.2.halves:Nat)) (.int (if x.2.just=true then 1 else 0))))∧cB H ap x.1
theorem jX.same {C:Addr} {H H':Hp} {a:Addr} {n:Pt×Vbreab.Touch} (h:jX C H a n) (s:aK H H'):jX C H' a n:=by
 obtain ⟨dx,ap,h1,h2⟩:=h
 exact ⟨dx,ap,s _ _ h1,h2.same s⟩
noncomputable def Qw (C:Addr) (H:Hp) (l:Addr) (ns:List (Pt×Vbreab.Touch)):Prop:=∃as:List Addr,H l=some (.lst (as.map V.ref))∧Paired (jX C H) as ns
section
variable {P:Program} {w:World} {K:PySem.W.Frag} {mg:Str→Option Value} {base:Heap} {f:Addr} {fd:FuncData} {CN CT:Addr}
noncomputable abbrev xP:Stmt:=inClass (top 32) 0
theorem RK:aW ["self","place","mark","laps"] ["self","place","mark","laps"] (aF xP):=⟨rfl,rfl,rfl,by decide +kernel,rfl,by decide +kernel,by decide +kernel⟩
inductive mH (C:Addr) (vs:List V) (H:Hp) (Q:VK) (E:XK):Prop where
 | mk (r ap dx:Addr) (m:V) (k:Int) (_:vs=[.ref r,.ref ap,m,.int k]) (_:H r=some (.ins C dx [])) (_:∀H',H' r=some (.ins C dx (nf ap m k))→Kp r H H'→Q .non H'):mH C vs H Q E
theorem RL (F:cI K "__init__" "Node.__init__" xP f fd) (T:Txt mg) (R:RJ K CN):cz P w K mg base fH 1 f fd ["self","place","mark","laps"] (mH CN):=by
 refine F.ok RK (fun vs H Q E h=>?_) (fun cdv A outer s H vs Q E hr h=>?_)
 ·obtain ⟨r,ap,dx,m,k,rfl,_⟩:=h
  rfl
 ·obtain ⟨r,ap,dx,m,z,rfl,h1,k⟩:=h
  refine ⟨_,(ao (jO (pv 0) (pv 1) rfl) (ao (jO (pv 0) (pv 2) rfl) (aB (jO (pv 0) (pv 3) rfl)))),?_⟩
  open_ks with [Nq,h1,HO.ins.injEq,aA,R.cl,R.place,R.mark,R.laps]
  refine ⟨by decide,Nat.lt_of_le_of_lt (dH _ _ _) (by decide),Nat.lt_of_le_of_lt (dH _ _ _) (Nat.lt_of_le_of_lt (Nat.add_le_add_right (dH _ _ _) 1) (by decide)),?_⟩
  rw [aew,sZ,sZ]
  exact k _ aA Kp.upd
noncomputable abbrev vU:Stmt:=inClass (top 33) 0
theorem NZ:aW ["self","place","mark","side","halves","just"] ["self","place","mark","side","halves","just"] (aF vU):=⟨rfl,rfl,rfl,by decide +kernel,rfl,by decide +kernel,by decide +kernel⟩
inductive uq (C:Addr) (vs:List V) (H:Hp) (Q:VK) (E:XK):Prop where
 | mk (r ap dx:Addr) (m a b c:V) (_:vs=[.ref r,.ref ap,m,a,b,c]) (_:H r=some (.ins C dx [])) (_:∀H',H' r=some (.ins C dx (tf ap m a b c))→Kp r H H'→Q .non H'):uq C vs H Q E
theorem N5 (F:cI K "__init__" "Touch.__init__" vU f fd) (T:Txt mg) (R:acS K CT):cz P w K mg base fH 1 f fd ["self","place","mark","side","halves","just"] (uq CT):=by
 refine F.ok NZ (fun vs H Q E h=>?_) (fun cdv A outer s H vs Q E hr h=>?_)
 ·obtain ⟨r,ap,dx,m,a,b,c,rfl,_⟩:=h
  rfl
 ·obtain ⟨r,ap,dx,m,x,y,z,rfl,h1,k⟩:=h
  refine ⟨_,(ao (jO (pv 0) (pv 1) rfl) (ao (jO (pv 0) (pv 2) rfl) (ao (jO (pv 0) (pv 3) rfl) (ao (jO (pv 0) (pv 4) rfl) (aB (jO (pv 0) (pv 5) rfl)))))),?_⟩
  open_ks with [Nq,h1,HO.ins.injEq,aA,R.cl,R.place,R.mark,R.side,R.halves,R.just]
  have l1:=dH "place" (V.ref ap) []
  have l2:=dH "mark" m (gf "place" (V.ref ap) [])
  have l3:=dH "side" x (gf "mark" m (gf "place" (V.ref ap) []))
  have l4:=dH "halves" y (gf "side" x (gf "mark" m (gf "place" (V.ref ap) [])))
  simp only [List.length_nil]at l1
  refine ⟨by omega,by omega,by omega,by omega,by omega,?_⟩
  rw [aex,sZ,sZ,sZ,sZ]
  exact k _ aA Kp.upd
noncomputable abbrev Fl:Stmt:=top 34
theorem WX:aW ["nodes","at"] ["nodes","at"] (aF Fl):=⟨rfl,rfl,rfl,by decide +kernel,rfl,by decide +kernel,by decide +kernel⟩
inductive vV (C:Addr) (vs:List V) (H:Hp) (Q:VK) (E:XK):Prop where
 | mk (l:Addr) (i:Nat) (ns:List Node) (u v w:Node) (_:vs=[.ref l,.int ((i:Int)+1)]) (_:gn C H l ns) (_:ns[i]?=some u) (_:ns[i+1]?=some v) (_:ns[i+2]?=some w) (_:N6 u.at_) (_:N6 v.at_) (_:N6 w.at_) (_:∀H' t,H t=none→H' t=some (.tup (Ks v.at_ u.at_ w.at_ v.k))→aK H H'→Q (.ref t) H'):vV C vs H Q E
theorem WY (R:RJ K CN) (F:cI K "turn_at" "turn_at" Fl f fd) (T:Txt mg) (xQ:ik P w K mg base "turn_past" 4 ["centre","before","behind","laps"] vP):cz P w K mg base fH 5 f fd ["nodes","at"] (vV CN):=by
 obtain ⟨_,_,N7,N8,Oa,Ob⟩:=xQ
 refine F.ok WX (fun vs H Q E h=>?_) (fun cdv A outer s H vs Q E hr h=>?_)
 ·obtain ⟨l,i,ns,u,v,w,rfl,_⟩:=h
  rfl
 ·obtain ⟨l,i,ns,u,v,w,rfl,⟨as,hl,pn⟩,hu,hv,hw,nu,nv,nw,k⟩:=h
  refine ⟨_,(aB (aH (aM N7 (hr.mono (by decide)) rfl N8 Oa Ob .nil aO (aj (bG (bA bB (pv 0) (pv 1) (fun _ _=>rfl)) rfl) (aj (bG (bA bB (pv 0) (bU dh (pv 1) aG) (fun _ _=>rfl)) rfl) (aj (bG (bA bB (pv 0) (bU d8 (pv 1) aG) (fun _ _=>rfl)) rfl) (aj (bG (bA bB (pv 0) (pv 1) (fun _ _=>rfl)) rfl) ak))))))),?_⟩
  obtain ⟨au,hau,dxu,apu,hou,hpu⟩:=bc pn hu
  obtain ⟨av,hav,dxv,apv,hov,hpv⟩:=bc pn hv
  obtain ⟨aw,haw,dxw,apw,how,hpw⟩:=bc pn hw
  have iu:oO (as.map V.ref) ((i:Int)+1-1)=some (.ref au):=at_of (j:=i) (by omega) (by rw [List.getElem?_map,hau];rfl)
  have iv:oO (as.map V.ref) ((i:Int)+1)=some (.ref av):=at_of (j:=i+1) (by omega) (by rw [List.getElem?_map,hav];rfl)
  have iw:oO (as.map V.ref) ((i:Int)+1+1)=some (.ref aw):=at_of (j:=i+2) (by omega) (by rw [List.getElem?_map,haw];rfl)
  open_ks with [gj,gh]
  refine ⟨_,b7.of hl,_,iv,?_⟩
  open_ks with [hov,HO.ins.injEq,R.cl,R.place,R.mark,R.laps,jw,CG,CJ]
  refine ⟨_,b7.of hl,_,iu,_,rfl,_,_,_,hou,R.cl,R.place,_,jw _ _ _,_,b7.of hl,_,iw,_,rfl,_,_,_,how,R.cl,R.place,_,jw _ _ _,_,b7.of hl,_,iv,_,rfl,_,_,_,hov,R.cl,R.laps,_,CJ _ _ _,?_⟩
  exact ⟨apv,apu,apw,v.at_,u.at_,w.at_,v.k,rfl,hpv,hpu,hpw,nv,nu,nw,k⟩
noncomputable abbrev Fo:Stmt:=top 35
theorem W0:aW ["nodes","at"] ["nodes","at"] (aF Fo):=⟨rfl,rfl,rfl,by decide +kernel,rfl,by decide +kernel,by decide +kernel⟩
noncomputable def YC (u v w:Node):Bool:=v.mark.isSome&&decide (1≤az.wJ (az.jL v.at_ u.at_ w.at_ v.k) (az.jR v.at_ u.at_ w.at_))
inductive Am (C:Addr) (vs:List V) (H:Hp) (Q:VK) (E:XK):Prop where
 | mk (l:Addr) (i:Nat) (ns:List Node) (u v w:Node) (_:vs=[.ref l,.int ((i:Int)+1)]) (_:gn C H l ns) (_:ns[i]?=some u) (_:ns[i+1]?=some v) (_:ns[i+2]?=some w) (_:N6 u.at_) (_:N6 v.at_) (_:N6 w.at_) (_:∀H',aK H H'→Q (.bl (YC u v w)) H'):Am C vs H Q E
theorem W2 (R:RJ K CN) (F:cI K "is_held" "is_held" Fo f fd) (T:Txt mg) (qL:ik P w K mg base "turn_at" 5 ["nodes","at"] (vV CN)):cz P w K mg base fH 6 f fd ["nodes","at"] (Am CN):=by
 obtain ⟨_,_,xR,xT,xU,xV⟩:=qL
 refine F.ok W0 (fun vs H Q E h=>?_) (fun cdv A outer s H vs Q E hr h=>?_)
 ·obtain ⟨l,i,ns,u,v,w,rfl,_⟩:=h
  rfl
 ·obtain ⟨l,i,ns,u,v,w,rfl,hn,hu,hv,hw,nu,nv,nw,k⟩:=h
  refine ⟨_,(aB (aH (vB (fQ Jc (bG (bA bB (pv 0) (pv 1) (fun _ _=>rfl)) rfl) eU (bQ _)) (pD (fQ Up (bA vD (aM xR (hr.mono (by decide)) rfl xT xU xV .nil aO (aj (pv 0) (aj (pv 1) ak))) aG (fun _ _=>rfl)) aG (bQ _)))))),?_⟩
  obtain ⟨as,hl,pn⟩:=id hn
  obtain ⟨av,hav,dxv,apv,hov,hpv⟩:=bc pn hv
  have iv:oO (as.map V.ref) ((i:Int)+1)=some (.ref av):=at_of (j:=i+1) (by omega) (by rw [List.getElem?_map,hav];rfl)
  open_ks with [gj,gh]
  refine ⟨_,b7.of hl,_,iv,?_⟩
  open_ks with [hov,HO.ins.injEq,R.cl,R.place,R.mark,R.laps,jw,CG,CJ]
  unfold YC at k
  cases hm:v.mark with
  | none=>
   rw [hm]at k
   open_ks with [markV]
   exact k H (aK.refl H)
  | some m=>
   rw [hm]at k
   open_ks with [markV]
   refine ⟨l,i,ns,u,v,w,rfl,hn,hu,hv,hw,nu,nv,nw,fun H1 t ht h1 s1=>?_⟩
   have i1:oO (Ks v.at_ u.at_ w.at_ v.k) 1=some (.int (az.wJ (az.jL v.at_ u.at_ w.at_ v.k) (az.jR v.at_ u.at_ w.at_))):=at_of (j:=1) rfl rfl
   open_ks with [aa7]
   refine ⟨_,zj.of h1,_,i1,?_⟩
   open_ks with []
   exact k H1 s1
noncomputable abbrev Ao:Stmt:=top 36
theorem G8:aW ["nodes","at","told"] ["nodes","at"] (aF Ao):=⟨rfl,rfl,rfl,by decide +kernel,rfl,by decide +kernel,by decide +kernel⟩
inductive xW (C CT:Addr) (vs:List V) (H:Hp) (Q:VK) (E:XK):Prop where
 | mk (l:Addr) (i:Nat) (ns:List Node) (u v w:Node) (x:Pt×Vbreab.Touch) (_:vs=[.ref l,.int ((i:Int)+1)]) (_:gn C H l ns) (_:ns[i]?=some u) (_:ns[i+1]?=some v) (_:ns[i+2]?=some w) (_:N6 u.at_) (_:N6 v.at_) (_:N6 w.at_) (_:v.mark=some x.2.mark) (_:x.1=v.at_) (_:az.GZ (az.jL v.at_ u.at_ w.at_ v.k)=x.2.side) (_:az.wJ (az.jL v.at_ u.at_ w.at_ v.k) (az.jR v.at_ u.at_ w.at_)=(x.2.halves:Int)) (_:az.jR v.at_ u.at_ w.at_=(if x.2.just=true then 1 else 0)) (_:∀H' t,H t=none→jX CT H' t x→aK H H'→Q (.ref t) H'):xW C CT vs H Q E
theorem U8 (R:RJ K CN) (F:cI K "touch_at" "touch_at" Ao f fd) (T:Txt mg) (qL:ik P w K mg base "turn_at" 5 ["nodes","at"] (vV CN)) (RM:Mak P w K mg base "Touch" CT 1 ["self","place","mark","side","halves","just"] (uq CT)):cz P w K mg base fH 6 f fd ["nodes","at"] (xW CN CT):=by
 obtain ⟨_,_,xR,xT,xU,xV⟩:=qL;obtain ⟨_,_,Zz,ZC,ZD,ZF⟩:=RM
 refine F.ok G8 (fun vs H Q E h=>?_) (fun cdv A outer s H vs Q E hr h=>?_)
 ·obtain ⟨l,i,ns,u,v,w,x,rfl,_⟩:=h
  rfl
 ·obtain ⟨l,i,ns,u,v,w,x,rfl,hn,hu,hv,hw,nu,nv,nw,e1,e2,e3,e4,e5,k⟩:=h
  refine ⟨_,(ao (aY (i:=2) G8.nd rfl (Or.inl rfl) (aM xR (hr.mono (by decide)) rfl xT xU xV .nil aO (aj (pv 0) (aj (pv 1) ak)))) (aB (aH (Ce ZD Zz (hr.mono (by decide)) rfl ZC ZF .nil aO (aj (bG (bA bB (pv 0) (pv 1) (fun _ _=>rfl)) rfl) (aj (bG (bA bB (pv 0) (pv 1) (fun _ _=>rfl)) rfl) (aj (bA vD (pv 2) aG (fun _ _=>rfl)) (aj (bA vD (pv 2) aG (fun _ _=>rfl)) (aj (bA vD (pv 2) aG (fun _ _=>rfl)) ak))))))))),?_⟩
  open_ks with []
  refine ⟨l,i,ns,u,v,w,rfl,hn,hu,hv,hw,nu,nv,nw,fun H1 t ht h1 s1=>?_⟩
  obtain ⟨as,hl,pn⟩:=hn.same s1
  obtain ⟨av,hav,dxv,apv,hov,hpv⟩:=bc pn hv
  have iv:oO (as.map V.ref) ((i:Int)+1)=some (.ref av):=at_of (j:=i+1) (by omega) (by rw [List.getElem?_map,hav];rfl)
  have i0:oO (Ks v.at_ u.at_ w.at_ v.k) 0=some (.int (az.GZ (az.jL v.at_ u.at_ w.at_ v.k))):=at_of (j:=0) rfl rfl
  have i1:oO (Ks v.at_ u.at_ w.at_ v.k) 1=some (.int (az.wJ (az.jL v.at_ u.at_ w.at_ v.k) (az.jR v.at_ u.at_ w.at_))):=at_of (j:=1) rfl rfl
  have i2:oO (Ks v.at_ u.at_ w.at_ v.k) 2=some (.int (az.jR v.at_ u.at_ w.at_)):=at_of (j:=2) rfl rfl
  open_ks with [gj,aa7,gh,J1]
  refine ⟨_,b7.of hl,_,iv,_,rfl,_,_,_,hov,R.cl,R.place,_,jw _ _ _,_,b7.of hl,_,iv,_,rfl,_,_,_,hov,R.cl,R.mark,_,CG _ _ _,_,zj.of h1,_,i0,_,zj.of h1,_,i1,_,zj.of h1,_,i2,?_⟩
  intro y dx ny nd ne
  refine ⟨y,apv,dx,_,_,_,_,rfl,aA,fun H2 h2 kp=>⟨rfl,?_⟩⟩
  have sm:aK H1 H2:=aK.made ny nd kp
  refine k H2 y (s1.free ny) ⟨dx,apv,?_,by rw [e2];exact hpv.same sm⟩ (s1.trans sm)
  rw [h2,e1,e3,e4,e5]
  rfl
noncomputable abbrev KD:Stmt:=top 37
theorem ZG:aW ["node","a","b"] ["node","a","b"] (aF KD):=⟨rfl,rfl,rfl,by decide +kernel,rfl,by decide +kernel,by decide +kernel⟩
inductive Fp (C:Addr) (vs:List V) (H:Hp) (Q:VK) (E:XK):Prop where
 | mk (x a1 a2:Addr) (n:Node) (a b:Pt) (_:vs=[.ref x,.ref a1,.ref a2]) (_:fZ C H x n) (_:cB H a1 a) (_:cB H a2 b) (_:N6 n.at_) (_:N6 a) (_:N6 b) (_:∀H' t,fZ C H' t (az.qP n a b)→aK H H'→Q (.ref t) H'):Fp C vs H Q E
theorem ZJ (R:RJ K CN) (F:cI K "turned" "turned" KD f fd) (T:Txt mg) (gM:ik P w K mg base "ray_crossing" 3 ["a","b","place"] jW) (vW:Mak P w K mg base "Node" CN 1 ["self","place","mark","laps"] (mH CN)):cz P w K mg base fH 4 f fd ["node","a","b"] (Fp CN):=by
 obtain ⟨_,_,nH,nJ,nM,nO⟩:=gM;obtain ⟨_,_,xX,xY,xZ,yc⟩:=vW
 refine F.ok ZG (fun vs H Q E h=>?_) (fun cdv A outer s H vs Q E hr h=>?_)
 ·obtain ⟨x,a1,a2,n,a,b,rfl,_⟩:=h
  rfl
 ·obtain ⟨x,a1,a2,n,a,b,rfl,hn,h1,h2,nn,na,nb,k⟩:=h
  obtain ⟨dx,ap,hx,hp⟩:=id hn
  refine ⟨_,(ao (cC (bV tW (bG (pv 0) rfl) eU (bQ _)) (aB (aH (pv 0))) bH) (aB (aH (Ce xZ xX (hr.mono (by decide)) rfl xY yc .nil aO (aj (bG (pv 0) rfl) (aj (bG (pv 0) rfl) (aj (bU d8 (bG (pv 0) rfl) (aM nH (hr.mono (by decide)) rfl nJ nM nO .nil aO (aj (pv 1) (aj (pv 2) (aj (bG (pv 0) rfl) ak))))) ak))))))),?_⟩
  cases hm:n.mark with
  | none=>
   rw [hm]at hx
   open_ks with [gh,hx,HO.ins.injEq,R.cl,R.place,R.mark,R.laps,jw,CG,CJ,markV]
   refine k H x ?_ (aK.refl H)
   rw [az.zT hm];exact hn
  | some m=>
   rw [hm]at hx
   open_ks with [gh,hx,HO.ins.injEq,R.cl,R.place,R.mark,R.laps,jw,CG,CJ,markV,J1,jW,h1.iff,h2.iff,hp.iff,na,nb,nn]
   intro y dy ny nd ne
   refine ⟨y,ap,dy,_,_,rfl,aA,fun H2 h3 kp=>⟨rfl,?_⟩⟩
   have sm:aK H H2:=aK.made ny nd kp
   refine k H2 y ⟨dy,ap,?_,?_⟩ sm
   ·rw [h3,az.vz hm,az.Y7]
    show _=some (HO.ins CN dy (nf ap (markV n.mark) _))
    rw [hm]
    rfl
   ·rw [az.vz hm];exact hp.same sm
end
theorem cB.stay {H H':Hp} {D a:Addr} {acc:List V} {p:Pt} (h:cB H a p) (hD:H D=some (.lst acc)) (k:∀a o,a≠D→H a=some o→H' a=some o):cB H' a p:=
 k _ _ (ji h hD (by intro z;cases z)) h
theorem fZ.stay {C:Addr} {H H':Hp} {D a:Addr} {acc:List V} {n:Node} (h:fZ C H a n) (hD:H D=some (.lst acc)) (k:∀a o,a≠D→H a=some o→H' a=some o):fZ C H' a n:=by
 obtain ⟨dx,ap,h1,h2⟩:=h
 exact ⟨dx,ap,k _ _ (ji h1 hD (by intro z;cases z)) h1,h2.stay hD k⟩
noncomputable def kL (l:Bool):Int:=if l=true then 0 else -1
noncomputable def RP (l:Bool) (row:List (Pt×Nat)):List Node:=row.map fun x=>⟨x.1,some x.2,kL l⟩
theorem W3 (ms:List Pt) (u v w:Pt):RP (decide (0<Vbreab.side u v w)) (az.rowOf ms u v w)=az.bD ms u v w:=rfl
theorem U9:∀(l:List Node) (t w:Pt) (i:Nat) (v:Node) (p q:Pt),l[i]?=some v→(t::(l.map (·.at_)++[w]))[i]?=some p→(t::(l.map (·.at_)++[w]))[i+2]?=some q→(az.cY t l w)[i]?=some (az.fV p v q)
 | [],t,w,i,v,p,q,h,_,_=>by simp at h
 | x::l,t,w,0,v,p,q,h,h1,h2=>by
  simp at h h1
  subst h;subst h1
  simp only [az.cY,List.getElem?_cons_zero]
  congr 1
  cases l with
  | nil=>simp at h2;rw [h2];rfl
  | cons y l=>simp at h2;rw [←h2];rfl
 | x::l,t,w,i+1,v,p,q,h,h1,h2=>by
  simp only [az.cY,List.getElem?_cons_succ]
  refine U9 l x.at_ w i v p q (by simpa using h) ?_ ?_
  ·simpa using h1
  ·simpa using h2
theorem YD (l:Bool) (row:List (Pt×Nat)):(RP l row).map (·.at_)=row.map (·.1):=by unfold RP;rw [List.map_map];rfl
theorem abt (l:Bool) (c p q:Pt) (m:Nat):Yx c p q (az.sg l)=(az.fV p ⟨c,some m,kL l⟩ q).k:=by
 unfold Yx az.fV kL az.sg
 cases l<;>simp<;>omega
section
variable {P:Program} {w:World} {K:PySem.W.Frag} {mg:Str→Option Value} {base:Heap} {f:Addr} {fd:FuncData} {CN CT:Addr}
noncomputable abbrev oW:Stmt:=top 38
theorem fM:aW ["u","numbers","w","side","marks","places","nodes","k","number"] ["u","numbers","w","side","marks"] (aF oW):=⟨rfl,rfl,rfl,by decide +kernel,rfl,by decide +kernel,by decide +kernel⟩
inductive rC (C:Addr) (vs:List V) (H:Hp) (Q:VK) (E:XK):Prop where
 | mk (a1 al a2 am:Addr) (u w:Pt) (L:Bool) (row:List (Pt×Nat)) (ms:List Pt) (_:vs=[.ref a1,.ref al,.ref a2,.int (az.sg L),.ref am]) (_:cB H a1 u) (_:cB H a2 w) (_:N6 u) (_:N6 w) (_:H al=some (.lst (pM row))) (_:cu H am ms) (_:jC ms) (_:(∀x∈row,ms[x.2]?=some x.1)) (_:row.length≤1000) (_:∀H' p,H p=none→gn C H' p (az.cY u (RP L row) w)→aK H H'→Q (.ref p) H'):rC C vs H Q E
theorem KH (F:cI K "nodes_along" "nodes_along" oW f fd) (T:Txt mg) (yd:ik P w K mg base "laps_past" 3 ["centre","before","behind","side"] vR) (vW:Mak P w K mg base "Node" CN 1 ["self","place","mark","laps"] (mH CN)):cz P w K mg base fH 4 f fd ["u","numbers","w","side","marks"] (rC CN):=by
 obtain ⟨_,_,Oc,Od,Oe,Og⟩:=yd;obtain ⟨_,_,xX,xY,xZ,yc⟩:=vW
 refine F.ok fM (fun vs H Q E h=>?_) (fun cdv A outer s H vs Q E hr h=>?_)
 ·obtain ⟨a1,al,a2,am,u,w,L,row,ms,rfl,_⟩:=h
  rfl
 ·obtain ⟨a1,al,a2,am,u,w,L,row,ms,rfl,h1,h2,n1,n2,hl,⟨as,hm,pm⟩,nm,hrow,hlen,k⟩:=h
  refine ⟨_,(ao (aY (i:=5) fM.nd rfl (Or.inl rfl) (bU j5 (bU j5 (bL (aj (pv 0) ak)) (qX (own:=[("number",8)]) rfl fM.nd (jA (pv 1)) (eE (N:=["u","numbers","w","side","marks","places","nodes","k","number"]) (sc:=aF oW) (by decide +kernel)) (fun _ _ _ _ _=>(cA (i:=8) fM.nd rfl (Or.inl rfl))) (fun _ _ _ _ _=>jV) (fun _ _ _ _ _=>(bA (show Wt _ (gj K) from bB) (pv 4) (pv 8) (fun _ _=>rfl))))) (bL (aj (pv 2) ak)))) (ao (aY (i:=6) fM.nd rfl (Or.inl rfl) (bL ak)) (ao (vC PassesOwn.never rfl (Ck rfl T.ph (aj (pv 1) ak)) (qR rfl (cR (cA (i:=7) fM.nd rfl (Or.inl rfl)) (cR (cA (i:=8) fM.nd rfl (Or.inl rfl)) lK))) (aB (gU (uR PySem.F.plainAttrs_list PySem.F.slot_list_append PySem.F.type_list_append jB (pv 6) (aj (Ce xZ xX (hr.mono (by decide)) rfl xY yc .nil aO (aj (bA bB (pv 5) (bU d8 (pv 7) aG) (fun _ _=>rfl)) (aj (pv 8) (aj (aM Oc (hr.mono (by decide)) rfl Od Oe Og .nil aO (aj (bA bB (pv 5) (bU d8 (pv 7) aG) (fun _ _=>rfl)) (aj (bA bB (pv 5) (pv 7) (fun _ _=>rfl)) (aj (bA bB (pv 5) (bU d8 (pv 7) aG) (fun _ _=>rfl)) (aj (pv 3) ak))))) ak)))) ak))))) (aB (aH (pv 6)))))),?_⟩
  open_ks with []
  refine ⟨by decide,fun l1 hl1=>?_⟩
  have s1:aK H (upd H l1 (.lst [.ref a1])):=aK.new hl1
  refine ⟨⟨_,b7.of (s1 _ _ hl)⟩,?_⟩
  refine gK.rel (n:=(pM row).length) (fun i=>(row.map (·.1))[i]?) PtV PtV.stay (by rw [pB];omega) (vH (b7.of (s1 _ _ hl))) (fun i H2 x H' R R' hi sm hy hR _=>?_) (fun D H2 ys hD hH hp sm=>?_)
  ·obtain ⟨rfl,hy⟩:=hy
   have s2:=s1.trans sm
   have hx:=hy _ (b7.of (s2 _ _ hl))
   rw [pB]at hi
   obtain ⟨y,hyr⟩:∃y,row[i]?=some y:=⟨_,List.getElem?_eq_getElem hi⟩
   rw [RG hyr]at hx
   cases hx
   obtain ⟨ay,hay,py⟩:=bc pm (hrow y (List.mem_of_getElem? hyr))
   have i1:oO (as.map V.ref) ((y.2:Nat):Int)=some (.ref ay):=at_of (j:=y.2) rfl (by rw [List.getElem?_map,hay];rfl)
   open_ks with [wipe,Ex,gj]
   exact ⟨_,b7.of (s2 _ _ hm),_,i1,hR _ y.1 _ (by rw [List.getElem?_map,hyr];rfl) ⟨ay,rfl,py.same s2⟩ (aK.refl _)⟩
  ·rw [pB,show row.length=(row.map (·.1)).length by simp,eY]at hp
   obtain ⟨bs,rfl,pb⟩:=Rz hp
   have s2:=s1.trans sm
   have hl1':H2 l1=some (.lst [.ref a1]):=sm _ _ aA
   have lb:bs.length=row.length:=by rw [bC pb,List.length_map]
   have z1:([V.ref a1]:List V).length+(bs.map V.ref).length≤sizeLine:=by simp only [List.length_map,List.length_cons,List.length_nil];rw [lb];exact Nat.le_trans (by omega:0+1+row.length≤2000) (by decide)
   open_ks with [aee,hl1',hH,HO.lst.injEq]
   have z2:1+(bs.map V.ref).length≤sizeLine:=by rw [List.length_map,lb];exact Nat.le_trans (by omega:1+row.length≤2000) (by decide)
   refine ⟨z2,fun l3 hl3=>⟨by decide,fun l4 hl4=>?_⟩⟩
   have s3:aK H2 (upd H2 l3 (.lst (V.ref a1::bs.map V.ref))):=aK.new hl3
   have s4:aK (upd H2 l3 (.lst (V.ref a1::bs.map V.ref))) (upd (upd H2 l3 (.lst (V.ref a1::bs.map V.ref))) l4 (.lst [V.ref a2])):=aK.new hl4
   have n34:l3≠l4:=by rintro rfl;rw [aA]at hl4;cases hl4
   refine ⟨_,by rw [aJ n34,aA],_,aA,?_,fun lp hlp ln hln=>?_⟩
   ·simp only [List.length_cons,List.length_map,List.length_nil]
    rw [lb];exact Nat.le_trans (by omega:row.length+1+(0+1)≤2000) (by decide)
   generalize hH4:upd (upd H2 l3 (.lst (V.ref a1::bs.map V.ref))) l4 (.lst [V.ref a2])=H4 at *
   have s24:aK H2 H4:=s3.trans s4
   have s5:aK H4 (upd H4 lp (.lst (V.ref a1::bs.map V.ref++[V.ref a2]))):=aK.new hlp
   generalize hH5:upd H4 lp (.lst (V.ref a1::bs.map V.ref++[V.ref a2]))=H5 at *
   have s6:aK H5 (upd H5 ln (.lst [])):=aK.new hln
   have af4:H5 lp=some (.lst (V.ref a1::bs.map V.ref++[V.ref a2])):=by rw [←hH5,aA]
   have s05:aK H H5:=(s2.trans s24).trans s5
   refine ⟨_,b7.of (s6 _ _ (s05 _ _ hl)),?_⟩
   have aeA:Paired (cB H5) (a1::(bs++[a2])) (u::(row.map (·.1)++[w])):=
    .cons (h1.same s05) (lA (bM pb fun a _ b hb=>hb.same (s24.trans s5)) (h2.same s05))
   have ahs:V.ref a1::bs.map V.ref++[V.ref a2]=(a1::(bs++[a2])).map V.ref:=by simp
   rw [ahs]at af4
   have aeB:∀p∈u::(row.map (·.1)++[w]),N6 p:=by
    intro p hp
    simp only [List.mem_cons,List.mem_append,List.mem_map,List.mem_singleton,List.not_mem_nil,or_false]at hp
    rcases hp with rfl | ⟨x,hx,rfl⟩ | rfl
    ·exact n1
    ·exact nm _ (List.mem_of_getElem? (hrow x hx))
    ·exact n2
   have af5:(az.cY u (RP L row) w).length=row.length:=by rw [az.gR];unfold RP;rw [List.length_map]
   refine Loop.enum (xs:=pM row) (fun i σ H'=>∃v7 v8 cs,σ=[some (.ref a1),some (.ref al),some (.ref a2),some (.int (az.sg L)),some (.ref am),some (.ref lp),some (.ref ln),v7,v8]∧H' ln=some (.lst (cs.map V.ref))∧Paired (fZ CN H') cs ((az.cY u (RP L row) w).take i)∧aK H5 H')
    ⟨none,none,[],rfl,aA,by simpa using Paired.nil,s6⟩ (fun i σ H' _ ⟨_,_,_,_,_,_,sm⟩=>b7.of (sm _ _ (s05 _ _ hl))) ?_ ?_
   ·rintro i x σ H' T0 hx ⟨v7,v8,cs,rfl,hcs,Qx,sm⟩ hT
    have hi:i<row.length:=by rw [←pB];exact (List.getElem?_eq_some_iff.1 hx).1
    obtain ⟨y,hyr⟩:∃y,row[i]?=some y:=⟨_,List.getElem?_eq_getElem hi⟩
    rw [RG hyr]at hx
    cases hx
    have s7:aK H' (upd H' T0 (.tup [.int (i:Nat),.int (y.2:Nat)])):=aK.new hT
    have hy1:(u::(row.map (·.1)++[w]))[i+1]?=some y.1:=by
     rw [List.getElem?_cons_succ,List.getElem?_append_left (by rw [List.length_map];exact hi),List.getElem?_map,hyr];rfl
    obtain ⟨p,hp⟩:∃p,(u::(row.map (·.1)++[w]))[i]?=some p:=⟨_,List.getElem?_eq_getElem (by simp;omega)⟩
    obtain ⟨q,hq⟩:∃q,(u::(row.map (·.1)++[w]))[i+2]?=some q:=⟨_,List.getElem?_eq_getElem (by simp;omega)⟩
    obtain ⟨ap,hap,pp⟩:=bc aeA hp
    obtain ⟨ay,hay,py⟩:=bc aeA hy1
    obtain ⟨aq,Hq,pq⟩:=bc aeA hq
    have ip:oO ((a1::(bs++[a2])).map V.ref) (i:Int)=some (.ref ap):=at_of (j:=i) rfl (by rw [List.getElem?_map,hap];rfl)
    have iy:oO ((a1::(bs++[a2])).map V.ref) ((i:Int)+1)=some (.ref ay):=at_of (j:=i+1) (by omega) (by rw [List.getElem?_map,hay];rfl)
    have iq:oO ((a1::(bs++[a2])).map V.ref) ((i:Int)+2)=some (.ref aq):=at_of (j:=i+2) (by omega) (by rw [List.getElem?_map,Hq];rfl)
    have np:=aeB p (List.mem_of_getElem? hp)
    have ny:=aeB y.1 (List.mem_of_getElem? hy1)
    have nq:=aeB q (List.mem_of_getElem? hq)
    refine ⟨T0,_,rfl,zj.of aA,rfl,?_⟩
    have af6:=s7 _ _ hcs
    have ty:=Yw (K:=K) af6
    have sp7:=s7 _ _ (sm _ _ af4)
    open_ks with [wL,Ho,tBM,qu,ty,gj,J1]
    refine ⟨_,b7.of sp7,_,iy,_,b7.of sp7,_,iy,_,b7.of sp7,_,ip,_,b7.of sp7,_,iq,?_⟩
    refine ⟨ay,ap,aq,y.1,p,q,az.sg L,rfl,(py.same sm).same s7,(pp.same sm).same s7,(pq.same sm).same s7,ny,np,nq,?_⟩
    intro z dz nz nd ne
    refine ⟨z,ay,dz,_,_,rfl,aA,fun H6 h6 kp=>⟨rfl,?_⟩⟩
    have s8:aK (upd H' T0 (.tup [.int (i:Nat),.int (y.2:Nat)])) H6:=aK.made nz nd kp
    have abu:=s8 _ _ af6
    have z9:(cs.map V.ref).length<sizeLine:=by
     have:=bC Qx
     rw [List.length_take,af5]at this
     rw [List.length_map]
     exact Nat.lt_of_le_of_lt (show cs.length≤1000 by omega) (by decide)
    open_ks with [abu,HO.lst.injEq,z9]
    have k9:∀a o,a≠ln→H6 a=some o→(upd H6 ln (.lst (cs.map V.ref++[V.ref z]))) a=some o:=fun a o ha h=>by rw [aJ ha];exact h
    have hat:=U9 (RP L row) u w i ⟨y.1,some y.2,kL L⟩ p q (by unfold RP;rw [List.getElem?_map,hyr];rfl) (by rw [YD];exact hp) (by rw [YD];exact hq)
    have s78:=s7.trans s8
    refine ⟨cs++[z],?_,?_,?_⟩
    ·rw [aA,List.map_append];rfl
    ·rw [take_snoc hat]
     refine lA (bM Qx fun a _ b hb=>(hb.same s78).stay abu k9) ?_
     refine fZ.stay ⟨dz,ay,?_,?_⟩ abu k9
     ·rw [h6,abt L y.1 p q y.2];rfl
     ·exact ((py.same sm).same s7).same s8
    ·intro b o hb
     rw [aJ (bw hb hln)]
     exact s78 _ _ (sm _ _ hb)
   ·rintro σ H' ⟨v7,v8,cs,rfl,hcs,Qx,sm⟩
    rw [pB,←af5,List.take_length]at Qx
    open_ks with []
    exact k H' ln (s05.free hln) ⟨cs,hcs,Qx⟩ (s05.trans sm)
end
theorem abv {tt:TT} {tb tc:TE} {σ:L2.St} {H:Hp} {Q:VK} (z:V) (h:∀Q':VK,Q' z H→tIf tt tb tc σ H Q') (hq:Q z H):tIf tt tb tc σ H Q:=h Q hq
theorem ZK {ms:List Pt} {u v w:Node}:(az.cY u.at_ (az.bD ms u.at_ v.at_ w.at_) w.at_).length=(az.rowOf ms u.at_ v.at_ w.at_).length:=by
 rw [az.gR];unfold az.bD;rw [List.length_map]
theorem Va (t w:Pt):∀l:List Node,az.firstOf (az.cY t l w) w=az.firstOf l w
 | []=>rfl
 | x::l=>rfl
theorem KJ:∀(l:List Node) (t w u:Pt),az.lastOf (az.cY t l w) u=az.lastOf l u
 | [],_,_,_=>rfl
 | x::l,t,w,u=>by
  rw [az.cY,az.w6,az.w6,KJ l];rfl
theorem yW (ms:List Pt) (u v w:Pt):(az.rowOf ms u v w).length≤ms.length+1:=by
 unfold az.rowOf
 generalize az.cX ms u v w=l
 generalize ms.length+1=n
 have:∀(n:Nat) (c:Pt) (l:List (Pt×Nat)) (b:Bool),(Vbreab.hug b n c l w).length≤n:=by
  intro n
  induction n with
  | zero=>intro c l b;simp [Vbreab.hug]
  | succ n ih=>
   intro c l b
   rw [az.Bw]
   split
   ·simp
   ·simp only [List.length_cons];exact Nat.succ_le_succ (ih _ _ _)
 exact this n u l _
theorem ye {α β:Type} {F:α→β→Prop}:∀{l:List α} {m:List β} {b:β},Paired F l (m++[b])→∃l' a,l=l'++[a]∧Paired F l' m∧F a b
 | _,[],b,.cons h .nil=>⟨[],_,rfl,.nil,h⟩
 | _,x::m,b,.cons h t=>by
  obtain ⟨l',a,e,h1,h2⟩:=ye t
  exact ⟨_::l',a,by rw [e];rfl,.cons h h1,h2⟩
theorem W4 (l:List Node) (w:Node):∃n,(l++[w])[0]?=some n∧n.at_=az.firstOf l w.at_:=by
 cases l with
 | nil=>exact ⟨w,rfl,rfl⟩
 | cons x l=>exact ⟨x,rfl,rfl⟩
theorem gn.pair {C:Addr} {H H':Hp} {as:List Addr} {ns:List Node} (h:Paired (fZ C H) as ns) (s:aK H H'):Paired (fZ C H') as ns:=bM h fun a _ b hb=>hb.same s
section
variable {P:Program} {w:World} {K:PySem.W.Frag} {mg:Str→Option Value} {base:Heap} {f:Addr} {fd:FuncData} {CN CT:Addr}
noncomputable abbrev nQ:Stmt:=top 39
theorem cT:aW ["before","corner","behind","marks","u","v","w","side","caught","first","last"] ["before","corner","behind","marks"] (aF nQ):=⟨rfl,rfl,rfl,by decide +kernel,rfl,by decide +kernel,by decide +kernel⟩
inductive mJ (C:Addr) (vs:List V) (H:Hp) (Q:VK) (E:XK):Prop where
 | mk (x y z am:Addr) (u v w:Node) (ms:List Pt) (_:vs=[.ref x,.ref y,.ref z,.ref am]) (_:fZ C H x u) (_:fZ C H y v) (_:fZ C H z w) (_:N6 u.at_) (_:N6 v.at_) (_:N6 w.at_) (_:cu H am ms) (_:az.bK ms) (_:ms.length≤16) (_:∀H' l,H l=none→gn C H' l (az.Q9 ms u v w)→aK H H'→Q (.ref l) H'):mJ C vs H Q E
theorem CK (R:RJ K CN) (F:cI K "drawn_straight" "drawn_straight" nQ f fd) (T:Txt mg) (eX:ik P w K mg base "turn" 1 ["a","b","place"] gk) (rD:ik P w K mg base "caught_marks" 4 ["u","v","w","side","marks"] pN) (ur:ik P w K mg base "nodes_along" 4 ["u","numbers","w","side","marks"] (rC CN)) (KN:ik P w K mg base "turned" 4 ["node","a","b"] (Fp CN)):cz P w K mg base fH 5 f fd ["before","corner","behind","marks"] (mJ CN):=by
 obtain ⟨_,_,dI,dJ,dM,dN⟩:=eX;obtain ⟨_,_,Fq,Ft,Fv,Fw⟩:=rD;obtain ⟨_,_,Hu,Hv,Hw,Hx⟩:=ur;obtain ⟨_,_,KQ,KR,KY,KZ⟩:=KN
 refine F.ok cT (fun vs H Q E h=>?_) (fun cdv A outer s H vs Q E hr h=>?_)
 ·obtain ⟨x,y,z,am,u,v,w,ms,rfl,_⟩:=h
  rfl
 ·obtain ⟨x,y,z,am,u,v,w,ms,rfl,hx,hy,hz,nu,nv,nw,hm,jM,j4,k⟩:=h
  obtain ⟨dxu,apu,hou,hpu⟩:=id hx
  obtain ⟨dxv,apv,hov,hpv⟩:=id hy
  obtain ⟨dxw,apw,how,hpw⟩:=id hz
  refine ⟨_,(ao (aY (i:=4) cT.nd rfl (Or.inl rfl) (bG (pv 0) rfl)) (ao (aY (i:=5) cT.nd rfl (Or.inl rfl) (bG (pv 1) rfl)) (ao (aY (i:=6) cT.nd rfl (Or.inl rfl) (bG (pv 2) rfl)) (ao (aY (i:=7) cT.nd rfl (Or.inl rfl) (o7 (bV xm (aM dI (hr.mono (by decide)) rfl dJ dM dN .nil aO (aj (pv 4) (aj (pv 5) (aj (pv 6) ak)))) aG (bQ _)) aG (o8 jj aG))) (ao (aY (i:=8) cT.nd rfl (Or.inl rfl) (aM Hu (hr.mono (by decide)) rfl Hv Hw Hx .nil aO (aj (pv 4) (aj (aM Fq (hr.mono (by decide)) rfl Ft Fv Fw .nil aO (aj (pv 4) (aj (pv 5) (aj (pv 6) (aj (pv 7) (aj (pv 3) ak)))))) (aj (pv 6) (aj (pv 7) (aj (pv 3) ak))))))) (ao (aY (i:=9) cT.nd rfl (Or.inl rfl) (aM KQ (hr.mono (by decide)) rfl KR KY KZ .nil aO (aj (pv 0) (aj (pv 5) (aj (bG (bA bB (bU j5 (pv 8) (bL (aj (pv 2) ak))) aG (fun _ _=>rfl)) rfl) ak))))) (ao (aY (i:=10) cT.nd rfl (Or.inl rfl) (aM KQ (hr.mono (by decide)) rfl KR KY KZ .nil aO (aj (pv 2) (aj (bG (bA bB (bU j5 (bL (aj (pv 0) ak)) (pv 8)) (o8 jj aG) (fun _ _=>rfl)) rfl) (aj (pv 5) ak))))) (aB (aH (bU j5 (bU j5 (bL (aj (pv 9) ak)) (pv 8)) (bL (aj (pv 10) ak)))))))))))),?_⟩
  simp only [acq,aaV,X6,acn,aaR,JX,Qh,tUn,tOp,rU,tC,aaP,rI0,rI,acp,X7,X8,Zc,JS,acr,acj,tOr,ack,tB,Yj,Yi,Zj,tCB,rPt,cxK,Ey,Ez,EY,Fb,Fd,J7,J8,J9,Ka,Kc,Rw,ne_eq,not_false_eq_true,Nat.zero_le,Ru,Rv,Rr,Rt,WD,WK,rEq,rNe,aa1,acw,acx,L2.start,List.map,List.cons_append,List.nil_append,List.append_nil,List.getElem?_cons_zero,List.getElem?_cons_succ,List.set_cons_zero,List.set_cons_succ,List.length_cons,List.length_nil,List.replicate,List.set_nil,Option.some.injEq,V.int.injEq,V.bl.injEq,V.ref.injEq,List.cons.injEq,and_true,and_assoc,true_and,exists_eq_left',exists_and_left,exists_eq_left,exists_eq,decide_eq_true_eq,Bool.true_eq,Bool.false_eq_true,if_false,if_true,Nat.reduceAdd,Nat.reduceSub,reduceCtorEq,false_and,and_false,or_false,false_or,Bool.not_true,Bool.not_false,gh,hou,hov,how,HO.ins.injEq,R.cl,R.place,jw]
  refine abv (.int (az.sg (decide (0<Vbreab.side u.at_ v.at_ w.at_)))) (fun Q' hq=>?_) ?_
  ·open_ks with [gk,hpu.iff,hpv.iff,hpw.iff,nu,nv,nw]
   by_cases hs:0<Vbreab.side u.at_ v.at_ w.at_
   ·simp only [hs,if_true,decide_true,az.sg]at hq ⊢
    exact hq
   ·simp only [hs,if_false,decide_false,az.sg,Bool.false_eq_true]at hq ⊢
    exact hq
  refine ⟨apu,apv,apw,am,u.at_,v.at_,w.at_,ms,rfl,hpu,hpv,hpw,nu,nv,nw,hm,jM,j4,fun H1 pl hpl hl s1=>?_⟩
  refine ⟨apu,pl,apw,am,u.at_,w.at_,decide (0<Vbreab.side u.at_ v.at_ w.at_),az.rowOf ms u.at_ v.at_ w.at_,ms,rfl,hpu.same s1,hpw.same s1,nu,nw,hl,hm.same s1,jM.near,fun q hq=>(az.qJ hq).1,Nat.le_trans (yW _ _ _ _) (by omega),fun H2 pc hpc hc s2=>?_⟩
  rw [W3]at hc
  obtain ⟨cs,hcs,Qx⟩:=hc
  have s12:=s1.trans s2
  have lc:cs.length≤17:=by rw [bC Qx,ZK];exact Nat.le_trans (yW _ _ _ _) (by omega)
  have small:∀n:Nat,n≤100→n≤sizeLine:=fun n hn=>Nat.le_trans hn (by decide)
  refine ⟨by decide,fun l1 e1=>?_⟩
  have s3:aK H2 (upd H2 l1 (.lst [V.ref z])):=aK.new e1
  refine ⟨pc,l1,_,_,rfl,rfl,s3 _ _ hcs,aA,small _ (by simp;omega),fun l2 e2=>?_⟩
  generalize upd H2 l1 (.lst [V.ref z])=H3 at *
  have s4:aK H3 (upd H3 l2 (.lst (cs.map V.ref++[V.ref z]))):=aK.new e2
  have s24:=s3.trans s4
  have hl2:(upd H3 l2 (.lst (cs.map V.ref++[V.ref z]))) l2=some (.lst ((cs++[z]).map V.ref)):=by rw [aA,List.map_append];rfl
  generalize upd H3 l2 (.lst (cs.map V.ref++[V.ref z]))=H4 at *
  have s14:=s12.trans s24
  have p4:Paired (fZ CN H4) (cs++[z]) (az.cY u.at_ (az.bD ms u.at_ v.at_ w.at_) w.at_++[w]):=lA (gn.pair Qx s24) (hz.same s14)
  obtain ⟨n0,hn0,en0⟩:=W4 (az.cY u.at_ (az.bD ms u.at_ v.at_ w.at_) w.at_) w
  obtain ⟨a0,ha0,Vb,ap0,ho0,hp0⟩:=bc p4 hn0
  rw [Va]at en0
  rw [en0]at hp0
  refine ⟨l2,_,0,_,rfl,rfl,b7.of hl2,at_of (j:=0) rfl (by rw [List.getElem?_map,ha0];rfl),a0,rfl,CN,Vb,_,ho0,R.cl,R.place,_,jw _ _ _,?_⟩
  have nf0:=az.JF jM (p:=u.at_) (q:=v.at_) nw
  refine ⟨x,apv,ap0,u,v.at_,_,rfl,hx.same s14,hpv.same s14,hp0,nu,nv,nf0,fun H5 t1 ht1 s5=>?_⟩
  have s15:=s14.trans s5
  refine ⟨by decide,fun l3 e3=>?_⟩
  have s6:aK H5 (upd H5 l3 (.lst [V.ref x])):=aK.new e3
  have abu:=s6 _ _ (s5 _ _ (s24 _ _ hcs))
  refine ⟨l3,pc,_,_,rfl,rfl,aA,abu,small _ (by simp;omega),fun l4 e4=>?_⟩
  generalize upd H5 l3 (.lst [V.ref x])=H6 at *
  have s7:aK H6 (upd H6 l4 (.lst ([V.ref x]++cs.map V.ref))):=aK.new e4
  have hl4:(upd H6 l4 (.lst ([V.ref x]++cs.map V.ref))) l4=some (.lst ((x::cs).map V.ref)):=by rw [aA];rfl
  generalize upd H6 l4 (.lst ([V.ref x]++cs.map V.ref))=H7 at *
  have s57:=s6.trans s7
  have s17:=s15.trans s57
  obtain ⟨p9,n9,e9,en9⟩:=az.IW u (az.cY u.at_ (az.bD ms u.at_ v.at_ w.at_) w.at_)
  rw [KJ]at en9
  have p7:Paired (fZ CN H7) (x::cs) (u::az.cY u.at_ (az.bD ms u.at_ v.at_ w.at_) w.at_):=.cons (hx.same s17) (gn.pair Qx ((s24.trans s5).trans s57))
  rw [e9]at p7
  obtain ⟨l9,a9,ea9,_,dx9,ap9,ho9,hp9⟩:=ye p7
  rw [en9]at hp9
  have ix9:oO ((x::cs).map V.ref) (-1)=some (.ref a9):=by rw [ea9,List.map_append];exact J3 _ _
  refine ⟨l4,_,-1,_,rfl,rfl,b7.of hl4,ix9,a9,rfl,CN,dx9,_,ho9,R.cl,R.place,_,jw _ _ _,?_⟩
  have nl9:=az.PN jM (q:=v.at_) (s:=w.at_) nu
  refine ⟨z,ap9,apv,w,_,v.at_,rfl,hz.same s17,hp9,hpv.same s17,nw,nl9,nv,fun H8 t2 ht2 s8=>?_⟩
  have s18:=s17.trans s8
  refine ⟨by decide,fun l5 e5=>?_⟩
  have s9:aK H8 (upd H8 l5 (.lst [V.ref t1])):=aK.new e5
  have aht:=s9 _ _ (s8 _ _ (s57 _ _ (s5 _ _ (s24 _ _ hcs))))
  refine ⟨l5,pc,_,_,rfl,rfl,aA,aht,small _ (by simp;omega),fun l6 e6=>?_⟩
  generalize upd H8 l5 (.lst [V.ref t1])=H9 at *
  have s10:aK H9 (upd H9 l6 (.lst ([V.ref t1]++cs.map V.ref))):=aK.new e6
  have hl6:(upd H9 l6 (.lst ([V.ref t1]++cs.map V.ref))) l6=some (.lst ([V.ref t1]++cs.map V.ref)):=aA
  generalize upd H9 l6 (.lst ([V.ref t1]++cs.map V.ref))=H10 at *
  refine ⟨by decide,fun l7 e7=>?_⟩
  have s11:aK H10 (upd H10 l7 (.lst [V.ref t2])):=aK.new e7
  refine ⟨l6,l7,_,_,rfl,rfl,s11 _ _ hl6,aA,small _ (by simp;omega),fun l8 e8=>?_⟩
  generalize upd H10 l7 (.lst [V.ref t2])=H11 at *
  have s13:aK H11 (upd H11 l8 (.lst ([V.ref t1]++cs.map V.ref++[V.ref t2]))):=aK.new e8
  have hl8:(upd H11 l8 (.lst ([V.ref t1]++cs.map V.ref++[V.ref t2]))) l8=some (.lst ((t1::(cs++[t2])).map V.ref)):=by rw [aA];simp
  have af7:=(s9.trans s10).trans s11
  have s8e:=af7.trans s13
  have s1e:=s18.trans s8e
  refine k _ l8 (s18.trans af7 |>.free e8) ⟨t1::(cs++[t2]),hl8,?_⟩ s1e
  have se8:=s57.trans s8
  refine .cons ((ht1.same se8).same s8e) (lA (gn.pair Qx (((s24.trans s5).trans se8).trans s8e)) (ht2.same s8e))
end
theorem Vc (xs:List V) {k:Nat} (h:k≤xs.length):Er xs none (some (k:Int))=xs.take k:=by
 unfold Er
 rw [HT.Uu,HT.yR]
 simp [Nat.min_eq_left h]
theorem K4 (xs:List V) {k:Nat} (h:k≤xs.length):Er xs (some (k:Int)) none=xs.drop k:=by
 unfold Er
 rw [HT.Uu,HT.yR,Nat.min_eq_left h]
 rw [List.take_of_length_le (by rw [List.length_drop];omega)]
theorem CP {α:Type} (l:List α) {n:Nat} (h1:1≤n) (h2:n+1<l.length):∃Z u v w r,l=Z++u::v::w::r∧Z.length+1=n:=by
 refine ⟨l.take (n-1),l[n-1],l[n],l[n+1],l.drop (n+2),?_,by rw [List.length_take];omega⟩
 have e1:=List.drop_eq_getElem_cons (show n+1<l.length by omega)
 have e2:=List.drop_eq_getElem_cons (show n<l.length by omega)
 have e3:=List.drop_eq_getElem_cons (show n-1<l.length by omega)
 rw [show n-1+1=n by omega]at e3
 rw [←e1,←e2,←e3,List.take_append_drop]
theorem yf {α β:Type} {F:α→β→Prop} {l:List α} {m:List β} (h:Paired F l m):∀k:Nat,Paired F (l.take k) (m.take k):=by
 induction h with
 | nil=>intro k;simpa using Paired.nil
 | cons h1 h2 ih=>
  intro k
  cases k with
  | zero=>exact .nil
  | succ k=>exact .cons h1 (ih k)
theorem tH {α β:Type} {F:α→β→Prop} {l:List α} {m:List β} (h:Paired F l m):∀k:Nat,Paired F (l.drop k) (m.drop k):=by
 induction h with
 | nil=>intro k;simpa using Paired.nil
 | cons h1 h2 ih=>
  intro k
  cases k with
  | zero=>exact .cons h1 h2
  | succ k=>exact ih k
theorem af8 {α:Type} (L:List α) (a b c:α) (R:List α) {n:Nat} (h:L.length=n):(L++a::b::c::R).drop (n+3)=R:=by
 rw [show L++a::b::c::R=(L++[a,b,c])++R by simp]
 exact List.drop_left' (by simp [h])
theorem Vd (u v w:Node) (t o:Pt):YC (az.fV t u v.at_) (az.fV u.at_ v w.at_) (az.fV v.at_ w o)=Vbreab.held u v w:=by
 unfold YC
 rw [az.lq]
 cases hm:v.mark with
 | none=>
  unfold Vbreab.held
  rw [hm];rfl
 | some m=>
  have hs:v.mark.isSome=true:=by rw [hm];rfl
  have:=az.YX (u:=u) (v:=v) (w:=w) hs
  simp only [Option.isSome_some,Bool.true_and,az.sY]
  cases hh:Vbreab.held u v w with
  | true=>exact decide_eq_true (this.2 hh)
  | false=>
   apply decide_eq_false
   intro h
   rw [this.1 h]at hh;cases hh
structure gC (ms tr:List Pt):Prop where
 near:jC tr
 two:2≤tr.length
 most:tr.length≤200
 clear:az.lE ms tr
theorem W5 (tr:List Pt):az.fY (az.lay tr)=az.lay tr:=by
 unfold az.fY
 generalize az.oo=t
 generalize hw:az.oo=w
 clear hw
 have:∀(l:List Pt) (t w:Pt),az.cY t (az.lay l) w=az.lay l:=by
  intro l
  induction l with
  | nil=>intro t w;rfl
  | cons x l ih=>
   intro t w
   show az.fV t ⟨x,none,0⟩ _::az.cY x (az.lay l) w=⟨x,none,0⟩::az.lay l
   rw [ih];rfl
 exact this tr t _
theorem Aq {ms tr:List Pt} (jM:az.bK ms) (j4:ms.length≤16) (tok:gC ms tr):az.Inv ms (az.lay tr) 1∧az.vh ms Vbreab.ENOUGH (az.lay tr):=by
 refine ⟨?_,az.QW jM j4 tok.most tok.near⟩
 have h2:=tok.two
 match tr,tok,h2 with
 | a::b::B,tok,_=>exact az.Eh tok.near tok.clear
section
variable {P:Program} {w:World} {K:PySem.W.Frag} {mg:Str→Option Value} {base:Heap} {f:Addr} {fd:FuncData} {CN CT:Addr}
noncomputable abbrev qz:Stmt:=top 40
theorem gB:aW ["places","marks","nodes","at","place"] ["places","marks"] (aF qz):=⟨rfl,rfl,rfl,by decide +kernel,rfl,by decide +kernel,by decide +kernel⟩
inductive oX (C:Addr) (vs:List V) (H:Hp) (Q:VK) (E:XK):Prop where
 | mk (ap am:Addr) (tr ms:List Pt) (_:vs=[.ref ap,.ref am]) (_:cu H ap tr) (_:cu H am ms) (_:az.bK ms) (_:ms.length≤16) (_:gC ms tr) (_:∀H' l,H l=none→gn C H' l (az.fY (Vbreab.stringOf ms tr))→az.uP ms (Vbreab.stringOf ms tr)→(Vbreab.stringOf ms tr).length≤2000000→aK H H'→Q (.ref l) H'):oX C vs H Q E
noncomputable def adC (C:Addr) (H:Hp) (ms tr:List Pt) (ap am:Addr) (m:Nat) (σ:L2.St) (H':Hp):Prop:=
 ∃(sl:List Node) (n e:Nat) (ln:Addr) (v4:Option V),m=e*1000+(sl.length-n)∧σ=[some (.ref ap),some (.ref am),some (.ref ln),some (.int (n:Nat)),v4]∧H ln=none∧gn C H' ln (az.fY sl)∧az.Inv ms sl n∧az.vh ms e sl∧
  Vbreab.pull ms e sl=Vbreab.stringOf ms tr∧sl.length+17*e≤200+17*Vbreab.ENOUGH∧aK H H'
theorem rE {ms:List Pt} {n:Nat} {l:List Node} (h:az.vh ms n l):1≤n:=by have:=h.steps;omega
theorem Oh (F:cI K "taut_nodes" "taut_nodes" qz f fd) (T:Txt mg) (vW:Mak P w K mg base "Node" CN 1 ["self","place","mark","laps"] (mH CN)) (Fx:ik P w K mg base "is_held" 6 ["nodes","at"] (Am CN)) (nR:ik P w K mg base "drawn_straight" 5 ["before","corner","behind","marks"] (mJ CN)):cz P w K mg base fH 7 f fd ["places","marks"] (oX CN):=by
 obtain ⟨_,_,xX,xY,xZ,yc⟩:=vW;obtain ⟨_,_,Ve,Vf,Vg,Vh⟩:=Fx;obtain ⟨_,_,Ar,Av,Aw,Ax⟩:=nR
 refine F.ok gB (fun vs H Q E h=>?_) (fun cdv A outer s H vs Q E hr h=>?_)
 ·obtain ⟨ap,am,tr,ms,rfl,_⟩:=h
  rfl
 ·obtain ⟨ap,am,tr,ms,rfl,⟨as,ha,pa⟩,hm,jM,j4,tok,k⟩:=h
  have la:as.length=tr.length:=bC pa
  have ltr:=tok.most
  refine ⟨_,(ao (abe (i:=2) (own:=[("place",4)]) rfl gB.nd rfl rfl (acD rfl rfl (by rfl) (by decide +kernel)) (jA (pv 0)) (eE (N:=["places","marks","nodes","at","place"]) (sc:=aF qz) (by decide +kernel)) (fun _ _ _ _ _=>(cA (i:=4) gB.nd rfl (Or.inl rfl))) (fun _ _ _ _ _=>jV) (fun _ _ _ _ _=>(Ce xZ xX (hr.mono (by decide)) rfl xY yc .nil aO (aj (pv 4) (aj eU (aj aG ak)))))) (ao (aY (i:=3) gB.nd rfl (Or.inl rfl) aG) (ao (JT PassesOwn.never (bV qU (pv 3) (bU dh (bF aZ (by rfl) T.cZ PySem.boot_len (aj (pv 2) ak)) aG) (bQ _)) (aB (cC (cP (aM Ve (hr.mono (by decide)) rfl Vf Vg Vh .nil aO (aj (pv 2) (aj (pv 3) ak)))) (aB (aY (i:=3) gB.nd rfl (Or.inl rfl) (bU d8 (pv 3) aG))) (ao (aY (i:=2) gB.nd rfl (Or.inl rfl) (bU j5 (bU j5 (qW vG (pv 2) Ci (qt (bU dh (pv 3) aG))) (aM Ar (hr.mono (by decide)) rfl Av Aw Ax .nil aO (aj (bA bB (pv 2) (bU dh (pv 3) aG) (fun _ _=>rfl)) (aj (bA bB (pv 2) (pv 3) (fun _ _=>rfl)) (aj (bA bB (pv 2) (bU d8 (pv 3) aG) (fun _ _=>rfl)) (aj (pv 1) ak)))))) (qW vG (pv 2) (qt (bU d8 (pv 3) aG)) Ci))) (aB (aY (i:=3) gB.nd rfl (Or.inl rfl) (bF (Eo rfl) (by rfl) T.Yt boot_max (aj aG (aj (bU dh (pv 3) aG) ak))))))))) (aB (aH (pv 2)))))),?_⟩
  open_ks with []
  refine ⟨⟨_,b7.of ha⟩,?_⟩
  refine gK.rel (n:=(as.map V.ref).length) (fun i=>(az.lay tr)[i]?) (fun H y n=>∃t,y=.ref t∧fZ CN H t n) (fun H H' D acc y b ⟨t,e,h⟩ hD k=>⟨t,e,h.stay hD k⟩) (by rw [List.length_map];omega) (vH (b7.of ha)) (fun i H2 x H' R R' hi sm hy hR _=>?_) (fun D H2 ys hD hH hp sm=>?_)
  ·obtain ⟨rfl,hy⟩:=hy
   have hx:=hy _ (b7.of (sm _ _ ha))
   rw [List.length_map]at hi
   obtain ⟨q,hq⟩:∃q,tr[i]?=some q:=⟨_,List.getElem?_eq_getElem (by omega)⟩
   obtain ⟨aq,Hq,pq⟩:=bc pa hq
   rw [List.getElem?_map,Hq]at hx
   cases hx
   open_ks with [wipe,Ex,J1]
   intro z dz nz nd ne
   refine ⟨z,aq,dz,_,_,rfl,aA,fun H6 h6 kp=>⟨rfl,?_⟩⟩
   have s8:aK H' H6:=aK.made nz nd kp
   exact hR _ ⟨q,none,0⟩ _ (by unfold az.lay;rw [List.getElem?_map,hq];rfl) ⟨z,rfl,dz,aq,h6,(pq.same sm).same s8⟩ s8
  ·have ll:(az.lay tr).length=tr.length:=by unfold az.lay;rw [List.length_map]
   rw [List.length_map,la,←ll,eY]at hp
   have hp':∃cs:List Addr,ys=cs.map V.ref∧Paired (fZ CN H2) cs (az.lay tr):=by
    clear hH
    generalize az.lay tr=LL at hp
    induction hp with
    | nil=>exact ⟨[],rfl,.nil⟩
    | cons h1 h2 ih=>
     obtain ⟨t,e,h1⟩:=h1
     obtain ⟨as,e2,h3⟩:=ih
     exact ⟨t::as,by rw [e,e2];rfl,.cons h1 h3⟩
   obtain ⟨cs,rfl,Qx⟩:=hp'
   have lcs:cs.length=tr.length:=by rw [bC Qx,ll]
   obtain ⟨I0,E0'⟩:=Aq jM j4 tok
   unfold Rh
   refine ⟨adC CN H ms tr ap am,⟨_,az.lay tr,1,Vbreab.ENOUGH,D,none,rfl,rfl,hD,⟨cs,hH,by rw [W5];exact Qx⟩,I0,E0',rfl,by rw [ll];omega,sm⟩,?_⟩
   rintro m σ H3 ⟨sl,n,e,ln,v4,rfl,rfl,nln,hns,I,En,YF,hlen,sm3⟩
   obtain ⟨bs,hbs,pbs⟩:=id hns
   have lb:bs.length=sl.length:=by rw [bC pbs,az.iQ]
   have xn:sl.length≤2000000:=Nat.le_trans (Nat.le_trans (Nat.le_add_right _ _) hlen) (by unfold Vbreab.ENOUGH;omega)
   have Il:=I.len
   open_ks with []
   refine ⟨_,.inl (b7.of hbs),?_⟩
   rw [List.length_map,lb]
   refine qx (fun hlt=>?_) (fun hge=>?_)
   ·obtain ⟨Z,u,v,w',r,e0,hZ⟩:=CP sl Il.1 (show n+1<sl.length by omega)
    have hsplit:=az.BR Z r u v w'
    rw [←e0]at hsplit
    have lZ:(az.cY az.oo Z u.at_).length=Z.length:=az.gR _ _ _
    have iu:(az.fY sl)[Z.length]?=some (az.fV (az.lastOf Z az.oo) u v.at_):=by
     rw [hsplit,List.getElem?_append_right (by omega),lZ,Nat.sub_self];rfl
    have iv:(az.fY sl)[Z.length+1]?=some (az.fV u.at_ v w'.at_):=by
     rw [hsplit,List.getElem?_append_right (by omega),lZ,show Z.length+1-Z.length=1 by omega];rfl
    have iw:(az.fY sl)[Z.length+2]?=some (az.fV v.at_ w' (az.firstOf r az.oo)):=by
     rw [hsplit,List.getElem?_append_right (by omega),lZ,show Z.length+2-Z.length=2 by omega];rfl
    have nu:N6 u.at_:=(I.ok u (by rw [e0];simp)).near
    have nv:N6 v.at_:=(I.ok v (by rw [e0];simp)).near
    have nw:N6 w'.at_:=(I.ok w' (by rw [e0];simp)).near
    refine ⟨fun σ' H'=>∃m',m'<e*1000+(sl.length-n)∧adC CN H ms tr ap am m' σ' H',fun _ _ h=>h,?_⟩
    refine ⟨ln,Z.length,az.fY sl,_,_,_,by rw [←hZ];rfl,hns,iu,iv,iw,nu,nv,nw,fun H4 s4=>?_⟩
    rw [Vd]
    have af9:=hns.same s4
    have sm4:=sm3.trans s4
    cases hh:Vbreab.held u v w' with
    | true=>
     open_ks with []
     refine ⟨_,?_,sl,n+1,e,ln,v4,rfl,rfl,nln,af9,az.JC I e0 hZ hh,En,YF,hlen,sm4⟩
     omega
    | false=>
     obtain ⟨I',hp',Tn,hrel,hz0,hr0⟩:=az.JG jM I e0 hZ hh
     obtain ⟨En',Fy⟩:=En.step hp'
     have e1:=rE En
     rw [hrel]at I' En' Fy
     have hnew:=az.Wh Tn hz0 hr0
     generalize ahv:Z++(az.ql ms (Z.getLast?.getD u) u v w'::(az.bD ms u.at_ v.at_ w'.at_++[az.lG ms u v w' r.head?])++r)=sl' at *
     have hl':sl'.length≤sl.length+17:=by
      have c1:(az.bD ms u.at_ v.at_ w'.at_).length≤17:=by
       unfold az.bD
       rw [List.length_map]
       exact Nat.le_trans (yW _ _ _ _) (by omega)
      rw [←ahv,e0]
      simp only [List.length_append,List.length_cons,List.length_nil]
      omega
     obtain ⟨FJ,abx,W6⟩:=id af9
     have lb4:FJ.length=sl.length:=by rw [bC W6,az.iQ]
     obtain ⟨au,hau,hnu⟩:=bc W6 iu
     obtain ⟨av,hav,hnv⟩:=bc W6 iv
     obtain ⟨aw,haw,hnw⟩:=bc W6 iw
     have xu:oO (FJ.map V.ref) (((n:Nat):Int)-1)=some (.ref au):=at_of (j:=Z.length) (by omega) (by rw [List.getElem?_map,hau];rfl)
     have xv:oO (FJ.map V.ref) ((n:Nat):Int)=some (.ref av):=at_of (j:=Z.length+1) (by omega) (by rw [List.getElem?_map,hav];rfl)
     have xw:oO (FJ.map V.ref) (((n:Nat):Int)+1)=some (.ref aw):=at_of (j:=Z.length+2) (by omega) (by rw [List.getElem?_map,haw];rfl)
     have en1:((n:Nat):Int)-1=((Z.length:Nat):Int):=by omega
     have en2:((n:Nat):Int)+2=((Z.length+3:Nat):Int):=by omega
     open_ks with [tSl,Qn,Cg,Zk,gj]
     have lmap:(FJ.map V.ref).length=sl.length:=by rw [List.length_map,lb4]
     refine ⟨_,b7.of abx,fun q1 hq1=>?_⟩
     rw [en1]at xu ⊢
     rw [Vc _ (show Z.length≤(FJ.map V.ref).length by omega)]
     have s5:aK H4 (upd H4 q1 (.lst ((FJ.map V.ref).take Z.length))):=aK.new hq1
     have ahw:(upd H4 q1 (.lst ((FJ.map V.ref).take Z.length))) q1=some (.lst ((FJ.map V.ref).take Z.length)):=aA
     generalize upd H4 q1 (.lst ((FJ.map V.ref).take Z.length))=H5 at *
     have sm5:=sm4.trans s5
     refine ⟨_,b7.of (s5 _ _ abx),_,xu,_,b7.of (s5 _ _ abx),_,xv,_,b7.of (s5 _ _ abx),_,xw,?_⟩
     refine ⟨au,av,aw,am,_,_,_,ms,rfl,hnu.same s5,hnv.same s5,hnw.same s5,nu,nv,nw,hm.same sm5,jM,j4,fun H6 q2 hq2 hd s6=>?_⟩
     obtain ⟨ds,hds,pds⟩:=hd
     have ld:ds.length≤30:=by
      rw [bC pds]
      unfold az.Q9
      simp only [List.length_cons,List.length_append,List.length_nil,az.gR,az.sY]
      unfold az.bD
      rw [List.length_map]
      have:=yW ms u.at_ v.at_ w'.at_
      omega
     have small:∀x:Nat,x≤3000000→x≤sizeLine:=fun x hx=>Nat.le_trans hx (by decide)
     refine ⟨q1,q2,_,_,rfl,rfl,s6 _ _ ahw,hds,small _ (by simp only [List.length_map,List.length_take];omega),fun q3 hq3=>?_⟩
     have s7:aK H6 (upd H6 q3 (.lst ((FJ.map V.ref).take Z.length++ds.map V.ref))):=aK.new hq3
     have ahx:(upd H6 q3 (.lst ((FJ.map V.ref).take Z.length++ds.map V.ref))) q3=some (.lst ((FJ.map V.ref).take Z.length++ds.map V.ref)):=aA
     generalize upd H6 q3 (.lst ((FJ.map V.ref).take Z.length++ds.map V.ref))=H7 at *
     have s57:=s6.trans s7
     have s47:=s5.trans s57
     refine ⟨_,b7.of (s47 _ _ abx),fun q4 hq4=>?_⟩
     rw [en2]
     rw [K4 _ (show Z.length+3≤(FJ.map V.ref).length by omega)]
     have s8:aK H7 (upd H7 q4 (.lst ((FJ.map V.ref).drop (Z.length+3)))):=aK.new hq4
     have ahz:(upd H7 q4 (.lst ((FJ.map V.ref).drop (Z.length+3)))) q4=some (.lst ((FJ.map V.ref).drop (Z.length+3))):=aA
     generalize upd H7 q4 (.lst ((FJ.map V.ref).drop (Z.length+3)))=H8 at *
     refine ⟨q3,q4,_,_,rfl,rfl,s8 _ _ ahx,ahz,small _ (by simp only [List.length_append,List.length_map,List.length_take,List.length_drop];omega),fun q5 hq5=>?_⟩
     have s9:aK H8 (upd H8 q5 (.lst ((FJ.map V.ref).take Z.length++ds.map V.ref++(FJ.map V.ref).drop (Z.length+3)))):=aK.new hq5
     have ahA:(upd H8 q5 (.lst ((FJ.map V.ref).take Z.length++ds.map V.ref++(FJ.map V.ref).drop (Z.length+3)))) q5=some (.lst ((FJ.take Z.length++(ds++FJ.drop (Z.length+3))).map V.ref)):=by
      rw [aA];simp
     have s79:=s8.trans s9
     have s49:=s47.trans s79
     have sm9:=sm4.trans s49
     have nq5:H q5=none:=(((sm4.trans s47).trans s8)).free hq5
     refine ⟨_,?_,sl',max 1 (n-1),e-1,q5,v4,rfl,?_,nq5,⟨_,ahA,?_⟩,I',En',by rw [←Fy];exact YF,by omega,sm9⟩
     ·have i':=I'.len
      have:e*1000=(e-1)*1000+1000:=by omega
      omega
     ·have:max (1:Int) ((Z.length:Nat):Int)=((max 1 (n-1):Nat):Int):=by omega
      rw [this]
     ·rw [hnew]
      have pL:Paired (fZ CN H4) (FJ.take Z.length) (az.cY az.oo Z u.at_)∧Paired (fZ CN H4) (FJ.drop (Z.length+3)) (az.cY w'.at_ r az.oo):=by
       rw [hsplit]at W6
       refine ⟨?_,?_⟩
       ·have:=yf W6 Z.length
        rwa [List.take_left' lZ]at this
       ·have:=tH W6 (Z.length+3)
        rwa [af8 _ _ _ _ _ lZ]at this
      exact rm (gn.pair pL.1 s49) (rm (gn.pair pds (s7.trans s79)) (gn.pair pL.2 s49))
   ·have hend:sl.length≤n+1:=by omega
    have hpe:=az.Jt (az.Q7 I hend) e
    rw [hpe]at YF
    rw [←YF]at k
    exact k H3 ln nln hns ⟨I.ok,az.BW I hend,by omega⟩ xn sm3
end
theorem CQ:∀(l:List Node) (t w:Pt),(az.cY t l w).map (·.at_)=l.map (·.at_)
 | [],_,_=>rfl
 | x::l,t,w=>by simp only [az.cY,List.map_cons,CQ l];rfl
theorem Oi (l:List Node):(az.fY l).map (·.at_)=l.map (·.at_):=CQ _ _ _
theorem RQ {l:List Node} {i:Nat} {u v w:Node} (hu:l[i]?=some u) (hv:l[i+1]?=some v) (hw:l[i+2]?=some w) :
  ∃u' w',(az.fY l)[i]?=some u'∧(az.fY l)[i+1]?=some (az.fV u.at_ v w.at_)∧(az.fY l)[i+2]?=some w'∧u'.at_=u.at_∧w'.at_=w.at_:=by
 have hi:i+2<l.length:=(List.getElem?_eq_some_iff.1 hw).1
 obtain ⟨Z,a,b,c,r,e,hZ⟩:=CP l (n:=i+1) (by omega) (by omega)
 have hZ':Z.length=i:=by omega
 have ea:a=u:=by
  rw [e,List.getElem?_append_right (by omega),hZ',Nat.sub_self]at hu
  simpa using hu
 have eb:b=v:=by
  rw [e,List.getElem?_append_right (by omega),hZ',show i+1-i=1 by omega]at hv
  simpa using hv
 have ec:c=w:=by
  rw [e,List.getElem?_append_right (by omega),hZ',show i+2-i=2 by omega]at hw
  simpa using hw
 subst ea;subst eb;subst ec
 have hsplit:=az.BR Z r a b c
 rw [←e]at hsplit
 have lZ:(az.cY az.oo Z a.at_).length=Z.length:=az.gR _ _ _
 refine ⟨az.fV (az.lastOf Z az.oo) a b.at_,az.fV b.at_ c (az.firstOf r az.oo),?_,?_,?_,rfl,rfl⟩
 ·rw [hsplit,List.getElem?_append_right (by omega),lZ,hZ',Nat.sub_self];rfl
 ·rw [hsplit,List.getElem?_append_right (by omega),lZ,hZ',show i+1-i=1 by omega];rfl
 ·rw [hsplit,List.getElem?_append_right (by omega),lZ,hZ',show i+2-i=2 by omega];rfl
theorem ZL {C:Addr} {H:Hp} {ys:List V} {ns:List (Pt×Vbreab.Touch)} (h:Paired (fun y n=>∃t,y=.ref t∧jX C H t n) ys ns):∃cs:List Addr,ys=cs.map V.ref∧Paired (jX C H) cs ns:=by
 induction h with
 | nil=>exact ⟨[],rfl,.nil⟩
 | cons h1 h2 ih=>
  obtain ⟨t,e,h1⟩:=h1
  obtain ⟨as,e2,h3⟩:=ih
  exact ⟨t::as,by rw [e,e2];rfl,.cons h1 h3⟩
theorem jX.stay {C:Addr} {H H':Hp} {D a:Addr} {acc:List V} {n:Pt×Vbreab.Touch} (h:jX C H a n) (hD:H D=some (.lst acc)) (k:∀a o,a≠D→H a=some o→H' a=some o):jX C H' a n:=by
 obtain ⟨dx,ap,h1,h2⟩:=h
 exact ⟨dx,ap,k _ _ (ji h1 hD (by intro z;cases z)) h1,h2.stay hD k⟩
section
variable {P:Program} {w:World} {K:PySem.W.Frag} {mg:Str→Option Value} {base:Heap} {f:Addr} {fd:FuncData} {CN CT:Addr}
noncomputable abbrev jY:Stmt:=top 41
theorem nT:aW ["places","marks","node"] ["places","marks"] (aF jY):=⟨rfl,rfl,rfl,by decide +kernel,rfl,by decide +kernel,by decide +kernel⟩
inductive nU (vs:List V) (H:Hp) (Q:VK) (E:XK):Prop where
 | mk (ap am:Addr) (tr ms:List Pt) (_:vs=[.ref ap,.ref am]) (_:cu H ap tr) (_:cu H am ms) (_:az.bK ms) (_:ms.length≤16) (_:gC ms tr) (_:∀H' l,H l=none→cu H' l ((Vbreab.stringOf ms tr).map (·.at_))→jC ((Vbreab.stringOf ms tr).map (·.at_))→(Vbreab.stringOf ms tr).length≤2000000→aK H H'→Q (.ref l) H'):nU  vs H Q E
theorem FN (R:RJ K CN) (F:cI K "string_places" "string_places" jY f fd) (T:Txt mg) (jD:ik P w K mg base "taut_nodes" 7 ["places","marks"] (oX CN)):cz P w K mg base fH 8 f fd ["places","marks"] nU:=by
 obtain ⟨_,_,rF,rG,rH,rJ⟩:=jD
 refine F.ok nT (fun vs H Q E h=>?_) (fun cdv A outer s H vs Q E hr h=>?_)
 ·obtain ⟨ap,am,tr,ms,rfl,_⟩:=h
  rfl
 ·obtain ⟨ap,am,tr,ms,rfl,ha,hm,jM,j4,tok,k⟩:=h
  refine ⟨_,(aB (aH (qX (own:=[("node",2)]) rfl nT.nd (jA (aM rF (hr.mono (by decide)) rfl rG rH rJ .nil aO (aj (pv 0) (aj (pv 1) ak)))) (eE (N:=["places","marks","node"]) (sc:=aF jY) (by decide +kernel)) (fun _ _ _ _ _=>(cA (i:=2) nT.nd rfl (Or.inl rfl))) (fun _ _ _ _ _=>jV) (fun _ _ _ _ _=>(show PE _ _ (gh K _ "place") from bG (pv 2) rfl))))),?_⟩
  open_ks with []
  refine ⟨ap,am,tr,ms,rfl,ha,hm,jM,j4,tok,fun H1 l hl hn Hy xn s1=>?_⟩
  obtain ⟨cs,hcs,Qx⟩:=id hn
  have lc:cs.length=(Vbreab.stringOf ms tr).length:=by rw [bC Qx,az.iQ]
  refine ⟨l,rfl,⟨_,b7.of hcs⟩,?_⟩
  refine gK.rel (n:=(cs.map V.ref).length) (fun i=>((az.fY (Vbreab.stringOf ms tr)).map (·.at_))[i]?) PtV PtV.stay (by rw [List.length_map];omega) (vH (b7.of hcs)) (fun i H2 x H' R' R'' hi sm hy hR _=>?_) (fun D H2 ys hD hH hp sm=>?_)
  ·obtain ⟨rfl,hy⟩:=hy
   have hx:=hy _ (b7.of (sm _ _ hcs))
   rw [List.length_map,lc,←az.iQ]at hi
   obtain ⟨q,hq⟩:∃q,(az.fY (Vbreab.stringOf ms tr))[i]?=some q:=⟨_,List.getElem?_eq_getElem hi⟩
   obtain ⟨aq,Hq,dx,apq,hoq,hpq⟩:=bc Qx hq
   rw [List.getElem?_map,Hq]at hx
   cases hx
   have ahB:=sm _ _ hoq
   open_ks with [wipe,Ex,gh,ahB,HO.ins.injEq,R.cl,R.place,jw]
   exact hR _ q.at_ _ (by rw [List.getElem?_map,hq];rfl) ⟨apq,rfl,hpq.same sm⟩ (aK.refl _)
  ·rw [List.length_map,lc,←az.iQ,show (az.fY (Vbreab.stringOf ms tr)).length=((az.fY (Vbreab.stringOf ms tr)).map (·.at_)).length by simp,eY,Oi]at hp
   obtain ⟨bs,rfl,pb⟩:=Rz hp
   refine k H2 D (s1.free hD) ⟨bs,hH,pb⟩ ?_ xn (s1.trans sm)
   intro p hp'
   obtain ⟨n,hn',rfl⟩:=List.mem_map.1 hp'
   exact (Hy.ok n hn').near
noncomputable abbrev jE:Stmt:=top 42
theorem jc:aW ["places","marks","nodes","at"] ["places","marks"] (aF jE):=⟨rfl,rfl,rfl,by decide +kernel,rfl,by decide +kernel,by decide +kernel⟩
inductive jd (CT:Addr) (vs:List V) (H:Hp) (Q:VK) (E:XK):Prop where
 | mk (ap am:Addr) (tr ms:List Pt) (_:vs=[.ref ap,.ref am]) (_:cu H ap tr) (_:cu H am ms) (_:az.bK ms) (_:ms.length≤16) (_:gC ms tr) (_:∀H' l,H l=none→Qw CT H' l (az.wX (Vbreab.stringOf ms tr))→az.uP ms (Vbreab.stringOf ms tr)→(az.wX (Vbreab.stringOf ms tr)).length≤2000000→aK H H'→Q (.ref l) H'):jd CT vs H Q E
theorem CV (R:RJ K CN) (F:cI K "string_touches" "string_touches" jE f fd) (T:Txt mg) (jD:ik P w K mg base "taut_nodes" 7 ["places","marks"] (oX CN)) (Ay:ik P w K mg base "touch_at" 6 ["nodes","at"] (xW CN CT)):cz P w K mg base fH 8 f fd ["places","marks"] (jd CT):=by
 obtain ⟨_,_,rF,rG,rH,rJ⟩:=jD;obtain ⟨_,_,RV,RW,RX,RZ⟩:=Ay
 refine F.ok jc (fun vs H Q E h=>?_) (fun cdv A outer s H vs Q E hr h=>?_)
 ·obtain ⟨ap,am,tr,ms,rfl,_⟩:=h
  rfl
 ·obtain ⟨ap,am,tr,ms,rfl,ha,hm,jM,j4,tok,k⟩:=h
  refine ⟨_,(ao (aY (i:=2) jc.nd rfl (Or.inr rfl) (aM rF (hr.mono (by decide)) rfl rG rH rJ .nil aO (aj (pv 0) (aj (pv 1) ak)))) (aB (aH (qX (own:=[("at",3)]) rfl jc.nd (Ze rfl T.vI (aj aG (aj (bU dh (bF aZ (by rfl) T.cZ PySem.boot_len (aj (pv 2) ak)) aG) ak))) (eE (N:=["places","marks","nodes","at"]) (sc:=aF jE) (by decide +kernel)) (fun _ _ _ _ _=>(cA (i:=3) jc.nd rfl (Or.inl rfl))) (fun _ _ _ _ _=>jV) (fun _ _ _ _ _=>(aM RV (hr.mono (by decide)) rfl RW RX RZ .nil aO (aj (pv 2) (aj (pv 3) ak)))))))),?_⟩
  open_ks with []
  refine ⟨ap,am,tr,ms,rfl,ha,hm,jM,j4,tok,fun H1 l hl hn Hy xn s1=>?_⟩
  obtain ⟨cs,hcs,Qx⟩:=id hn
  generalize hS:Vbreab.stringOf ms tr=S at *
  have lc:cs.length=S.length:=by rw [bC Qx,az.iQ]
  have two:=Hy.two
  have tl:=az.zU S Hy.held
  refine ⟨l,rfl,_,.inl (b7.of hcs),?_⟩
  rw [List.length_map,lc]
  refine ⟨by decide,by decide,by omega,by omega,?_⟩
  have en:((S.length:Int)-1-1).toNat=(az.wX S).length:=by omega
  rw [en]
  refine gK.rel (n:=(az.wX S).length) (fun i=>(az.wX S)[i]?) (fun H y n=>∃t,y=.ref t∧jX CT H t n) (fun H H' D acc y b ⟨t,e,h⟩ hD k=>⟨t,e,h.stay hD k⟩) (by omega) WL (fun i H2 x H' R' R'' hi sm hy hR _=>?_) (fun D H2 ys hD hH hp sm=>?_)
  ·obtain ⟨rfl,rfl⟩:=hy
   obtain ⟨u,hu⟩:∃u,S[i]?=some u:=⟨_,List.getElem?_eq_getElem (by omega)⟩
   obtain ⟨v,hv⟩:∃v,S[i+1]?=some v:=⟨_,List.getElem?_eq_getElem (by omega)⟩
   obtain ⟨w',hw⟩:∃w',S[i+2]?=some w':=⟨_,List.getElem?_eq_getElem (by omega)⟩
   obtain ⟨T0,hT0,hat⟩:=az.aaJ S i u v w' Hy.held hu hv hw
   obtain ⟨u2,w2,h1,h2,h3,e1,e2⟩:=RQ hu hv hw
   obtain ⟨m,hm'⟩:∃m,v.mark=some m:=by
    cases hmk:v.mark with
    | none=>unfold Vbreab.touchOf at hT0;rw [hmk]at hT0;cases hT0
    | some m=>exact ⟨m,rfl⟩
   obtain ⟨T1,hT1,g1,g2,g3,g4⟩:=az.vA (u:=u) (w:=w') hm'
   rw [hT0]at hT1
   cases hT1
   have nu:=(Hy.ok u (List.mem_of_getElem? hu)).near
   have nv:=(Hy.ok v (List.mem_of_getElem? hv)).near
   have nw:=(Hy.ok w' (List.mem_of_getElem? hw)).near
   open_ks with [wipe,Ex]
   refine ⟨l,i,az.fY S,u2,az.fV u.at_ v w'.at_,w2,(v.at_,T0),?_,hn.same sm,h1,h2,h3,by rw [e1];exact nu,nv,by rw [e2];exact nw,by rw [az.lq,hm',g1],rfl,?_,?_,?_,fun H3 t ht hta s3=>?_⟩
   ·congr 3;omega
   ·rw [az.sY,e1,e2];exact g2
   ·rw [az.sY,e1,e2];exact g3
   ·rw [az.sY,e1,e2];exact g4
   ·exact hR _ _ _ hat ⟨t,rfl,hta⟩ s3
  ·rw [eY]at hp
   obtain ⟨bs,rfl,pb⟩:=ZL hp
   exact k H2 D (s1.free hD) ⟨bs,hH,pb⟩ Hy (by omega) (s1.trans sm)
end
theorem YG {α:Type} (g:Pt→Pt→α):∀(ps:List Pt),(List.range (ps.length-1)).filterMap (fun i=>match ps[i]?,ps[i+1]? with
  | some p,some q=>some (g p q)
  | _,_=>none)=(Vbreab.segments ps).map fun s=>g s.1 s.2:=by
 intro ps
 have len:(Vbreab.segments ps).length=ps.length-1:=by
  induction ps with
  | nil=>rfl
  | cons p ps ih=>
   cases ps with
   | nil=>rfl
   | cons q r=>simp only [Vbreab.segments,List.length_cons,ih];simp
 have:=eY ((Vbreab.segments ps).map fun s=>g s.1 s.2)
 rw [List.length_map,len]at this
 rw [←this]
 refine congrArg (fun h=>(List.range (ps.length-1)).filterMap h) (funext fun i=>?_)
 rw [List.getElem?_map,seg_at]
 cases ps[i]?<;>cases ps[i+1]?<;>rfl
theorem R3 {α:Type} (l:List α) (g:α→Int):l.map (fun s=>V.int (g s))=(l.map g).map V.int:=by rw [List.map_map];rfl
section
variable {P:Program} {w:World} {K:PySem.W.Frag} {mg:Str→Option Value} {base:Heap} {f:Addr} {fd:FuncData} {CN CT:Addr}
noncomputable abbrev yg:Stmt:=top 53
theorem R4:aW ["east","north"] ["east","north"] (aF yg):=⟨rfl,rfl,rfl,by decide +kernel,rfl,by decide +kernel,by decide +kernel⟩
noncomputable def Az (q:Pt):Bool:=Vbreab.within q.x (-1000) 1000&&Vbreab.within q.y (-1000) 1000
noncomputable def vX:Sp:=fun vs H Q _=>∃x y:Int,vs=[.int x,.int y]∧Q (.bl (Az ⟨x,y⟩)) H
theorem R5 (F:cI K "in_bounds" "in_bounds" yg f fd) (T:Txt mg)  : cz P w K mg base fH 1 f fd ["east","north"] vX:=by
 skip
 refine F.ok R4 (fun vs H Q E h=>?_) (fun cdv A outer s H vs Q E hr h=>?_)
 ·obtain ⟨x,y,rfl,_⟩:=h
  rfl
 ·obtain ⟨x,y,rfl,q⟩:=h
  refine ⟨_,(aB (aH (vB (o9 lM lM (o8 jj (bN rfl T.yU)) (pv 0) (bN rfl T.yU)) (pD (o9 lM lM (o8 jj (bN rfl T.yU)) (pv 1) (bN rfl T.yU)))))),?_⟩
  open_ks with []
  unfold Az Vbreab.within at q
  by_cases h1:-1000≤x<;>by_cases h2:x≤1000<;>by_cases h3:-1000≤y<;>by_cases h4:y≤1000<;>simp [h1,h2,h3,h4]at q ⊢<;>exact q
noncomputable abbrev qC:Stmt:=top 54
theorem jT:aW ["numbers","rates","east","north"] ["numbers"] (aF qC):=⟨rfl,rfl,rfl,by decide +kernel,rfl,by decide +kernel,by decide +kernel⟩
theorem K5 (l:List Int):Vbreab.ratesOf l=(Vbreab.pairs l).bind fun p=>if p.all Az=true∧p.length≠0 then some p else none:=rfl
inductive uv (K:PySem.W.Frag) (vs:List V) (H:Hp) (Q:VK) (E:XK):Prop where
 | mk (a:Addr) (l:List Int) (_:vs=[.ref a]) (_:b7 K H a (l.map V.int)) (_:l.length≤60) (_:(match Vbreab.ratesOf l with | none=>∀H',aK H H'→Q .non H' | some ps=>∀H' p,H p=none→cu H' p ps→aK H H'→Q (.ref p) H')):uv K vs H Q E
theorem Oj (F:cI K "rates_told" "rates_told" qC f fd) (T:Txt mg) (fj:ik P w K mg base "pairs_told" 1 ["numbers"] (gr K)) (yh:ik P w K mg base "in_bounds" 1 ["east","north"] vX):cz P w K mg base fH 2 f fd ["numbers"] (uv K):=by
 obtain ⟨_,_,jn,jo,jq,jr⟩:=fj;obtain ⟨_,_,Ol,Om,Oo,Oq⟩:=yh
 refine F.ok jT (fun vs H Q E h=>?_) (fun cdv A outer s H vs Q E hr h=>?_)
 ·obtain ⟨a,l,rfl,_⟩:=h
  rfl
 ·obtain ⟨a,l,rfl,hs,hl,k⟩:=h
  refine ⟨_,(ao (aY (i:=1) jT.nd rfl (Or.inl rfl) (aM jn (hr.mono (by decide)) rfl jo jq jr .nil aO (aj (pv 0) ak))) (ao (cC (PW.pt (Qg (bV tW (pv 1) eU (bQ _)) (El (bV uQ (bF aZ (by rfl) T.cZ PySem.boot_len (aj (pv 1) ak)) aG (bQ _))))) (aB (aH eU)) bH) (ao (cC (eV (cP (bF (Wx rfl) (by rfl) T.abo boot_all (aj (qX (own:=[("east",2),("north",3)]) rfl jT.nd (jA (pv 1)) (eE (N:=["numbers","rates","east","north"]) (sc:=aF qC) (by decide +kernel)) (fun _ _ _ _ _=>(show PG _ _ (Ul K 2 _) from qR rfl (cR (cA (i:=2) jT.nd rfl (Or.inl rfl)) (cR (cA (i:=3) jT.nd rfl (Or.inl rfl)) lK)))) (fun _ _ _ _ _=>jV) (fun _ _ _ _ _=>(aM Ol (hr.mono (by decide)) rfl Om Oo Oq .nil aO (aj (pv 2) (aj (pv 3) ak))))) ak)))) (aB (aH eU)) bH) (aB (aH (pv 1)))))),?_⟩
  open_ks with [gr]
  refine ⟨l,hs,hl,?_⟩
  rw [K5]at k
  obtain ⟨o1,o2⟩:=pairs_len l.length l (Nat.le_refl _)
  cases hp:Vbreab.pairs l with
  | none=>
   simp only [hp,Option.bind_none]at k
   intro H' sm
   exact k H' sm
  | some ps=>
   simp only [hp,Option.bind_some]at k
   intro H1 p hpn hpt s1
   have hps:2*ps.length=l.length:=by
    by_cases e:l.length % 2=1
    ·rw [o1 e]at hp;cases hp
    ·obtain ⟨ps',e1,e2,_⟩:=o2 (by omega)
     rw [hp]at e1;cases e1;exact e2
   obtain ⟨as,h1,h2⟩:=id hpt
   have la:as.length=ps.length:=bC h2
   refine ⟨_,.inl (b7.of h1),?_⟩
   rw [List.length_map,la]
   refine qx (fun h3=>?_) (fun h3=>?_)
   ·rw [if_neg (by omega)]at k
    exact k H1 s1
   refine ⟨⟨_,b7.of h1⟩,?_⟩
   refine gK.val (n:=(as.map V.ref).length) (fun i=>ps[i]?.map fun q=>V.bl (Az q)) (by rw [List.length_map];omega) (vH (b7.of h1)) (fun i H2 x H' R R' hi sm hy hR _=>?_) (fun D H2 hD hH sm=>?_)
   ·obtain ⟨rfl,hy⟩:=hy
    have hx:=hy _ (b7.of (sm _ _ h1))
    obtain ⟨q,hq⟩:∃q,ps[i]?=some q:=⟨_,List.getElem?_eq_getElem (by rw [List.length_map]at hi;omega)⟩
    obtain ⟨aq,Hq,pq⟩:=bc h2 hq
    rw [List.getElem?_map,Hq]at hx
    cases hx
    refine ⟨aq,_,rfl,zj.of (sm _ _ pq),rfl,?_⟩
    open_ks with [wL,Ho,wipe,Ex,vX]
    exact hR _ _ (by rw [hq];rfl) (aK.refl _)
   ·rw [List.length_map,la,uX,show (ps.map fun q=>V.bl (Az q))=(ps.map Az).map V.bl by simp]at hH
    refine ⟨D,_,rfl,b7.of hH,?_⟩
    refine ⟨_,rfl,?_⟩
    rw [WT]
    cases ha:ps.all Az with
    | false=>
     rw [if_neg (by rw [ha];simp)]at k
     exact k H2 (s1.trans sm)
    | true=>
     rw [if_pos ⟨ha,by omega⟩]at k
     exact k H2 p hpn (hpt.same sm) (s1.trans sm)
noncomputable abbrev qD:Stmt:=top 55
theorem iT:aW ["a","b","rates","dx","dy","east","north"] ["a","b","rates"] (aF qD):=⟨rfl,rfl,rfl,by decide +kernel,rfl,by decide +kernel,by decide +kernel⟩
inductive uw (vs:List V) (H:Hp) (Q:VK) (E:XK):Prop where
 | mk (a1 a2 al:Addr) (a b:Pt) (rs:List Pt) (_:vs=[.ref a1,.ref a2,.ref al]) (_:cB H a1 a) (_:cB H a2 b) (_:N6 a) (_:N6 b) (_:cu H al rs) (_:rs≠[]) (_:rs.length≤1000) (_:∀H',aK H H'→Q (.int (Vbreab.rate rs (Vbreab.sub b a))) H'):uw  vs H Q E
theorem Ot (F:cI K "way_counts" "way_counts" qD f fd) (T:Txt mg)  : cz P w K mg base fH 1 f fd ["a","b","rates"] uw:=by
 skip
 refine F.ok iT (fun vs H Q E h=>?_) (fun cdv A outer s H vs Q E hr h=>?_)
 ·obtain ⟨a1,a2,al,a,b,rs,rfl,_⟩:=h
  rfl
 ·obtain ⟨a1,a2,al,a,b,rs,rfl,h1,h2,n1,n2,⟨as,hl,pl⟩,h0,hlen,k⟩:=h
  have la:as.length=rs.length:=bC pl
  refine ⟨_,(ao (aY (i:=3) iT.nd rfl (Or.inr rfl) (bU dh (bA cQ (pv 1) aG (fun _ _=>rfl)) (bA cQ (pv 0) aG (fun _ _=>rfl)))) (ao (aY (i:=4) iT.nd rfl (Or.inr rfl) (bU dh (bA cQ (pv 1) aG (fun _ _=>rfl)) (bA cQ (pv 0) aG (fun _ _=>rfl)))) (aB (aH (bF (aef rfl) (by rfl) T.Yt boot_max (aj (qX (own:=[("east",5),("north",6)]) rfl iT.nd (jA (pv 2)) (eE (N:=["a","b","rates","dx","dy","east","north"]) (sc:=aF qD) (by decide +kernel)) (fun _ _ _ _ _=>(show PG _ _ (Ul K 2 _) from qR rfl (cR (cA (i:=5) iT.nd rfl (Or.inl rfl)) (cR (cA (i:=6) iT.nd rfl (Or.inl rfl)) lK)))) (fun _ _ _ _ _=>jV) (fun _ _ _ _ _=>(bU d8 (bU qT (pv 3) (pv 5)) (bU qT (pv 4) (pv 6))))) ak)))))),?_⟩
  open_ks with [h1.iff,h2.iff]
  refine ⟨⟨_,b7.of hl⟩,?_⟩
  obtain ⟨p1,p2,p3,p4⟩:=n1
  obtain ⟨q1,q2,q3,q4⟩:=n2
  refine gK.val (n:=(as.map V.ref).length) (fun i=>rs[i]?.map fun q=>V.int (Vbreab.dot q (Vbreab.sub b a))) (by rw [List.length_map];omega) (vH (b7.of hl)) (fun i H2 x H' R R' hi sm hy hR _=>?_) (fun D H2 hD hH sm=>?_)
  ·obtain ⟨rfl,hy⟩:=hy
   have hx:=hy _ (b7.of (sm _ _ hl))
   obtain ⟨q,hq⟩:∃q,rs[i]?=some q:=⟨_,List.getElem?_eq_getElem (by rw [List.length_map]at hi;omega)⟩
   obtain ⟨aq,Hq,pq⟩:=bc pl hq
   rw [List.getElem?_map,Hq]at hx
   cases hx
   refine ⟨aq,_,rfl,zj.of (sm _ _ pq),rfl,?_⟩
   open_ks with [wL,Ho,wipe,Ex]
   refine ⟨zW.near (by omega),zW.near (by omega),?_⟩
   have e:(b.x-a.x)*q.x+(b.y-a.y)*q.y=Vbreab.dot q (Vbreab.sub b a):=by
    simp only [Vbreab.dot,Vbreab.sub]
    rw [Int.mul_comm (b.x-a.x),Int.mul_comm (b.y-a.y)]
   rw [e]
   exact hR _ _ (by rw [hq];rfl) (aK.refl _)
  ·rw [List.length_map,la,uX,R3]at hH
   refine ⟨D,_,rfl,b7.of hH,?_,fun m h3 h4=>?_⟩
   ·rw [List.length_map]
    cases rs with
    | nil=>exact absurd rfl h0
    | cons x l=>simp
   ·rw [←az.aaK h0 _ h3 h4]
    exact k H2 sm
noncomputable abbrev qF:Stmt:=top 56
theorem ux:aW ["places","rates","k"] ["places","rates"] (aF qF):=⟨rfl,rfl,rfl,by decide +kernel,rfl,by decide +kernel,by decide +kernel⟩
inductive uz (vs:List V) (H:Hp) (Q:VK) (E:XK):Prop where
 | mk (ap al:Addr) (ps rs:List Pt) (_:vs=[.ref ap,.ref al]) (_:cu H ap ps) (_:jC ps) (_:ps.length≤2000000) (_:cu H al rs) (_:rs≠[]) (_:rs.length≤1000) (_:∀H',aK H H'→Q (.int (Vbreab.measure rs ps)) H'):uz  vs H Q E
theorem Ou (F:cI K "measure_of" "measure_of" qF f fd) (T:Txt mg) (vY:ik P w K mg base "way_counts" 1 ["a","b","rates"] uw):cz P w K mg base fH 2 f fd ["places","rates"] uz:=by
 obtain ⟨_,_,K6,K7,K8,K9⟩:=vY
 refine F.ok ux (fun vs H Q E h=>?_) (fun cdv A outer s H vs Q E hr h=>?_)
 ·obtain ⟨ap,al,ps,rs,rfl,_⟩:=h
  rfl
 ·obtain ⟨ap,al,ps,rs,rfl,⟨as,ha,pa⟩,na,hlen,hl,h0,hrs,k⟩:=h
  have la:as.length=ps.length:=bC pa
  refine ⟨_,(aB (aH (bF (aba rfl) (by rfl) T.adB boot_sum (aj (qX (own:=[("k",2)]) rfl ux.nd (yQ rfl T.vI (aj (bU dh (bF aZ (by rfl) T.cZ PySem.boot_len (aj (pv 0) ak)) aG) ak)) (eE (N:=["places","rates","k"]) (sc:=aF qF) (by decide +kernel)) (fun _ _ _ _ _=>(cA (i:=2) ux.nd rfl (Or.inl rfl))) (fun _ _ _ _ _=>jV) (fun _ _ _ _ _=>(aM K6 (hr.mono (by decide)) rfl K7 K8 K9 .nil aO (aj (bA (show Wt _ (gj K) from bB) (pv 0) (pv 2) (fun _ _=>rfl)) (aj (bA (show Wt _ (gj K) from bB) (pv 0) (bU d8 (pv 2) aG) (fun _ _=>rfl)) (aj (pv 1) ak)))))) ak)))),?_⟩
  open_ks with []
  refine ⟨_,.inl (b7.of ha),by omega,by rw [List.length_map];omega,?_⟩
  rw [List.length_map,la,show ((ps.length:Int)-1).toNat=ps.length-1 by omega]
  refine gK.val (n:=ps.length-1) (fun i=>match ps[i]?,ps[i+1]? with
   | some p,some q=>some (V.int (Vbreab.rate rs (Vbreab.sub q p)))
   | _,_=>none) (by omega) WL (fun i H2 x H' R R' hi sm hy hR _=>?_) (fun D H2 hD hH sm=>?_)
  ·obtain ⟨rfl,rfl⟩:=hy
   obtain ⟨p,hp⟩:∃p,ps[i]?=some p:=⟨_,List.getElem?_eq_getElem (by omega)⟩
   obtain ⟨q,hq⟩:∃q,ps[i+1]?=some q:=⟨_,List.getElem?_eq_getElem (by omega)⟩
   obtain ⟨bp,hbp,pp⟩:=bc pa hp
   obtain ⟨bq,hbq,pq⟩:=bc pa hq
   have i1:oO (as.map V.ref) (0+(i:Int))=some (.ref bp):=at_of (j:=i) (by omega) (by rw [List.getElem?_map,hbp];rfl)
   have i2:oO (as.map V.ref) (0+(i:Int)+1)=some (.ref bq):=at_of (j:=i+1) (by omega) (by rw [List.getElem?_map,hbq];rfl)
   open_ks with [wipe,Ex,gj]
   refine ⟨_,b7.of (sm _ _ ha),_,i1,_,b7.of (sm _ _ ha),_,i2,?_⟩
   refine ⟨bp,bq,al,p,q,rs,rfl,pp.same sm,pq.same sm,na p (List.mem_of_getElem? hp),na q (List.mem_of_getElem? hq),hl.same sm,h0,hrs,fun H3 s3=>?_⟩
   exact hR _ _ (by rw [hp,hq]) s3
  ·rw [YG (fun p q=>V.int (Vbreab.rate rs (Vbreab.sub q p))),R3]at hH
   refine ⟨D,_,rfl,b7.of hH,?_⟩
   rw [←az.Uj]
   exact k H2 sm
noncomputable abbrev yX:Stmt:=top 30
theorem Ba:aW ["places","place","k"] ["places","place"] (aF yX):=⟨rfl,rfl,rfl,by decide +kernel,rfl,by decide +kernel,by decide +kernel⟩
inductive Bb (vs:List V) (H:Hp) (Q:VK) (E:XK):Prop where
 | mk (ap a1:Addr) (ps:List Pt) (p:Pt) (_:vs=[.ref ap,.ref a1]) (_:cu H ap ps) (_:jC ps) (_:ps.length≤2000000) (_:cB H a1 p) (_:N6 p) (_:∀H',aK H H'→Q (.int ((Vbreab.segments ps).map fun s=>az.tU s.1 s.2 p).sum) H'):Bb  vs H Q E
theorem W7 (F:cI K "winding" "winding" yX f fd) (T:Txt mg) (gM:ik P w K mg base "ray_crossing" 3 ["a","b","place"] jW):cz P w K mg base fH 4 f fd ["places","place"] Bb:=by
 obtain ⟨_,_,nH,nJ,nM,nO⟩:=gM
 refine F.ok Ba (fun vs H Q E h=>?_) (fun cdv A outer s H vs Q E hr h=>?_)
 ·obtain ⟨ap,a1,ps,p,rfl,_⟩:=h
  rfl
 ·obtain ⟨ap,a1,ps,c,rfl,⟨as,ha,pa⟩,na,hlen,h1,n1,k⟩:=h
  have la:as.length=ps.length:=bC pa
  refine ⟨_,(aB (aH (bF (aba rfl) (by rfl) T.adB boot_sum (aj (qX (own:=[("k",2)]) rfl Ba.nd (yQ rfl T.vI (aj (bU dh (bF aZ (by rfl) T.cZ PySem.boot_len (aj (pv 0) ak)) aG) ak)) (eE (N:=["places","place","k"]) (sc:=aF yX) (by decide +kernel)) (fun _ _ _ _ _=>(cA (i:=2) Ba.nd rfl (Or.inl rfl))) (fun _ _ _ _ _=>jV) (fun _ _ _ _ _=>(aM nH (hr.mono (by decide)) rfl nJ nM nO .nil aO (aj (bA (show Wt _ (gj K) from bB) (pv 0) (pv 2) (fun _ _=>rfl)) (aj (bA (show Wt _ (gj K) from bB) (pv 0) (bU d8 (pv 2) aG) (fun _ _=>rfl)) (aj (pv 1) ak)))))) ak)))),?_⟩
  open_ks with []
  refine ⟨_,.inl (b7.of ha),by omega,by rw [List.length_map];omega,?_⟩
  rw [List.length_map,la,show ((ps.length:Int)-1).toNat=ps.length-1 by omega]
  refine gK.val (n:=ps.length-1) (fun i=>match ps[i]?,ps[i+1]? with
   | some p,some q=>some (V.int (az.tU p q c))
   | _,_=>none) (by omega) WL (fun i H2 x H' R R' hi sm hy hR _=>?_) (fun D H2 hD hH sm=>?_)
  ·obtain ⟨rfl,rfl⟩:=hy
   obtain ⟨p,hp⟩:∃p,ps[i]?=some p:=⟨_,List.getElem?_eq_getElem (by omega)⟩
   obtain ⟨q,hq⟩:∃q,ps[i+1]?=some q:=⟨_,List.getElem?_eq_getElem (by omega)⟩
   obtain ⟨bp,hbp,pp⟩:=bc pa hp
   obtain ⟨bq,hbq,pq⟩:=bc pa hq
   have i1:oO (as.map V.ref) (0+(i:Int))=some (.ref bp):=at_of (j:=i) (by omega) (by rw [List.getElem?_map,hbp];rfl)
   have i2:oO (as.map V.ref) (0+(i:Int)+1)=some (.ref bq):=at_of (j:=i+1) (by omega) (by rw [List.getElem?_map,hbq];rfl)
   open_ks with [wipe,Ex,gj]
   refine ⟨_,b7.of (sm _ _ ha),_,i1,_,b7.of (sm _ _ ha),_,i2,?_⟩
   refine ⟨bp,bq,a1,p,q,c,rfl,pp.same sm,pq.same sm,h1.same sm,na p (List.mem_of_getElem? hp),na q (List.mem_of_getElem? hq),n1,?_⟩
   exact hR _ _ (by rw [hp,hq]) (aK.refl _)
  ·rw [YG (fun p q=>V.int (az.tU p q c)),R3]at hH
   refine ⟨D,_,rfl,b7.of hH,?_⟩
   exact k H2 sm
noncomputable abbrev rK:Stmt:=top 29
theorem pO:aW ["letters","kept","letter"] ["letters"] (aF rK):=⟨rfl,rfl,rfl,by decide +kernel,rfl,by decide +kernel,by decide +kernel⟩
inductive pP (vs:List V) (H:Hp) (Q:VK) (E:XK):Prop where
 | mk (a:Addr) (ws:List Int) (_:vs=[.ref a]) (_:H a=some (.lst (ws.map V.int))) (_:ws.length≤100000) (_:∀H' p,H p=none→H' p=some (.lst ((Vbreab.reduce ws).map V.int))→aK H H'→Q (.ref p) H'):pP  vs H Q E
theorem vZ:∀ws:List Int,(Vbreab.reduce ws).length≤ws.length
 | []=>by simp [Vbreab.reduce]
 | z::ws=>by
  rw [az.xf]
  have:=vZ ws
  unfold az.zA
  split
  ·rename_i y q e
   have e':=congrArg List.length e
   simp only [List.length_cons]at this e' ⊢
   split
   ·omega
   ·simp only [List.length_cons];omega
  ·simp
theorem Hz (F:cI K "reduced_word" "reduced_word" rK f fd) (T:Txt mg)  : cz P w K mg base fH 1 f fd ["letters"] pP:=by
 skip
 refine F.ok pO (fun vs H Q E h=>?_) (fun cdv A outer s H vs Q E hr h=>?_)
 ·obtain ⟨a,ws,rfl,_⟩:=h
  rfl
 ·obtain ⟨a,ws,rfl,ha,hlen,k⟩:=h
  refine ⟨_,(ao (aY (i:=1) pO.nd rfl (Or.inl rfl) (bL ak)) (ao (vC PassesOwn.never rfl (jA (pv 0)) (cA (i:=2) pO.nd rfl (Or.inl rfl)) (aB (cC (PW.pt (Em (bV xm (bF aZ (by rfl) T.cZ PySem.boot_len (aj (pv 1) ak)) aG (bQ _)) (BX (bV uQ (bA bB (pv 1) (o8 jj aG) (fun _ _=>rfl)) (o8 jj (pv 2)) (bQ _))))) (aB (gU (aeb PySem.F.plainAttrs_list PySem.F.slot_list_pop PySem.F.type_list_pop aed (pv 1)))) (aB (gU (uR PySem.F.plainAttrs_list PySem.F.slot_list_append PySem.F.type_list_append jB (pv 1) (aj (pv 2) ak))))))) (aB (aH (pv 1))))),?_⟩
  open_ks with []
  intro p hp
  have s0:aK H (upd H p (.lst [])):=aK.new hp
  refine ⟨⟨_,b7.of (s0 _ _ ha)⟩,?_⟩
  refine Loop.list (xs:=ws.map V.int) (fun i σ H'=>∃v,σ=[some (.ref a),some (.ref p),v]∧H' p=some (.lst ((Vbreab.reduce (ws.take i)).map V.int))∧aK H H') ⟨none,rfl,aA,s0⟩ (fun i σ H' _ ⟨_,_,_,sm⟩=>b7.of (sm _ _ ha)) ?_ ?_
  ·rintro i x σ H' hx ⟨v,rfl,hp',sm⟩
   obtain ⟨z,hz,rfl⟩:∃z,ws[i]?=some z∧x=.int z:=by
    rw [List.getElem?_map]at hx
    cases e:ws[i]? with
    | none=>rw [e]at hx;cases hx
    | some z=>rw [e]at hx;exact ⟨z,rfl,(Option.some.inj hx).symm⟩
   have R6:=az.Ug hz
   have rl:(Vbreab.reduce (ws.take i)).length≤100000:=Nat.le_trans (vZ _) (by rw [List.length_take];omega)
   have kp:∀o,∀b u,H b=some u→(upd H' p o) b=some u:=fun o b u hb=>by rw [aJ (bw hb hp)];exact sm _ _ hb
   have ty:=Yw (K:=K) hp'
   generalize Vbreab.reduce (ws.take i)=R0 at *
   unfold az.lH at R6
   have hz':(R0.map V.int).length<sizeLine:=by rw [List.length_map];exact Nat.lt_of_le_of_lt rl (by decide)
   open_ks with [gj,tBM,qu,aec,ty,hp',HO.lst.injEq,hz']
   refine ⟨_,.inl (b7.of hp'),?_⟩
   rw [List.length_map]
   rcases List.eq_nil_or_concat R0 with rfl | ⟨R1,y,rfl⟩
   ·rw [if_neg (by simp)]
    rw [if_neg (by simp)]at R6
    refine ⟨?_,kp _⟩
    rw [aA,R6,List.map_append];rfl
   ·simp only [List.concat_eq_append]at *
    rw [if_pos (by simp)]
    refine ⟨_,b7.of hp',.int y,by rw [List.map_append];exact J3 _ _,rfl,?_⟩
    rw [List.getLast?_append]at R6
    simp only [List.getLast?_singleton,Option.some_or,Option.some.injEq,List.dropLast_concat]at R6
    by_cases e:y=-z
    ·rw [if_pos e]at R6
     rw [if_pos (by rw [e])]
     have hlast:((R1++[y]).map V.int)[((R1++[y]).map V.int).length-1]?=some (.int y):=by
      simp
     open_ks with [afH,aec,ty,hp',HO.lst.injEq,hlast]
     refine ⟨?_,kp _⟩
     rw [aA,R6,List.map_append]
     simp
    ·rw [if_neg e]at R6
     rw [if_neg (by intro q;exact e (V.int.inj q))]
     refine ⟨?_,kp _⟩
     rw [aA,R6];simp
  ·rintro σ H' ⟨v,rfl,hp',sm⟩
   rw [List.length_map,List.take_length]at hp'
   open_ks with []
   exact k H' p hp hp' sm
end
theorem La {α β:Type} (l:List α) (g:α→Option β):(List.range l.length).filterMap (fun i=>l[i]?.bind g)=l.filterMap g:=by
 have:=eY l
 conv=>rhs;rw [←this]
 rw [List.filterMap_filterMap]
theorem qG {α β:Type} (p:α→Bool) (g:α→β):∀l:List α,l.filterMap (fun x=>if p x=true then some (g x) else none)=(l.filter p).map g
 | []=>rfl
 | x::l=>by
  rw [List.filterMap_cons,List.filter_cons]
  cases h:p x
  ·simp [qG p g l]
  ·simp [qG p g l]
noncomputable def lB (R:List Nat):List V:=R.map fun m=>V.int (m:Nat)
theorem Vi {R:List Nat} {i m:Nat} (h:R[i]?=some m):(lB R)[i]?=some (.int (m:Nat)):=by unfold lB;rw [List.getElem?_map,h];rfl
section
variable {P:Program} {w:World} {K:PySem.W.Frag} {mg:Str→Option Value} {base:Heap} {f:Addr} {fd:FuncData} {CN CT:Addr}
noncomputable abbrev iz:Stmt:=top 27
theorem gO:aW ["a","b","marks","rays","number"] ["a","b","marks","rays"] (aF iz):=⟨rfl,rfl,rfl,by decide +kernel,rfl,by decide +kernel,by decide +kernel⟩
inductive nW (vs:List V) (H:Hp) (Q:VK) (E:XK):Prop where
 | mk (a1 a2 am ar:Addr) (a b:Pt) (ms:List Pt) (R:List Nat) (_:vs=[.ref a1,.ref a2,.ref am,.ref ar]) (_:cB H a1 a) (_:cB H a2 b) (_:N6 a) (_:N6 b) (_:cu H am ms) (_:az.bK ms) (_:ms.length≤16) (_:H ar=some (.lst (lB R))) (_:az.tQ ms R) (_:∀H' p,H p=none→H' p=some (.lst ((Vbreab.crossings ms a b).map V.int))→aK H H'→Q (.ref p) H'):nW  vs H Q E
theorem FP (F:cI K "piece_letters" "piece_letters" iz f fd) (T:Txt mg) (dX:ik P w K mg base "passes_eastward" 2 ["a","b","place"] dj):cz P w K mg base fH 3 f fd ["a","b","marks","rays"] nW:=by
 obtain ⟨_,_,eG,eH,eN,eO⟩:=dX
 refine F.ok gO (fun vs H Q E h=>?_) (fun cdv A outer s H vs Q E hr h=>?_)
 ·obtain ⟨a1,a2,am,ar,a,b,ms,R,rfl,_⟩:=h
  rfl
 ·obtain ⟨a1,a2,am,ar,a,b,ms,R,rfl,h1,h2,n1,n2,⟨as,hm,pm⟩,jM,j4,hr',hR,k⟩:=h
  have hc:=az.qQ jM hR a b
  have lR:R.length=ms.length:=by rw [hR.perm.length_eq,List.length_range]
  have lV:(lB R).length=R.length:=by unfold lB;rw [List.length_map]
  have mem:∀m∈R,m<ms.length:=fun m h=>List.mem_range.1 (hR.perm.mem_iff.1 h)
  refine ⟨_,(ao (cC (bV qU (bA cQ (pv 0) aG (fun _ _=>rfl)) (bA cQ (pv 1) aG (fun _ _=>rfl)) (bQ _)) (aB (aH (qX (own:=[("number",4)]) rfl gO.nd (jA (pv 3)) (eE (N:=["a","b","marks","rays","number"]) (sc:=aF iz) (by decide +kernel)) (fun _ _ _ _ _=>(cA (i:=4) gO.nd rfl (Or.inl rfl))) (fun _ _ _ _ _=>(Je (cP (aM eG (hr.mono (by decide)) rfl eH eN eO .nil aO (aj (pv 0) (aj (pv 1) (aj (bA (show Wt _ (gj K) from bB) (pv 2) (pv 4) (fun _ _=>rfl)) ak))))))) (fun _ _ _ _ _=>(o8 jj (bU d8 (pv 4) aG)))))) bH) (aB (aH (qX (own:=[("number",4)]) rfl gO.nd (UL rfl T.Kd (aj (pv 3) ak)) (eE (N:=["a","b","marks","rays","number"]) (sc:=aF iz) (by decide +kernel)) (fun _ _ _ _ _=>(cA (i:=4) gO.nd rfl (Or.inl rfl))) (fun _ _ _ _ _=>(Je (cP (aM eG (hr.mono (by decide)) rfl eH eN eO .nil aO (aj (pv 1) (aj (pv 0) (aj (bA (show Wt _ (gj K) from bB) (pv 2) (pv 4) (fun _ _=>rfl)) ak))))))) (fun _ _ _ _ _=>(bU d8 (pv 4) aG)))))),?_⟩
  open_ks with [h1.iff,h2.iff]
  refine qx (fun hlt=>?_) (fun hge=>?_)
  ·rw [if_pos hlt]at hc
   refine ⟨⟨_,b7.of hr'⟩,?_⟩
   refine gK.val (n:=(lB R).length) (fun i=>R[i]?.bind fun m=>if az.Ej ms a b m=true then some (V.int (-((m:Int)+1))) else none) (by omega) (vH (b7.of hr')) (fun i H2 x H' R1 R2 hi sm hy hk1 hk2=>?_) (fun D H2 hD hH sm=>?_)
   ·obtain ⟨rfl,hy⟩:=hy
    have hx:=hy _ (b7.of (sm _ _ hr'))
    obtain ⟨m,hmR⟩:∃m,R[i]?=some m:=⟨_,List.getElem?_eq_getElem (by omega)⟩
    rw [Vi hmR]at hx
    cases hx
    obtain ⟨q,hq⟩:∃q,ms[m]?=some q:=⟨_,List.getElem?_eq_getElem (mem m (List.mem_of_getElem? hmR))⟩
    obtain ⟨aq,Hq,pq⟩:=bc pm hq
    have nq:=jM.near q (List.mem_of_getElem? hq)
    have i1:oO (as.map V.ref) ((m:Nat):Int)=some (.ref aq):=at_of (j:=m) rfl (by rw [List.getElem?_map,Hq];rfl)
    simp only [hmR,Option.bind_some,az.JM hlt hq]at hk1 hk2
    have g1:=h1.same sm
    have g2:=h2.same sm
    have g3:=pq.same sm
    open_ks with [wipe,gj]
    refine ⟨_,b7.of (sm _ _ hm),_,i1,?_⟩
    open_ks with [dj,g1.iff,g2.iff,g3.iff,n1,n2,nq]
    cases he:az.lu a b q<;>simp [he]at hk1 hk2 ⊢
    ·exact hk2 _ (aK.refl _)
    ·exact hk1 _ _ rfl (aK.refl _)
   ·rw [lV,La,qG]at hH
    refine k H2 D hD ?_ sm
    rw [hH,hc,List.map_map];rfl
  ·rw [if_neg hge]at hc
   refine ⟨_,b7.of hr',?_⟩
   refine gK.val (n:=(lB R).length) (fun i=>R.reverse[i]?.bind fun m=>if az.Ej ms a b m=true then some (V.int ((m:Int)+1)) else none) (by omega) (aen (b7.of hr')) (fun i H2 x H' R1 R2 hi sm hy hk1 hk2=>?_) (fun D H2 hD hH sm=>?_)
   ·obtain ⟨rfl,hy⟩:=hy
    have hx:=hy _ (b7.of (sm _ _ hr'))
    obtain ⟨m,hmR⟩:∃m,R[R.length-1-i]?=some m:=⟨_,List.getElem?_eq_getElem (by omega)⟩
    rw [lV,Vi hmR]at hx
    cases hx
    have ahE:R.reverse[i]?=some m:=by rw [List.getElem?_reverse (by omega)];exact hmR
    obtain ⟨q,hq⟩:∃q,ms[m]?=some q:=⟨_,List.getElem?_eq_getElem (mem m (List.mem_of_getElem? hmR))⟩
    obtain ⟨aq,Hq,pq⟩:=bc pm hq
    have nq:=jM.near q (List.mem_of_getElem? hq)
    have i1:oO (as.map V.ref) ((m:Nat):Int)=some (.ref aq):=at_of (j:=m) rfl (by rw [List.getElem?_map,Hq];rfl)
    simp only [ahE,Option.bind_some,az.JN hge hq]at hk1 hk2
    have g1:=h1.same sm
    have g2:=h2.same sm
    have g3:=pq.same sm
    open_ks with [wipe,gj]
    refine ⟨_,b7.of (sm _ _ hm),_,i1,?_⟩
    open_ks with [dj,g1.iff,g2.iff,g3.iff,n1,n2,nq]
    cases he:az.lu b a q<;>simp [he]at hk1 hk2 ⊢
    ·exact hk2 _ (aK.refl _)
    ·exact hk1 _ _ rfl (aK.refl _)
   ·rw [lV,show R.length=R.reverse.length by simp,La,qG]at hH
    refine k H2 D hD ?_ sm
    rw [hH,hc,List.map_map];rfl
noncomputable abbrev uA:Stmt:=top 45
theorem Lb:aW ["port","starboard","many"] ["port","starboard","many"] (aF uA):=⟨rfl,rfl,rfl,by decide +kernel,rfl,by decide +kernel,by decide +kernel⟩
noncomputable def nameB (many:Int) (q:Pt):Bool:=Vbreab.within q.x (-1) (many-1)&&(Vbreab.within q.y (-1) (many-1)&&!(q.x == -1&&q.y == -1))
noncomputable def rM:Sp:=fun vs H Q _=>∃x y n:Int,vs=[.int x,.int y,.int n]∧Q (.bl (nameB n ⟨x,y⟩)) H
theorem Ld (F:cI K "names_marks" "names_marks" uA f fd) (T:Txt mg)  : cz P w K mg base fH 1 f fd ["port","starboard","many"] rM:=by
 skip
 refine F.ok Lb (fun vs H Q E h=>?_) (fun cdv A outer s H vs Q E hr h=>?_)
 ·obtain ⟨x,y,n,rfl,_⟩:=h
  rfl
 ·obtain ⟨x,y,n,rfl,q⟩:=h
  refine ⟨_,(ao (cC (eV (PW.pt (Em (JZ lM qU (bN rfl T.uV) (pv 0) (pv 2)) (BX (JZ lM qU (bN rfl T.uV) (pv 1) (pv 2)))))) (aB (aH adt)) bH) (aB (aH (aaS (fQ Uo (pv 0) (bN rfl T.uV) (bQ _)) (pD (fQ Uo (pv 1) (bN rfl T.uV) (bQ _))))))),?_⟩
  open_ks with []
  unfold nameB Vbreab.within at q
  have e1:x≤n-1↔x<n:=by omega
  have e2:y≤n-1↔y<n:=by omega
  simp only [e1,e2]at q
  have e3:(x == -1&&y == -1)=decide (x=-1∧y=-1):=by
   by_cases h5:x=-1<;>by_cases h6:y=-1<;>simp [h5,h6]
  rw [e3]at q
  refine qx (fun h1=>?_) (fun h1=>?_)
  ·refine qx (fun h2=>?_) (fun h2=>?_)
   ·refine qx (fun h3=>?_) (fun h3=>?_)
    ·refine qx (fun h4=>?_) (fun h4=>?_)
     ·refine NQ q ?_
      have:¬y<n:=by simpa using h4
      simp [this]
     ·have g4:y<n:=by simpa using h4
      refine qx (fun h5=>?_) (fun h5=>?_)
      ·have g5:¬x=-1:=by simpa using h5
       refine NQ q ?_
       simp [h1,h2,h3,g4,g5]
      ·have g5:x=-1:=by simpa using h5
       refine NQ q ?_
       rw [decide_eq_true (show -1≤x∧x<n from ⟨h1,h2⟩),decide_eq_true (show -1≤y∧y<n from ⟨h3,g4⟩),Bool.true_and,Bool.true_and]
       by_cases h6:y=-1
       ·rw [decide_eq_true (show x=-1∧y=-1 from ⟨g5,h6⟩),decide_eq_true h6]
       ·rw [decide_eq_false (fun z=>h6 z.2),decide_eq_false h6]
    ·exact NQ q (by simp [h3])
   ·exact NQ q (by simp [h2])
  ·exact NQ q (by simp [h1])
noncomputable abbrev oY:Stmt:=top 46
theorem jx:aW ["numbers","many","course","port","starboard"] ["numbers","many"] (aF oY):=⟨rfl,rfl,rfl,by decide +kernel,rfl,by decide +kernel,by decide +kernel⟩
noncomputable def tK (many:Nat) (l:List Int):Option (List Pt):=(Vbreab.pairs l).bind fun p=>if p.all (nameB (many:Nat))=true then some p else none
inductive rN (K:PySem.W.Frag) (vs:List V) (H:Hp) (Q:VK) (E:XK):Prop where
 | mk (a:Addr) (l:List Int) (n:Nat) (_:vs=[.ref a,.int n]) (_:b7 K H a (l.map V.int)) (_:l.length≤60) (_:(match tK n l with | none=>∀H',aK H H'→Q .non H' | some ps=>∀H' p,H p=none→cu H' p ps→aK H H'→Q (.ref p) H')):rN K vs H Q E
theorem Lf (F:cI K "course_told" "course_told" oY f fd) (T:Txt mg) (fj:ik P w K mg base "pairs_told" 1 ["numbers"] (gr K)) (uB:ik P w K mg base "names_marks" 1 ["port","starboard","many"] rM):cz P w K mg base fH 2 f fd ["numbers","many"] (rN K):=by
 obtain ⟨_,_,jn,jo,jq,jr⟩:=fj;obtain ⟨_,_,HB,HD,HF,HH⟩:=uB
 refine F.ok jx (fun vs H Q E h=>?_) (fun cdv A outer s H vs Q E hr h=>?_)
 ·obtain ⟨a,l,n,rfl,_⟩:=h
  rfl
 ·obtain ⟨a,l,n,rfl,hs,hl,k⟩:=h
  refine ⟨_,(ao (aY (i:=2) jx.nd rfl (Or.inl rfl) (aM jn (hr.mono (by decide)) rfl jo jq jr .nil aO (aj (pv 0) ak))) (ao (cC (bV tW (pv 2) eU (bQ _)) (aB (aH eU)) bH) (ao (cC (eV (cP (bF (Wx rfl) (by rfl) T.abo boot_all (aj (qX (own:=[("port",3),("starboard",4)]) rfl jx.nd (jA (pv 2)) (eE (N:=["numbers","many","course","port","starboard"]) (sc:=aF oY) (by decide +kernel)) (fun _ _ _ _ _=>(show PG _ _ (Ul K 2 _) from qR rfl (cR (cA (i:=3) jx.nd rfl (Or.inl rfl)) (cR (cA (i:=4) jx.nd rfl (Or.inl rfl)) lK)))) (fun _ _ _ _ _=>jV) (fun _ _ _ _ _=>(aM HB (hr.mono (by decide)) rfl HD HF HH .nil aO (aj (pv 3) (aj (pv 4) (aj (pv 1) ak)))))) ak)))) (aB (aH eU)) bH) (aB (aH (pv 2)))))),?_⟩
  open_ks with [gr]
  refine ⟨l,hs,hl,?_⟩
  unfold tK at k
  obtain ⟨o1,o2⟩:=pairs_len l.length l (Nat.le_refl _)
  cases hp:Vbreab.pairs l with
  | none=>
   simp only [hp,Option.bind_none]at k
   intro H' sm
   exact k H' sm
  | some ps=>
   simp only [hp,Option.bind_some]at k
   intro H1 p hpn hpt s1
   have hps:2*ps.length=l.length:=by
    by_cases e:l.length % 2=1
    ·rw [o1 e]at hp;cases hp
    ·obtain ⟨ps',e1,e2,_⟩:=o2 (by omega)
     rw [hp]at e1;cases e1;exact e2
   obtain ⟨as,h1,h2⟩:=id hpt
   have la:as.length=ps.length:=bC h2
   refine ⟨⟨_,b7.of h1⟩,?_⟩
   refine gK.val (n:=(as.map V.ref).length) (fun i=>ps[i]?.map fun q=>V.bl (nameB n q)) (by rw [List.length_map];omega) (vH (b7.of h1)) (fun i H2 x H' R R' hi sm hy hR _=>?_) (fun D H2 hD hH sm=>?_)
   ·obtain ⟨rfl,hy⟩:=hy
    have hx:=hy _ (b7.of (sm _ _ h1))
    obtain ⟨q,hq⟩:∃q,ps[i]?=some q:=⟨_,List.getElem?_eq_getElem (by rw [List.length_map]at hi;omega)⟩
    obtain ⟨aq,Hq,pq⟩:=bc h2 hq
    rw [List.getElem?_map,Hq]at hx
    cases hx
    refine ⟨aq,_,rfl,zj.of (sm _ _ pq),rfl,?_⟩
    open_ks with [wL,Ho,wipe,Ex,rM]
    exact hR _ _ (by rw [hq];rfl) (aK.refl _)
   ·rw [List.length_map,la,uX,show (ps.map fun q=>V.bl (nameB n q))=(ps.map (nameB n)).map V.bl by simp]at hH
    refine ⟨D,_,rfl,b7.of hH,?_⟩
    refine ⟨_,rfl,?_⟩
    rw [WT]
    cases ha:ps.all (nameB (n:Nat)) with
    | false=>
     rw [if_neg (by rw [ha];simp)]at k
     exact k H2 (s1.trans sm)
    | true=>
     rw [if_pos ha]at k
     exact k H2 p hpn (hpt.same sm) (s1.trans sm)
end
noncomputable def mK (course:List Pt) (n:Nat):Bool:=course.any fun q=>decide ((n:Int)=q.x)||decide ((n:Int)=q.y)
noncomputable def yj (course ms:List Pt):List Pt:=(List.range ms.length).filterMap fun i=>if mK course i=true then ms[i]? else none
theorem aeD {α:Type} (l:List α) (g:α→Bool):(l.map g).any id=l.any g:=by simp [List.any_map]
section
variable {P:Program} {w:World} {K:PySem.W.Frag} {mg:Str→Option Value} {base:Heap} {f:Addr} {fd:FuncData} {CN CT:Addr}
noncomputable abbrev oZ:Stmt:=top 47
theorem fO:aW ["course","marks","number","place","port","starboard"] ["course","marks"] (aF oZ):=⟨rfl,rfl,rfl,by decide +kernel,rfl,by decide +kernel,by decide +kernel⟩
noncomputable abbrev yl:Scope:={ kind:=.function,names:=[(Str.ofString ".0",.local),(Str.ofString "number",.cell),(Str.ofString "place",.local),(Str.ofString "any",.globalImplicit),(Str.ofString "course",.cell)],isGenerator:=false,isCoroutine:=false }
inductive rO (vs:List V) (H:Hp) (Q:VK) (E:XK):Prop where
 | mk (ac am:Addr) (course ms:List Pt) (_:vs=[.ref ac,.ref am]) (_:cu H ac course) (_:cu H am ms) (_:ms.length≤16) (_:course.length≤1000) (_:∀H' p,H p=none→cu H' p (yj course ms)→aK H H'→Q (.ref p) H'):rO  vs H Q E
theorem Lg (F:cI K "marks_named" "marks_named" oZ f fd) (T:Txt mg)  : cz P w K mg base fH 1 f fd ["course","marks"] rO:=by
 skip
 refine F.ok fO (fun vs H Q E h=>?_) (fun cdv A outer s H vs Q E hr h=>?_)
 ·obtain ⟨ac,am,course,ms,rfl,_⟩:=h
  rfl
 ·obtain ⟨ac,am,course,ms,rfl,⟨cs,hc,pc⟩,⟨as,hm,pm⟩,j4,hcl,k⟩:=h
  have la:as.length=ms.length:=bC pm
  have lc:cs.length=course.length:=bC pc
  refine ⟨_,(aB (aH (qX (own:=[("number",2),("place",3)]) rfl fO.nd (Ck rfl T.ph (aj (pv 1) ak)) (eE (N:=["course","marks","number","place","port","starboard"]) (sc:=aF oZ) (by decide +kernel)) (fun _ _ _ _ _=>(show PG _ _ (Ul K 2 _) from qR rfl (cR (cA (i:=2) fO.nd rfl (Or.inr rfl)) (cR (cA (i:=3) fO.nd rfl (Or.inl rfl)) lK)))) (fun _ _ _ _ _=>(Je (cP (bF (show Cd _ _ (afI K) from aeg rfl) (by rfl) T.afT boot_any (aj (qX (own:=[("port",4),("starboard",5)]) rfl fO.nd (show PI _ _ _ (Yd K _) from jA (pv 0)) (eE (N:=["course","marks","number","place","port","starboard"]) (sc:=yl) (by decide +kernel)) (fun _ _ _ _ _=>(show PG _ _ (Ul K 2 _) from qR rfl (cR (cA (i:=4) fO.nd rfl (Or.inl rfl)) (cR (cA (i:=5) fO.nd rfl (Or.inl rfl)) lK)))) (fun _ _ _ _ _=>jV) (fun _ _ _ _ _=>(aaS (fQ uQ (pv 2) (pv 4) (bQ _)) (pD (fQ uQ (pv 2) (pv 5) (bQ _)))))) ak))))) (fun _ _ _ _ _=>(pv 3))))),?_⟩
  open_ks with []
  refine ⟨_,b7.of hm,?_⟩
  refine gK.rel (n:=(as.map V.ref).length) (fun i=>if mK course i=true then ms[i]? else none) PtV PtV.stay (by rw [List.length_map];omega) (abm (b7.of hm)) (fun i H2 x H' R R' hi sm hy hR hR'=>?_) (fun D H2 ys hD hH hp sm=>?_)
  ·obtain ⟨T0,y,rfl,hT,rfl,hy⟩:=hy
   have hx:=hy _ (b7.of (sm _ _ hm))
   rw [List.length_map,la]at hi
   obtain ⟨q,hq⟩:∃q,ms[i]?=some q:=⟨_,List.getElem?_eq_getElem hi⟩
   obtain ⟨aq,Hq,pq⟩:=bc pm hq
   rw [List.getElem?_map,Hq]at hx
   cases hx
   have s1:aK H2 (upd H2 T0 (.tup [.int (i:Nat),.ref aq])):=aK.new hT
   have s12:=sm.trans s1
   refine ⟨T0,_,rfl,zj.of aA,rfl,?_⟩
   open_ks with [wL,Ho,wipe]
   refine ⟨⟨_,b7.of (s12 _ _ hc)⟩,?_⟩
   refine gK.val (n:=(cs.map V.ref).length) (fun j=>course[j]?.map fun g=>V.bl (decide ((i:Int)=g.x)||decide ((i:Int)=g.y))) (by rw [List.length_map];omega) (vH (b7.of (s12 _ _ hc))) (fun j H3 x H4 R1 R2 hj sm3 hy3 hR3 _=>?_) (fun D3 H3 hD3 hH3 sm3=>?_)
   ·obtain ⟨rfl,hy3⟩:=hy3
    have hx:=hy3 _ (b7.of (sm3 _ _ (s12 _ _ hc)))
    obtain ⟨g,hg⟩:∃g,course[j]?=some g:=⟨_,List.getElem?_eq_getElem (by rw [List.length_map]at hj;omega)⟩
    obtain ⟨ag,hag,pg⟩:=bc pc hg
    rw [List.getElem?_map,hag]at hx
    cases hx
    refine ⟨ag,_,rfl,zj.of (sm3 _ _ (s12 _ _ pg)),rfl,?_⟩
    open_ks with [wL,Ho,wipe,Ex]
    have e:=hR3 _ H4 (by rw [hg];rfl) (aK.refl _)
    by_cases c1:(i:Int)=g.x<;>simp [c1]at e ⊢<;>exact e
   ·rw [List.length_map,lc,uX,show (course.map fun g=>V.bl (decide ((i:Int)=g.x)||decide ((i:Int)=g.y)))=(course.map fun g=>(decide ((i:Int)=g.x)||decide ((i:Int)=g.y))).map V.bl by simp]at hH3
    refine ⟨D3,_,rfl,b7.of hH3,?_⟩
    rw [aeD]
    show ∃c,V.bl (mK course i)=V.bl c∧_
    refine ⟨_,rfl,?_⟩
    cases hn:mK course i with
    | true=>
     simp only [hn,if_true,hq]at hR
     open_ks with []
     exact hR _ q _ rfl ⟨aq,rfl,(pq.same s12).same sm3⟩ (s1.trans sm3)
    | false=>
     simp only [hn,Bool.false_eq_true,if_false]at hR'
     open_ks with []
     exact hR' _ trivial (s1.trans sm3)
  ·rw [List.length_map,la]at hp
   obtain ⟨bs,rfl,pb⟩:=Rz hp
   exact k H2 D hD ⟨bs,hH,pb⟩ sm
noncomputable abbrev R7:Stmt:=top 48
theorem Vj:aW ["touch","gate","marks","number"] ["touch","gate","marks"] (aF R7):=⟨rfl,rfl,rfl,by decide +kernel,rfl,by decide +kernel,by decide +kernel⟩
noncomputable def mW (ms:List Pt) (q:Pt) (x:Pt×Vbreab.Touch):Bool:=!decide ((if x.2.side=1 then q.x else q.y)=-1)&&decide (ms[(if x.2.side=1 then q.x else q.y).toNat]?=some x.1)
inductive Lh (CT:Addr) (vs:List V) (H:Hp) (Q:VK) (E:XK):Prop where
 | mk (a g am:Addr) (x:Pt×Vbreab.Touch) (q:Pt) (ms:List Pt) (_:vs=[.ref a,.ref g,.ref am]) (_:jX CT H a x) (_:cB H g q) (_:cu H am ms) (_:nameB (ms.length:Nat) q=true) (_:Q (.bl (mW ms q x)) H):Lh CT vs H Q E
theorem FQ (p q:Pt):PyData.eqv (.tuple [.int p.x,.int p.y]) (.tuple [.int q.x,.int q.y])=decide (p=q):=by
 have e:PyData.eqv (.tuple [.int p.x,.int p.y]) (.tuple [.int q.x,.int q.y])=(p.x == q.x&&p.y == q.y):=by
  simp [PyData.eqv,PyData.eqvAll]
 rw [e]
 obtain ⟨a,b⟩:=p
 obtain ⟨c,d⟩:=q
 by_cases h1:a=c<;>by_cases h2:b=d<;>simp [h1,h2]
theorem wV {H:Hp} {a:Addr} {p:Pt} (h:cB H a p):Dp K H (.ref a) (.tuple [.int p.x,.int p.y]):=.tup (zj.of h) (.cons (.int _) (.cons (.int _) .nil))
theorem aby (R:acS K CT) (F:cI K "meets" "meets" R7 f fd) (T:Txt mg)  : cz P w K mg base fH 1 f fd ["touch","gate","marks"] (Lh CT):=by
 skip
 refine F.ok Vj (fun vs H Q E h=>?_) (fun cdv A outer s H vs Q E hr h=>?_)
 ·obtain ⟨a,g,am,x,q,ms,rfl,_⟩:=h
  rfl
 ·obtain ⟨a,g,am,x,q,ms,rfl,⟨dx,ap,ho,hpx⟩,hg,⟨as,hm,pm⟩,hname,k⟩:=h
  have la:as.length=ms.length:=bC pm
  refine ⟨_,(ao (aY (i:=3) Vj.nd rfl (Or.inl rfl) (o7 (bV uQ (bG (pv 0) rfl) aG (bQ _)) (bA cQ (pv 1) aG (fun _ _=>rfl)) (bA cQ (pv 1) aG (fun _ _=>rfl)))) (aB (aH (vB (fQ Uo (pv 3) (bN rfl T.uV) (bQ _)) (pD (fQ (abb hr.units) (bA bB (pv 2) (pv 3) (fun _ _=>rfl)) (bG (pv 0) rfl) (bQ _))))))),?_⟩
  open_ks with [gh,ho,HO.ins.injEq,R.cl,R.place,R.side,KC,YB,hg.iff]
  unfold nameB Vbreab.within at hname
  simp only [Bool.and_eq_true,decide_eq_true_eq]at hname
  have fin:∀z:Int,(if x.2.side=1 then q.x else q.y)=z→-1≤z→z≤(ms.length:Int)-1→(if (!decide (z=-1))=true then gj K (V.ref am) (V.int z) H fun x H1=>∃x_1 x_2 x_3,H1 a=some (HO.ins x_1 x_2 x_3)∧Uq K x_1∧gV K x_1 (Str.ofString "place")∧∃x_4,List.lookup (Str.ofString "place") x_3=some x_4∧afJ K x x_4 H1 Q else Q (V.bl false) H):=by
   intro z hz h1 h2
   unfold mW at k
   rw [hz]at k
   refine qx (fun h3=>?_) (fun h3=>?_)
   ·have g3:¬z=-1:=by simpa using h3
    obtain ⟨p,hp⟩:∃p,ms[z.toNat]?=some p:=⟨_,List.getElem?_eq_getElem (by omega)⟩
    obtain ⟨aq,Hq,pq⟩:=bc pm hp
    refine ⟨am,_,z,_,rfl,rfl,b7.of hm,at_of (j:=z.toNat) (by omega) (by rw [List.getElem?_map,Hq];rfl),CT,dx,_,ho,R.cl,R.place,_,KC _ _ _ _ _,?_⟩
    refine ⟨_,_,wV pq,wV hpx,by rfl,by rfl,?_⟩
    rw [FQ]
    refine NQ k ?_
    rw [hp,decide_eq_false g3]
    simp
   ·have g3:z=-1:=by simpa using h3
    refine NQ k ?_
    rw [decide_eq_true g3];rfl
  refine qx (fun h1=>?_) (fun h1=>?_)
  ·exact fin q.x (if_pos h1) hname.1.1 hname.1.2
  ·exact fin q.y (if_neg h1) hname.2.1.1 hname.2.1.2
end
open Vbreab (Pt State Node Touch)
noncomputable def dY (me:Pt→Pt×Touch→Bool):List Pt→List ((Pt×Touch)×Nat)→List Nat
 | [],_=>[]
 | e::r,l=>match l.dropWhile fun x=>!me e x.1 with
  | []=>[]
  | x::q=>x.2::dY me r q
section
variable {me:Pt→Pt×Touch→Bool}
theorem Vk (C:List Pt):dY me C []=[]:=by cases C<;>rfl
theorem Vl {e:Pt} {C:List Pt} {t:Pt×Touch} {i:Nat} {l:List ((Pt×Touch)×Nat)} (h:me e t=true):dY me (e::C) ((t,i)::l)=i::dY me C l:=by
 simp [dY,List.dropWhile_cons,h]
theorem R8 {e:Pt} {C:List Pt} {t:Pt×Touch} {i:Nat} {l:List ((Pt×Touch)×Nat)} (h:me e t=false):dY me (e::C) ((t,i)::l)=dY me (e::C) l:=by
 simp [dY,List.dropWhile_cons,h]
theorem ahG {ts:List (Pt×Touch)} {i:Nat} {t:Pt×Touch} (h:ts[i]?=some t):(ts.drop i).zipIdx i=(t,i)::(ts.drop (i+1)).zipIdx (i+1):=by
 obtain ⟨hi,e⟩:=List.getElem?_eq_some_iff.1 h
 rw [List.drop_eq_getElem_cons hi,List.zipIdx_cons,e]
theorem G9:∀(C:List Pt) (l:List ((Pt×Touch)×Nat)),(dY me C l).length≤C.length
 | [],_=>by simp [dY]
 | e::r,l=>by
  unfold dY
  split
  ·simp
  ·simp only [List.length_cons];exact Nat.succ_le_succ (G9 r _)
end
noncomputable def yo (l:List Nat):List V:=l.map fun n=>V.int (n:Nat)
section
variable {P:Program} {w:World} {K:PySem.W.Frag} {mg:Str→Option Value} {base:Heap} {f:Addr} {fd:FuncData} {CN CT:Addr}
noncomputable abbrev pQ:Stmt:=top 49
theorem jF:aW ["touches","course","marks","taken","number","touch"] ["touches","course","marks"] (aF pQ):=⟨rfl,rfl,rfl,by decide +kernel,rfl,by decide +kernel,by decide +kernel⟩
inductive nY (CT:Addr) (vs:List V) (H:Hp) (Q:VK) (E:XK):Prop where
 | mk (at_ ac am:Addr) (ts:List (Pt×Touch)) (course ms:List Pt) (_:vs=[.ref at_,.ref ac,.ref am]) (_:Qw CT H at_ ts) (_:cu H ac course) (_:cu H am ms) (_:course.length≤1000) (_:(∀q∈course,nameB (ms.length:Nat) q=true)) (_:∀H' p,H p=none→H' p=some (.lst (yo (dY (mW ms) course ts.zipIdx)))→aK H H'→Q (.ref p) H'):nY CT vs H Q E
theorem FT (F:cI K "taken_touches" "taken_touches" pQ f fd) (T:Txt mg) (R9:ik P w K mg base "meets" 1 ["touch","gate","marks"] (Lh CT)):cz P w K mg base fH 2 f fd ["touches","course","marks"] (nY CT):=by
 obtain ⟨_,_,ZM,ZP,ZQ,ZR⟩:=R9
 refine F.ok jF (fun vs H Q E h=>?_) (fun cdv A outer s H vs Q E hr h=>?_)
 ·obtain ⟨at_,ac,am,ts,course,ms,rfl,_⟩:=h
  rfl
 ·obtain ⟨at_,ac,am,ts,course,ms,rfl,⟨as,ht,pt⟩,⟨cs,hc,pc⟩,hm,hcl,hname,k⟩:=h
  have la:as.length=ts.length:=bC pt
  have lc:cs.length=course.length:=bC pc
  refine ⟨_,(ao (aY (i:=3) jF.nd rfl (Or.inl rfl) (bL ak)) (ao (vC PassesOwn.never rfl (Ck rfl T.ph (aj (pv 0) ak)) (qR rfl (cR (cA (i:=4) jF.nd rfl (Or.inl rfl)) (cR (cA (i:=5) jF.nd rfl (Or.inl rfl)) lK))) (ao (cC (bV uQ (bF aZ (by rfl) T.cZ PySem.boot_len (aj (pv 3) ak)) (bF aZ (by rfl) T.cZ PySem.boot_len (aj (pv 1) ak)) (bQ _)) (aB aaU) bH) (aB (cC (cP (aM ZM (hr.mono (by decide)) rfl ZP ZQ ZR .nil aO (aj (pv 5) (aj (bA bB (pv 1) (bF aZ (by rfl) T.cZ PySem.boot_len (aj (pv 3) ak)) (fun _ _=>rfl)) (aj (pv 2) ak))))) (aB (gU (uR PySem.F.plainAttrs_list PySem.F.slot_list_append PySem.F.type_list_append jB (pv 3) (aj (pv 4) ak)))) bH)))) (aB (aH (pv 3))))),?_⟩
  open_ks with []
  intro p hp
  have s0:aK H (upd H p (.lst [])):=aK.new hp
  refine ⟨_,b7.of (s0 _ _ ht),?_⟩
  refine Loop.enum (xs:=as.map V.ref) (fun i σ H'=>∃v4 v5 tk,σ=[some (.ref at_),some (.ref ac),some (.ref am),some (.ref p),v4,v5]∧H' p=some (.lst (yo tk))∧dY (mW ms) course ts.zipIdx=tk++dY (mW ms) (course.drop tk.length) ((ts.drop i).zipIdx i)∧tk.length≤course.length∧aK H H')
   ⟨none,none,[],rfl,aA,by simp,Nat.zero_le _,s0⟩ (fun i σ H' _ ⟨_,_,_,_,_,_,_,sm⟩=>b7.of (sm _ _ ht)) ?_ ?_
  ·rintro i x σ H' T0 hx ⟨v4,v5,tk,rfl,hp',hf,hlen,sm⟩ hT
   obtain ⟨a,ha,rfl⟩:∃a,as[i]?=some a∧x=.ref a:=by
    rw [List.getElem?_map]at hx
    cases e:as[i]? with
    | none=>rw [e]at hx;cases hx
    | some a=>rw [e]at hx;exact ⟨a,rfl,(Option.some.inj hx).symm⟩
   obtain ⟨t,htt⟩:∃t,ts[i]?=some t:=⟨_,List.getElem?_eq_getElem (by have:=(List.getElem?_eq_some_iff.1 ha).1;omega)⟩
   obtain ⟨a',ha',pa⟩:=bc pt htt
   rw [ha]at ha'
   cases ha'
   have s1:aK H' (upd H' T0 (.tup [.int (i:Nat),.ref a])):=aK.new hT
   have sm1:=sm.trans s1
   have hp1:=s1 _ _ hp'
   refine ⟨T0,_,rfl,zj.of aA,rfl,?_⟩
   have ty:=Yw (K:=K) hp1
   have ln:(yo tk).length=tk.length:=by unfold yo;rw [List.length_map]
   have hz:(yo tk).length<sizeLine:=by rw [ln];exact Nat.lt_of_le_of_lt (show tk.length≤1000 by omega) (by decide)
   rw [ahG htt]at hf
   have kp:∀o b u,H b=some u→(upd (upd H' T0 (.tup [.int (i:Nat),.ref a])) p o) b=some u:=fun o b u hb=>by rw [aJ (bw hb hp)];exact sm1 _ _ hb
   open_ks with [wL,Ho,tBM,qu,ty,hp1,HO.lst.injEq,hz,aaT]
   refine ⟨_,.inl (b7.of hp1),_,.inl (b7.of (sm1 _ _ hc)),?_⟩
   rw [ln,List.length_map,lc]
   refine qx (fun he=>?_) (fun he=>?_)
   ·have e:tk.length=course.length:=by
     have:((tk.length:Int)=(course.length:Int)):=by simpa using he
     omega
    have e':course.drop tk.length=[]:=by rw [e];simp
    rw [e']at hf
    simp only [dY,List.append_nil]at hf
    rw [←hf]at hp1
    exact k _ p hp hp1 sm1
   ·have lt:tk.length<course.length:=by
     have:¬((tk.length:Int)=(course.length:Int)):=by simpa using he
     omega
    obtain ⟨g,hg⟩:∃g,course[tk.length]?=some g:=⟨_,List.getElem?_eq_getElem lt⟩
    have hdr:course.drop tk.length=g::course.drop (tk.length+1):=by
     obtain ⟨h1,e⟩:=List.getElem?_eq_some_iff.1 hg
     rw [List.drop_eq_getElem_cons h1,e]
    obtain ⟨ag,hag,pg⟩:=bc pc hg
    have i1:oO (cs.map V.ref) ((tk.length:Nat):Int)=some (.ref ag):=at_of (j:=tk.length) rfl (by rw [List.getElem?_map,hag];rfl)
    refine ⟨_,.inl (b7.of hp1),?_⟩
    rw [ln]
    refine ⟨ac,_,_,_,rfl,rfl,b7.of (sm1 _ _ hc),i1,?_⟩
    refine ⟨a,ag,am,t,g,ms,rfl,(pa.same sm).same s1,(pg.same sm).same s1,(hm.same sm).same s1,hname g (List.mem_of_getElem? hg),?_⟩
    rw [hdr]at hf
    refine ⟨_,rfl,?_⟩
    cases hme:mW ms g t with
    | true=>
     rw [if_pos rfl]
     rw [Vl hme]at hf
     refine ⟨ty,_,hp1,hz,tk++[i],?_,?_,by rw [List.length_append,List.length_singleton];omega,kp _⟩
     ·rw [aA];unfold yo;rw [List.map_append];rfl
     ·rw [hf,List.length_append,List.length_singleton];simp
    | false=>
     rw [if_neg (by simp)]
     rw [R8 hme,←hdr]at hf
     exact ⟨tk,hp1,hf,hlen,sm1⟩
  ·rintro σ H' ⟨v4,v5,tk,rfl,hp',hf,hlen,sm⟩
   rw [List.length_map,la]at hf
   simp only [List.drop_length,List.zipIdx_nil,Vk,List.append_nil]at hf
   rw [←hf]at hp'
   open_ks with []
   exact k H' p hp hp' sm
theorem YH {course ms:List Pt} {p:Pt} (h:p∈yj course ms):p∈ms:=by
 unfold yj at h
 rw [List.mem_filterMap]at h
 obtain ⟨i,_,e⟩:=h
 split at e
 ·exact List.mem_of_getElem? e
 ·cases e
theorem Ov {ms:List Pt} (hm:az.bK ms) (g:Nat→Bool):∀(n:Nat) (i j:Nat) (p:Pt),((List.range n).filterMap fun i=>if g i=true then ms[i]? else none)[i]?=some p→((List.range n).filterMap fun i=>if g i=true then ms[i]? else none)[j]?=some p→i=j:=by
 intro n
 have mem:∀(n:Nat) (i:Nat) (p:Pt),((List.range n).filterMap fun i=>if g i=true then ms[i]? else none)[i]?=some p→∃k,k<n∧ms[k]?=some p:=by
  intro n i p h
  have:=List.mem_of_getElem? h
  rw [List.mem_filterMap]at this
  obtain ⟨k,hk,e⟩:=this
  split at e
  ·exact ⟨k,List.mem_range.1 hk,e⟩
  ·cases e
 induction n with
 | zero=>intro i j p h;simp at h
 | succ n ih=>
  intro i j p h1 h2
  rw [List.range_succ,List.filterMap_append]at h1 h2
  generalize hL:(List.range n).filterMap (fun i=>if g i=true then ms[i]? else none)=L at *
  cases hx:(if g n=true then ms[n]? else none) with
  | none=>
   have e0:List.filterMap (fun i=>if g i=true then ms[i]? else none) [n]=[]:=by simp only [List.filterMap_cons,hx,List.filterMap_nil]
   rw [e0,List.append_nil]at h1 h2
   exact ih i j p h1 h2
  | some x=>
   have e0:List.filterMap (fun i=>if g i=true then ms[i]? else none) [n]=[x]:=by simp only [List.filterMap_cons,hx,List.filterMap_nil]
   rw [e0]at h1 h2
   have hxn:ms[n]?=some x:=by
    split at hx
    ·exact hx
    ·cases hx
   by_cases c1:i<L.length<;>by_cases c2:j<L.length
   ·rw [List.getElem?_append_left c1]at h1
    rw [List.getElem?_append_left c2]at h2
    exact ih i j p h1 h2
   ·rw [List.getElem?_append_left c1]at h1
    rw [List.getElem?_append_right (by omega)]at h2
    obtain ⟨k,hk,e⟩:=mem n i p (by rw [hL];exact h1)
    have:x=p:=by
     have:=List.mem_of_getElem? h2
     exact (List.mem_singleton.1 this).symm
    subst this
    have:=hm.apart _ _ _ e hxn
    omega
   ·rw [List.getElem?_append_left c2]at h2
    rw [List.getElem?_append_right (by omega)]at h1
    obtain ⟨k,hk,e⟩:=mem n j p (by rw [hL];exact h2)
    have:x=p:=by
     have:=List.mem_of_getElem? h1
     exact (List.mem_singleton.1 this).symm
    subst this
    have:=hm.apart _ _ _ e hxn
    omega
   ·rw [List.getElem?_append_right (by omega)]at h1 h2
    have g1:=(List.getElem?_eq_some_iff.1 h1).1
    have g2:=(List.getElem?_eq_some_iff.1 h2).1
    simp at g1 g2
    omega
theorem abz {course ms:List Pt} (hm:az.bK ms):az.bK (yj course ms):=
 ⟨fun p hp=>hm.near p (YH hp),fun i j p h1 h2=>Ov hm (mK course) ms.length i j p h1 h2⟩
theorem sub_len (course ms:List Pt):(yj course ms).length≤ms.length:=by
 unfold yj
 have:=List.length_filterMap_le (fun i=>if mK course i=true then ms[i]? else none) (List.range ms.length)
 rwa [List.length_range]at this
theorem Qy {course ms tr:List Pt} (t:gC ms tr):gC (yj course ms) tr:=⟨t.near,t.two,t.most,fun s hs m hm=>t.clear s hs m (YH hm)⟩
noncomputable abbrev nZ:Stmt:=top 50
theorem CW:aW ["places","course","marks"] ["places","course","marks"] (aF nZ):=⟨rfl,rfl,rfl,by decide +kernel,rfl,by decide +kernel,by decide +kernel⟩
inductive mL (vs:List V) (H:Hp) (Q:VK) (E:XK):Prop where
 | mk (ap ac am:Addr) (tr course ms:List Pt) (_:vs=[.ref ap,.ref ac,.ref am]) (_:cu H ap tr) (_:cu H ac course) (_:cu H am ms) (_:az.bK ms) (_:ms.length≤16) (_:gC ms tr) (_:course.length≤1000) (_:(∀q∈course,nameB (ms.length:Nat) q=true)) (_:∀H' p,H p=none→H' p=some (.lst (yo (dY (mW ms) course (az.wX (Vbreab.stringOf (yj course ms) tr)).zipIdx)))→aK H H'→Q (.ref p) H'):mL  vs H Q E
theorem CZ (F:cI K "sailed_touches" "sailed_touches" nZ f fd) (T:Txt mg) (uC:ik P w K mg base "marks_named" 1 ["course","marks"] rO) (fD:ik P w K mg base "string_touches" 8 ["places","marks"] (jd CT)) (pR:ik P w K mg base "taken_touches" 2 ["touches","course","marks"] (nY CT)):cz P w K mg base fH 9 f fd ["places","course","marks"] mL:=by
 obtain ⟨_,_,HJ,HN,HQ,HR⟩:=uC;obtain ⟨_,_,kj,km,kE,kI⟩:=fD;obtain ⟨_,_,Dc,Dd,De,Df⟩:=pR
 refine F.ok CW (fun vs H Q E h=>?_) (fun cdv A outer s H vs Q E hr h=>?_)
 ·obtain ⟨ap,ac,am,tr,course,ms,rfl,_⟩:=h
  rfl
 ·obtain ⟨ap,ac,am,tr,course,ms,rfl,ha,hc,hm,jM,j4,tok,hcl,hname,k⟩:=h
  refine ⟨_,(aB (aH (aM Dc (hr.mono (by decide)) rfl Dd De Df .nil aO (aj (aM kj (hr.mono (by decide)) rfl km kE kI .nil aO (aj (pv 0) (aj (aM HJ (hr.mono (by decide)) rfl HN HQ HR .nil aO (aj (pv 1) (aj (pv 2) ak))) ak))) (aj (pv 1) (aj (pv 2) ak)))))),?_⟩
  open_ks with []
  refine ⟨ac,am,course,ms,rfl,hc,hm,j4,hcl,fun H1 q hq hs s1=>?_⟩
  refine ⟨ap,q,tr,yj course ms,rfl,ha.same s1,hs,abz jM,Nat.le_trans (sub_len _ _) j4,Qy tok,fun H2 l hl ht _ _ s2=>?_⟩
  have s12:=s1.trans s2
  refine ⟨l,ac,am,_,course,ms,rfl,ht,hc.same s12,hm.same s12,hcl,hname,fun H3 p hp hf s3=>?_⟩
  exact k H3 p (s12.free hp) hf (s12.trans s3)
end
structure jZ (s:State):Prop where
 marks:az.bK s.marks
 few:s.marks.length≤16
 tracks:∀tr∈s.tracks,gC s.marks tr
 most:s.tracks.length≤8
theorem Jj {ps:List Pt} {s:Pt×Pt} (h:s∈Vbreab.segments ps):∃i,ps[i]?=some s.1∧ps[i+1]?=some s.2:=by
 obtain ⟨i,hi⟩:=List.mem_iff_getElem?.1 h
 rw [seg_at]at hi
 refine ⟨i,?_⟩
 cases h1:ps[i]? with
 | none=>rw [h1]at hi;cases hi
 | some p=>
  cases h2:ps[i+1]? with
  | none=>rw [h1,h2]at hi;cases hi
  | some q=>rw [h1,h2]at hi;cases hi;exact ⟨rfl,rfl⟩
theorem yZ {ps:List Pt} {i:Nat} {p q:Pt} (h1:ps[i]?=some p) (h2:ps[i+1]?=some q):(p,q)∈Vbreab.segments ps:=by
 apply List.mem_iff_getElem?.2
 exact ⟨i,by rw [seg_at,h1,h2]⟩
theorem Ha {ms ps:List Pt}:az.lE ms ps↔∀i m,¬U5 ms ps i m:=by
 constructor
 ·rintro h i m ⟨p,q,r,e1,e2,e3,e4⟩
  have:=h (p,q) (yZ e1 e2) r (List.mem_of_getElem? e3)
  rw [e4]at this;cases this
 ·intro h s hs m hm
  obtain ⟨i,h1,h2⟩:=Jj hs
  obtain ⟨j,hj⟩:=List.mem_iff_getElem?.1 hm
  cases e:Vbreab.onSegment s.1 s.2 m with
  | false=>rfl
  | true=>exact absurd ⟨s.1,s.2,m,h1,h2,hj,e⟩ (h i j)
theorem Hb {ms ps:List Pt} (h:Vbreab.touching ms ps=none):az.lE ms ps:=by
 rw [Ha]
 intro i m hh
 have ex:∃i,∃m,U5 ms ps i m:=⟨i,m,hh⟩
 have wf:∀n,(∃i,i≤n∧∃m,U5 ms ps i m)→∃i,(∃m,U5 ms ps i m)∧∀j,j<i→∀m,¬U5 ms ps j m:=by
  intro n
  induction n with
  | zero=>rintro ⟨i,hi,hm⟩;exact ⟨0,by rwa [show i=0 by omega]at hm,fun j hj=>by omega⟩
  | succ n ih=>
   rintro ⟨i,hi,hm⟩
   by_cases c:∃i,i≤n∧∃m,U5 ms ps i m
   ·exact ih c
   ·refine ⟨i,hm,fun j hj m hh=>c ⟨j,by omega,m,hh⟩⟩
 obtain ⟨i0,hm0,h1⟩:=wf i ⟨i,Nat.le_refl _,m,hh⟩
 obtain ⟨m1,hm1⟩:=hm0
 have wf2:∀n,(∃m,m≤n∧U5 ms ps i0 m)→∃m,U5 ms ps i0 m∧∀j,j<m→¬U5 ms ps i0 j:=by
  intro n
  induction n with
  | zero=>rintro ⟨m,hi,hm⟩;exact ⟨0,by rwa [show m=0 by omega]at hm,fun j hj=>by omega⟩
  | succ n ih=>
   rintro ⟨m,hi,hm⟩
   by_cases c:∃m,m≤n∧U5 ms ps i0 m
   ·exact ih c
   ·refine ⟨m,hm,fun j hj hh=>c ⟨j,by omega,hh⟩⟩
 obtain ⟨m2,hm2,h2⟩:=wf2 m1 ⟨m1,Nat.le_refl _,hm1⟩
 rw [zJ hm2 h1 h2]at h
 cases h
theorem W8 {ms ps:List Pt} (h:az.lE ms ps):Vbreab.touching ms ps=none:=zH (Ha.1 h)
theorem W9 (a b p:Pt):Vbreab.onSegment b a p=Vbreab.onSegment a b p:=by
 unfold Vbreab.onSegment
 have e1:=az.Qc a b p
 have e2:Vbreab.dot (Vbreab.sub b p) (Vbreab.sub a p)=Vbreab.dot (Vbreab.sub a p) (Vbreab.sub b p):=by
  simp only [Vbreab.dot]
  rw [Int.mul_comm,Int.mul_comm (Vbreab.sub b p).y]
 rw [e2,e1,decide_eq_decide.2 (show-Vbreab.side a b p=0↔Vbreab.side a b p=0 by omega)]
theorem Ow {ms ps:List Pt} (h:az.lE ms ps):az.lE ms ps.reverse:=by
 intro s hs m hm
 obtain ⟨i,h1,h2⟩:=Jj hs
 have l2:=(List.getElem?_eq_some_iff.1 h2).1
 rw [List.length_reverse]at l2
 rw [List.getElem?_reverse (by omega)]at h1 h2
 rw [←W9]
 refine h (s.2,s.1) (yZ (i:=ps.length-1-(i+1)) h2 ?_) m hm
 rw [show ps.length-1-(i+1)+1=ps.length-1-i by omega]
 exact h1
theorem Xa {ms ps qs:List Pt} (h1:az.lE ms ps) (h2:az.lE ms qs) (e:ps.getLast?=qs.head?) (hq:2≤qs.length):az.lE ms (ps++qs.drop 1):=by
 intro s hs m hm
 obtain ⟨i,g1,g2⟩:=Jj hs
 obtain ⟨q0,r,rfl⟩:∃q0 r,qs=q0::r:=by
  cases qs with
  | nil=>simp at hq
  | cons a r=>exact ⟨a,r,rfl⟩
 simp only [List.head?_cons,List.drop_succ_cons,List.drop_zero]at e g1 g2
 by_cases c1:i+1<ps.length
 ·rw [List.getElem?_append_left (by omega)]at g1 g2
  exact h1 _ (yZ g1 g2) m hm
 ·by_cases c2:i<ps.length
  ·have ei:i+1=ps.length:=by omega
   rw [List.getElem?_append_left c2]at g1
   rw [List.getElem?_append_right (by omega),ei,Nat.sub_self]at g2
   rw [List.getLast?_eq_getElem?,show ps.length-1=i by omega,g1]at e
   have e':q0=s.1:=(Option.some.inj e).symm
   exact h2 s (yZ (ps:=q0::r) (i:=0) (by rw [e'];rfl) (by simpa using g2)) m hm
  ·rw [List.getElem?_append_right (by omega)]at g1 g2
   refine h2 _ (yZ (i:=i-ps.length+1) (by simpa using g1) ?_) m hm
   rw [show i-ps.length+1+1=i+1-ps.length+1 by omega]
   simpa using g2
theorem Xb {ms ps:List Pt} (h:az.lE ms ps) (j i:Nat):az.lE ms ((ps.take j).drop i):=by
 intro s hs m hm
 obtain ⟨k,g1,g2⟩:=Jj hs
 rw [List.getElem?_drop]at g1 g2
 have l1:=(List.getElem?_eq_some_iff.1 g1).1
 have l2:=(List.getElem?_eq_some_iff.1 g2).1
 rw [List.length_take]at l1 l2
 rw [List.getElem?_take_of_lt (by omega)]at g1 g2
 exact h _ (yZ g1 (by rw [show i+k+1=i+(k+1) by omega];exact g2)) m hm
theorem zK:jZ Vbreab.start:=⟨⟨by simp [Vbreab.start],by simp [Vbreab.start]⟩,by simp [Vbreab.start],by simp [Vbreab.start],by simp [Vbreab.start]⟩
theorem Sd {ms:List Pt} (h:az.bK ms) {p:Pt} (hp:az.Near 1000000 p) (hn:p∉ms):az.bK (ms++[p]):=by
 refine ⟨fun q hq=>?_,fun i j q h1 h2=>?_⟩
 ·rcases List.mem_append.1 hq with hq | hq
  ·exact h.near q hq
  ·rw [List.mem_singleton.1 hq];exact hp
 ·by_cases c1:i<ms.length<;>by_cases c2:j<ms.length
  ·rw [List.getElem?_append_left c1]at h1
   rw [List.getElem?_append_left c2]at h2
   exact h.apart _ _ _ h1 h2
  ·rw [List.getElem?_append_left c1]at h1
   rw [List.getElem?_append_right (by omega)]at h2
   have:=List.mem_singleton.1 (List.mem_of_getElem? h2)
   subst this
   exact absurd (List.mem_of_getElem? h1) hn
  ·rw [List.getElem?_append_left c2]at h2
   rw [List.getElem?_append_right (by omega)]at h1
   have:=List.mem_singleton.1 (List.mem_of_getElem? h1)
   subst this
   exact absurd (List.mem_of_getElem? h2) hn
  ·have g1:=(List.getElem?_eq_some_iff.1 h1).1
   have g2:=(List.getElem?_eq_some_iff.1 h2).1
   simp at g1 g2
   omega
theorem Sg {s:State} (h:jZ s) {p:Pt} (hp:az.Near 1000000 p) (hn:p∉s.marks) (hl:s.marks.length<16) (ht:s.tracks=[]):jZ { s with marks:=s.marks++[p] }:=
 ⟨Sd h.marks hp hn,by simp;omega,by simp [ht],h.most⟩
theorem zL {s:State} (h:jZ s) {ps:List Pt} (hp:gC s.marks ps) (hl:s.tracks.length<8):jZ { s with tracks:=s.tracks++[ps] }:=by
 refine ⟨h.marks,h.few,fun tr htr=>?_,by simp;omega⟩
 rcases List.mem_append.1 htr with htr | htr
 ·exact h.tracks tr htr
 ·rw [List.mem_singleton.1 htr];exact hp
theorem Vm {s:State} (h:jZ s) {ps:List Pt} (hp:gC s.marks ps) (t:Nat):jZ { s with tracks:=s.tracks.set t ps }:=by
 refine ⟨h.marks,h.few,fun tr htr=>?_,by simpa using h.most⟩
 rcases List.mem_or_eq_of_mem_set htr with htr | htr
 ·exact h.tracks tr htr
 ·rw [htr];exact hp
noncomputable def abA (z:Int):Option Nat:=if z=-1 then none else some z.toNat
noncomputable def mX (q:Pt):Vbreab.Element:=(abA q.x,abA q.y)
theorem Li (s:State) (l:List Int):Vbreab.courseOf s l=(tK s.marks.length l).map fun p=>p.map mX:=by
 unfold Vbreab.courseOf tK
 cases Vbreab.pairs l with
 | none=>rfl
 | some p=>
  simp only [Option.bind_some]
  show (if (p.all (nameB (s.marks.length:Nat)))=true then some (p.map mX) else none)=_
  split<;>rfl
theorem FW {z:Int} {n:Nat} (h:-1≤z):(abA z == some n)=decide ((n:Int)=z):=by
 unfold abA
 by_cases e:z=-1
 ·rw [if_pos e,decide_eq_false (by omega)];rfl
 ·rw [if_neg e]
  by_cases e2:(n:Int)=z
  ·rw [decide_eq_true e2];simp;omega
  ·rw [decide_eq_false e2];simp;omega
theorem FZ {n:Nat} {q:Pt} (h:nameB (n:Nat) q=true):(-1≤q.x∧q.x≤(n:Int)-1)∧(-1≤q.y∧q.y≤(n:Int)-1):=by
 unfold nameB Vbreab.within at h
 simp only [Bool.and_eq_true,decide_eq_true_eq]at h
 exact ⟨h.1,h.2.1⟩
theorem named_eq {ms course:List Pt} (hname:∀q∈course,nameB (ms.length:Nat) q=true):Vbreab.named (course.map mX)=(List.range 16).filter (mK course):=by
 unfold Vbreab.named
 refine congrArg (fun g=>(List.range 16).filter g) (funext fun n=>?_)
 unfold mK
 rw [List.any_map]
 induction course with
 | nil=>rfl
 | cons q r ih=>
  have hq:=FZ (hname q (by simp))
  rw [List.any_cons,List.any_cons,ih fun x hx=>hname x (by simp [hx])]
  congr 1
  show ((mX q).1 == some n||(mX q).2 == some n)=_
  unfold mX
  rw [FW hq.1.1,FW hq.2.1]
theorem sub_eq {ms course:List Pt} (j4:ms.length≤16) (hname:∀q∈course,nameB (ms.length:Nat) q=true):(Vbreab.named (course.map mX)).filterMap (fun m=>ms[m]?)=yj course ms:=by
 rw [named_eq hname]
 unfold yj
 have:∀(n:Nat),((List.range n).filter (mK course)).filterMap (fun m=>ms[m]?)=(List.range n).filterMap fun i=>if mK course i=true then ms[i]? else none:=by
  intro n
  induction List.range n with
  | nil=>rfl
  | cons x l ih=>
   rw [List.filter_cons,List.filterMap_cons]
   cases h:mK course x
   ·simp [ih]
   ·simp [List.filterMap_cons,ih]
 rw [this]
 have ext:∀k,(List.range (ms.length+k)).filterMap (fun i=>if mK course i=true then ms[i]? else none)=(List.range ms.length).filterMap fun i=>if mK course i=true then ms[i]? else none:=by
  intro k
  induction k with
  | zero=>rfl
  | succ k ih=>
   rw [←Nat.add_assoc,List.range_succ,List.filterMap_append,ih]
   have e:ms[ms.length+k]?=none:=List.getElem?_eq_none (by omega)
   simp [List.filterMap_cons,e]
 rw [←ext (16-ms.length),show ms.length+(16-ms.length)=16 by omega]
theorem abB {ms:List Pt}:∀(l:List Nat),(∀m∈l,m<ms.length)→∀(k:Nat) (p:Pt),(l.filterMap fun m=>ms[m]?)[k]?=some p→ms[l.getD k 0]?=some p
 | [],_,k,p,h=>by simp at h
 | x::l,hl,k,p,h=>by
  have hlt:x<ms.length:=hl x (by simp)
  have hx:ms[x]?=some ms[x]:=List.getElem?_eq_getElem hlt
  rw [List.filterMap_cons,hx]at h
  cases k with
  | zero=>simp at h;subst h;simpa using hx
  | succ k=>
   have:=abB l (fun m hm=>hl m (by simp [hm])) k p (by simpa using h)
   simpa using this
theorem Lj {ms:List Pt} {ns:List Nat} (hme:∀(q:Pt) (x:Pt×Touch),nameB (ms.length:Nat) q=true→ms[ns.getD x.2.mark 0]?=some x.1→Vbreab.meets (mX q) { x.2 with mark:=ns.getD x.2.mark 0 }=mW ms q x) :
  ∀(course:List Pt) (l:List ((Pt×Touch)×Nat)),(∀q∈course,nameB (ms.length:Nat) q=true)→(∀x∈l,ms[ns.getD x.1.2.mark 0]?=some x.1.1)→
   Vbreab.follow (course.map mX) (l.map fun x=>({ x.1.2 with mark:=ns.getD x.1.2.mark 0 },x.2))=dY (mW ms) course l
 | [],l,_,_=>rfl
 | q::r,l,hc,hl=>by
  have hq:=hc q (by simp)
  have dw:∀l:List ((Pt×Touch)×Nat),(∀x∈l,ms[ns.getD x.1.2.mark 0]?=some x.1.1)→(l.map fun x=>(({ x.1.2 with mark:=ns.getD x.1.2.mark 0 }:Touch),x.2)).dropWhile (fun x=>!Vbreab.meets (mX q) x.1)=(l.dropWhile fun x=>!mW ms q x.1).map fun x=>(({ x.1.2 with mark:=ns.getD x.1.2.mark 0 }:Touch),x.2):=by
   intro l
   induction l with
   | nil=>intro _;rfl
   | cons x l ih=>
    intro h
    rw [List.map_cons,List.dropWhile_cons,List.dropWhile_cons]
    rw [hme q x.1 hq (h x (by simp))]
    cases mW ms q x.1
    ·simp only [Bool.not_false,if_true];exact ih fun y hy=>h y (by simp [hy])
    ·simp
  rw [List.map_cons]
  unfold Vbreab.follow dY
  rw [dw l hl]
  cases hd:l.dropWhile fun x=>!mW ms q x.1 with
  | nil=>rfl
  | cons x t=>
   simp only [List.map_cons]
   congr 1
   refine Lj hme r t (fun q hq=>hc q (by simp [hq])) fun y hy=>hl y ?_
   have:y∈l.dropWhile fun x=>!mW ms q x.1:=by rw [hd];simp [hy]
   exact (List.dropWhile_sublist _).subset this
theorem acW {ms:List Pt} (jM:az.bK ms) {q:Pt} {x:Pt×Touch} {n:Nat} (hq:nameB (ms.length:Nat) q=true) (hx:ms[n]?=some x.1):Vbreab.meets (mX q) { x.2 with mark:=n }=mW ms q x:=by
 have low:=FZ hq
 unfold Vbreab.meets mW mX
 have key:∀z:Int,-1≤z→z≤(ms.length:Int)-1→(abA z == some n)=(!decide (z=-1)&&decide (ms[z.toNat]?=some x.1)):=by
  intro z h1 h2
  rw [FW h1]
  by_cases e:z=-1
  ·rw [decide_eq_false (by omega),decide_eq_true e];rfl
  ·rw [decide_eq_false e,Bool.not_false,Bool.true_and]
   apply decide_eq_decide.2
   constructor
   ·intro e2;rw [←e2,Int.toNat_natCast];exact hx
   ·intro e2
    have:=jM.apart _ _ _ hx e2
    omega
 dsimp only
 by_cases hs:x.2.side=1
 ·rw [if_pos hs,if_pos hs];exact key _ low.1.1 low.1.2
 ·rw [if_neg hs,if_neg hs];exact key _ low.2.1 low.2.2
theorem acX {ms course tr:List Pt} (jM:az.bK ms) (j4:ms.length≤16) (hname:∀q∈course,nameB (ms.length:Nat) q=true) (Hy:az.uP (yj course ms) (Vbreab.stringOf (yj course ms) tr)) :
  Vbreab.sails ms (course.map mX) tr=dY (mW ms) course (az.wX (Vbreab.stringOf (yj course ms) tr)).zipIdx:=by
 unfold Vbreab.sails Vbreab.touchesFor
 dsimp only
 have hs:=sub_eq j4 hname
 rw [hs]
 have hns:∀m∈Vbreab.named (course.map mX),m<ms.length:=by
  intro m hm
  rw [named_eq hname]at hm
  have:=(List.mem_filter.1 hm).2
  unfold mK at this
  rw [List.any_eq_true]at this
  obtain ⟨q,hq,e⟩:=this
  have low:=FZ (hname q hq)
  simp only [Bool.or_eq_true,decide_eq_true_eq]at e
  omega
 rw [az.xg,List.map_map]
 generalize hS:Vbreab.stringOf (yj course ms) tr=S at *
 rw [show List.map ((fun t:Touch=>{ t with mark:=(Vbreab.named (course.map mX)).getD t.mark 0 }) ∘ fun x:Pt×Touch=>x.2) (az.wX S)=(az.wX S).map fun x=>({ x.2 with mark:=(Vbreab.named (course.map mX)).getD x.2.mark 0 }:Touch) from rfl]
 rw [List.zipIdx_map]
 rw [show (List.map (Prod.map (fun x:Pt×Touch=>({ x.2 with mark:=(Vbreab.named (course.map mX)).getD x.2.mark 0 }:Touch)) id) (az.wX S).zipIdx)=(az.wX S).zipIdx.map fun x=>(({ x.1.2 with mark:=(Vbreab.named (course.map mX)).getD x.1.2.mark 0 }:Touch),x.2) from rfl]
 refine Lj (fun q x hq hx=>acW jM hq hx) course _ hname fun x hx=>?_
 have hx':x.1∈az.wX S:=by
  have:=List.mem_zipIdx' hx
  rw [this.2];exact List.getElem_mem _
 obtain ⟨n,hn,e1,e2⟩:=az.XX S x.1 hx'
 have:=(Hy.ok n hn).mark _ e2
 rw [e1]at this
 rw [←hs]at this
 exact abB _ hns _ _ this
section
variable {X:Cx}
noncomputable def aeE:R2:=fun x y H Q=>∃(a l:Addr) (p:Pt) (ps:List Pt),x=.ref a∧y=.ref l∧cB H a p∧cu H l ps∧Q (.bl (ps.contains p)) H
noncomputable def abC (p:Pt):PyData:=.tuple [.int p.x,.int p.y]
noncomputable def eqP (H:Hp) (p:Pt) (u:Value):Bool:=match u with
 | .ref b=>(match H b with
  | some (.tup [.int x,.int y])=>decide ((⟨x,y⟩:Pt)=p)
  | _=>false)
 | _=>false
theorem abD {H:Hp} {p z:Pt} {b:Addr} (h:cB H b z):eqP H p (.ref b)=decide (z=p):=by
 unfold eqP
 unfold cB at h
 simp only [h]
theorem Qz:∀{as:List Addr} {its:List Value},Vals (as.map V.ref) its→its=as.map Value.ref
 | [],_,.nil=>rfl
 | a::as,_,.cons h t=>by
  have e:_=Value.ref a:=h
  rw [e,Qz t];rfl
theorem acY {H:Hp} {p:Pt} {as:List Addr} {ps:List Pt} (h:Paired (cB H) as ps):(as.map Value.ref).any (eqP H p)=ps.contains p:=by
 induction h with
 | nil=>rfl
 | cons h1 h2 ih=>
  rw [List.map_cons,List.any_cons,ih,abD h1,List.contains_cons]
  congr 1
  rename_i z _ _
  by_cases e:z=p
  ·subst e;simp
  ·have:¬p=z:=fun h=>e h.symm
   simp [e,this]
theorem ZS (hu:X.A.units+64<cLine):Ca X (compareOp .In) aeE:=by
 intro pins s σ H x y v u Q I rx ry h
 obtain ⟨a,l,p,ps,rfl,rfl,ha,⟨as,hl,pl⟩,q⟩:=h
 cases ry
 have dpa:Dp X.K H (.ref a) (abC p):=wV ha
 obtain ⟨bs,ra⟩:=Dp.reads I _ _ _ dpa rx
 cases rx
 obtain ⟨its,r,pll,hz⟩:=I.list (b7.of hl)
 have each:∀(i:Nat) (b:Addr) (z:Pt),as[i]?=some b→ps[i]?=some z→cB H b z→its[i]?=some (.ref b)∧SeqAt.EqAt X.A.in1 s (.ref b) (.ref a) (decide (z=p)):=by
  intro i b z hb hz' hp
  obtain ⟨w,hw,rw'⟩:=r.get (show (as.map V.ref)[i]?=some (.ref b) by rw [List.getElem?_map,hb];rfl)
  have e:w=.ref b:=rw'
  subst e
  refine ⟨hw,?_⟩
  obtain ⟨cs,rb⟩:=Dp.reads I _ _ _ (wV (K:=X.K) hp) (show RelV (.ref b) (Value.ref b) from rfl)
  have:=SeqAt.eqAt_reads _ _ X.A.in1 s _ _ _ _ rb ra (by rfl) (by rfl) (by show X.A.units+1+_<cLine;exact Nat.lt_of_le_of_lt (by show X.A.units+1+min 1 1≤X.A.units+64;omega) hu)
  rw [show PyData.eqv (.tuple [.int z.x,.int z.y]) (abC p)=decide (z=p) from FQ z p]at this
  exact this
 have ahH:=Qz r
 subst ahH
 refine SeqAt.in_listAt (eqP H p) pll.isList (fun w hw=>?_) ⟨.bl _,H,I,rfl,?_⟩
 ·obtain ⟨b,hb,rfl⟩:=List.mem_map.1 (by simpa using hw:w∈as.map Value.ref)
  obtain ⟨i,hi⟩:=List.mem_iff_getElem?.1 hb
  have hil:i<ps.length:=by rw [←bC pl];exact (List.getElem?_eq_some_iff.1 hi).1
  obtain ⟨z,hz'⟩:∃z,ps[i]?=some z:=⟨_,List.getElem?_eq_getElem hil⟩
  obtain ⟨b',hb',hp'⟩:=bc pl hz'
  rw [hi]at hb'
  cases hb'
  rw [abD hp']
  exact (each i b z hi hz' hp').2
 ·rw [show (as.map Value.ref).toArray.any (eqP H p)=(as.map Value.ref).any (eqP H p) by simp,acY pl]
  exact q
end
noncomputable def za (TB:Hp→Prop):Prop:=∀H H',TB H→(∀b o,H b=some o→(∀xs,o≠.lst xs)→(∀C dx fs,o≠.ins C dx fs)→H' b=some o)→TB H'
structure cF (K:PySem.W.Frag) (CC CR:Addr) (TB:Hp→Prop) (H:Hp) (c r a q:Addr) (s:State) (xs:List Int) (k:Nat) (zs:List V):Prop where
 chart:gm CC q H c s
 reader:pA CR H r a k
 calls:∃o,H a=some (.G4 o (.lst (xs.map V.int)))
 ok:jZ s
 told:H q=some (.lst zs)
 tab:TB H
theorem eZ.kp {C c r dx lm lt:Addr} {gA:List Addr} {H H':Hp} {s:State} {o:HO} (h:eZ C H c s dx lm lt gA) (e:Kp r H H') (hr:H r=some o) (h1:∀xs,o≠.lst xs) (h2:∀xs,o≠.tup xs) (h3:o≠.ins C dx (cf lm lt)):eZ C H' c s dx lm lt gA:=by
 have pt:∀a p,cB H a p→cB H' a p:=fun a p hp=>e _ _ hp (ji hp hr (fun z=>h2 _ z.symm))
 have Zx:∀a ps,cu H a ps→cu H' a ps:=fun a ps ⟨as,g1,g2⟩=>⟨as,e _ _ g1 (ji g1 hr (fun z=>h1 _ z.symm)),bM g2 fun b _ p hp=>pt b p hp⟩
 exact ⟨e _ _ h.ins (ji h.ins hr (fun z=>h3 z.symm)),Zx _ _ h.marks,e _ _ h.lst (ji h.lst hr (fun z=>h1 _ z.symm)),bM h.tracks fun a _ b hb=>Zx a b hb,h.ne,h.nm,h.nt⟩
theorem adD (lm lt a:Addr) (k:Int):rf a k≠cf lm lt:=by
 intro h
 have:("calls" : Str)=("marks" : Str):=by
  simp only [rf,cf,List.cons.injEq,Prod.mk.injEq]at h
  exact h.1.1
 exact absurd this (by decide +kernel)
section
variable {K:PySem.W.Frag} {CC CR:Addr} {TB:Hp→Prop} {H H':Hp} {c r a q:Addr} {s s':State} {xs:List Int} {k k':Nat} {zs:List V}
theorem cF.same (st:za TB) (D:cF K CC CR TB H c r a q s xs k zs) (e:aK H H'):cF K CC CR TB H' c r a q s xs k zs:=by
 obtain ⟨o,h⟩:=D.calls
 obtain ⟨dx,h2⟩:=D.reader
 exact ⟨D.chart.same e,⟨dx,e _ _ h2⟩,⟨o,e _ _ h⟩,D.ok,e _ _ D.told,st _ _ D.tab fun b o hb _ _=>e b o hb⟩
theorem cF.read (st:za TB) (D:cF K CC CR TB H c r a q s xs k zs) (e:Kp r H H') (h:pA CR H' r a k'):cF K CC CR TB H' c r a q s xs k' zs:=by
 obtain ⟨o,h1⟩:=D.calls
 obtain ⟨dx,h2⟩:=D.reader
 obtain ⟨dc,lm,lt,gA,hc,n⟩:=D.chart
 refine ⟨⟨dc,lm,lt,gA,hc.kp e h2 (by intro _ z;cases z) (by intro _ z;cases z) ?_,n⟩,h,⟨o,e _ _ h1 (ji h1 h2 (by intro z;cases z))⟩,D.ok,e _ _ D.told (ji D.told h2 (by intro z;cases z)),st _ _ D.tab fun b o hb _ h3=>e b o hb (ji hb h2 (h3 _ _ _))⟩
 intro z
 simp only [HO.ins.injEq]at z
 exact adD _ _ _ _ z.2.2
theorem cF.change (st:za TB) (D:cF K CC CR TB H c r a q s xs k zs) (e:Fr c q H H') (h:gm CC q H' c s') (ok:jZ s'):cF K CC CR TB H' c r a q s' xs k zs:=by
 obtain ⟨o,h1⟩:=D.calls
 obtain ⟨dx,h2⟩:=D.reader
 obtain ⟨dc,lm,lt,gA,hc,n⟩:=D.chart
 have ncr:r≠c:=by
  apply ji h2 hc.ins
  intro z
  simp only [HO.ins.injEq]at z
  exact adD _ _ _ _ z.2.2
 refine ⟨h,⟨dx,e _ _ h2 ncr (.inl fun _ z=>by cases z)⟩,⟨o,e _ _ h1 (ji h1 hc.ins (by intro z;cases z)) (.inl fun _ z=>by cases z)⟩,ok,e _ _ D.told (ji D.told hc.ins (by intro z;cases z)) (.inr rfl),st _ _ D.tab fun b o hb h3 h4=>e b o hb (ji hb hc.ins (h4 _ _ _)) (.inl h3)⟩
theorem cF.wipe (st:za TB) (D:cF K CC CR TB H c r a q s xs k zs) (e:Kp c H H') (h:gm CC q H' c s') (ok:jZ s'):cF K CC CR TB H' c r a q s' xs k zs:=
 D.change st (fun b o hb nb _=>e b o hb nb) h ok
theorem cF.seq (D:cF K CC CR TB H c r a q s xs k zs):b7 K H a (xs.map V.int):=let ⟨o,h⟩:=D.calls;.inl (.inr ⟨o,h⟩)
theorem drop_cons {α:Type} {l:List α} {k:Nat} {z:α} {t:List α} (h:l.drop k=z::t):l[k]?=some z∧l.drop (k+1)=t:=by
 have h1:(l.drop k)[0]?=some z:=by rw [h];rfl
 rw [List.getElem?_drop]at h1
 refine ⟨by simpa using h1,?_⟩
 rw [show l.drop (k+1)=(l.drop k).drop 1 by rw [List.drop_drop],h];rfl
theorem cF.number (st:za TB) (D:cF K CC CR TB H c r a q s xs k zs) {z:Int} {t:List Int} (h:xs.drop k=z::t) {Q:VK} {E:XK}
  (g:∀H',cF K CC CR TB H' c r a q s xs (k+1) zs→xs.drop (k+1)=t→Kp r H H'→Q (.int z) H'):bJ K CR [.ref r] H Q E:=by
 obtain ⟨h1,h2⟩:=drop_cons h
 refine ⟨r,a,k,_,.int z,rfl,D.reader,D.seq,by rw [List.getElem?_map,h1];rfl,fun H' hr kp=>?_⟩
 exact g H' (D.read st kp hr) h2 kp
theorem cF.row (st:za TB) (D:cF K CC CR TB H c r a q s xs k zs) {z:Int} {t:List Int} (h:xs.drop k=z::t) (h0:0≤z) (hz:z.toNat≤t.length) {Q:VK} {E:XK}
  (g:∀H' p,H p=none→H' p=some (.lst ((t.take z.toNat).map V.int))→cF K CC CR TB H' c r a q s xs (k+1+z.toNat) zs→xs.drop (k+1+z.toNat)=t.drop z.toNat→Q (.ref p) H'):fC K CR [.ref r] H Q E:=by
 obtain ⟨h1,h2⟩:=drop_cons h
 have hl:t.length=xs.length-(k+1):=by rw [←h2,List.length_drop]
 have hk:k<xs.length:=(List.getElem?_eq_some_iff.1 h1).1
 refine ⟨r,a,k,z.toNat,_,rfl,D.reader,D.seq,by rw [List.getElem?_map,h1];simp [Int.toNat_of_nonneg h0],by rw [List.length_map];omega,fun H' p hp hl' hr kp=>?_⟩
 refine g H' p hp ?_ (D.read st kp hr) (by rw [←h2,List.drop_drop])
 rw [hl',←List.map_drop,←List.map_take,h2]
end
inductive f9 (K:PySem.W.Frag) (CC CR:Addr) (TB:Hp→Prop) (rd:List Int→Option (Vbreab.Call×Nat)) (vs:List V) (H:Hp) (Q:VK) (E:XK):Prop where
 | mk (c:Addr) (r:Addr) (a:Addr) (q:Addr) (s:State) (xs:List Int) (k:Nat) (zs:List V) (cl:Vbreab.Call) (n:Nat) (_:vs=[.ref c,.ref r]) (_:cF K CC CR TB H c r a q s xs k zs) (_:rd (xs.drop k)=some (cl,n)) (_:∀H' p,p≠q→H' p=some (.lst ((Vbreab.step s cl).2.map V.int))→cF K CC CR TB H' c r a q (Vbreab.step s cl).1 xs (k+n) zs→Q (.ref p) H'):f9 K CC CR TB rd vs H Q E
noncomputable def rd0 (cl:Vbreab.Call):List Int→Option (Vbreab.Call×Nat):=fun _=>some (cl,0)
noncomputable def rd1 (f:Int→Vbreab.Call):List Int→Option (Vbreab.Call×Nat)
 | x::_=>some (f x,1)
 | _=>none
noncomputable def rd2 (f:Int→Int→Vbreab.Call):List Int→Option (Vbreab.Call×Nat)
 | x::y::_=>some (f x y,2)
 | _=>none
noncomputable def rd3 (f:Int→Int→Int→Vbreab.Call):List Int→Option (Vbreab.Call×Nat)
 | x::y::z::_=>some (f x y z,3)
 | _=>none
noncomputable def rd4 (f:Int→Int→Int→Int→Vbreab.Call):List Int→Option (Vbreab.Call×Nat)
 | x::y::z::w::_=>some (f x y z w,4)
 | _=>none
noncomputable def rdL (f:List Int→Vbreab.Call):List Int→Option (Vbreab.Call×Nat)
 | n::t=>if 0≤n∧n.toNat≤t.length∧n.toNat≤60 then some (f (t.take n.toNat),1+n.toNat) else none
 | _=>none
noncomputable def Xc (f:Int→List Int→Vbreab.Call):List Int→Option (Vbreab.Call×Nat)
 | x::n::t=>if 0≤n∧n.toNat≤t.length∧n.toNat≤60 then some (f x (t.take n.toNat),2+n.toNat) else none
 | _=>none
noncomputable def yp:=rd0 .begin_
noncomputable def Dg:=rd2 .mark
noncomputable def yq:=rdL .track
noncomputable def yr:=rdL .touch
noncomputable def Dh:=Xc .more
noncomputable def Lk:=rd4 .put
noncomputable def uY:=rd1 .points
noncomputable def Di:=rd1 .word
noncomputable def rP:=rd1 .reduced
noncomputable def uZ:=rd1 .string
noncomputable def yt:=rd2 .alike
noncomputable def yu:=Xc .sails
noncomputable def Dj:=rd2 .wind
noncomputable def rQ:=rd1 .reverse
noncomputable def Dk:=rd2 .join
noncomputable def Dl:=rd3 .part
noncomputable def rR:=Xc .measure
noncomputable def yw:=rd0 .marks
theorem Ln {f:Int→Vbreab.Call} {l:List Int} {cl:Vbreab.Call} {n:Nat} (h:rd1 f l=some (cl,n)):∃x t,l=x::t∧cl=f x∧n=1:=by
 match l,h with
 | x::t,h=>cases h;exact ⟨x,t,rfl,rfl,rfl⟩
theorem Sh {f:Int→Int→Vbreab.Call} {l:List Int} {cl:Vbreab.Call} {n:Nat} (h:rd2 f l=some (cl,n)):∃x y t,l=x::y::t∧cl=f x y∧n=2:=by
 match l,h with
 | x::y::t,h=>cases h;exact ⟨x,y,t,rfl,rfl,rfl⟩
theorem aeF {f:Int→Int→Int→Vbreab.Call} {l:List Int} {cl:Vbreab.Call} {n:Nat} (h:rd3 f l=some (cl,n)):∃x y z t,l=x::y::z::t∧cl=f x y z∧n=3:=by
 match l,h with
 | x::y::z::t,h=>cases h;exact ⟨x,y,z,t,rfl,rfl,rfl⟩
theorem aeG {f:Int→Int→Int→Int→Vbreab.Call} {l:List Int} {cl:Vbreab.Call} {n:Nat} (h:rd4 f l=some (cl,n)):∃x y z w t,l=x::y::z::w::t∧cl=f x y z w∧n=4:=by
 match l,h with
 | x::y::z::w::t,h=>cases h;exact ⟨x,y,z,w,t,rfl,rfl,rfl⟩
theorem abE {f:List Int→Vbreab.Call} {l:List Int} {cl:Vbreab.Call} {n:Nat} (h:rdL f l=some (cl,n)):∃m t,l=m::t∧0≤m∧m.toNat≤t.length∧m.toNat≤60∧cl=f (t.take m.toNat)∧n=1+m.toNat:=by
 match l,h with
 | m::t,h=>
  simp only [rdL]at h
  split at h
  ·rename_i hc
   cases h
   exact ⟨m,t,rfl,hc.1,hc.2.1,hc.2.2,rfl,rfl⟩
  ·cases h
theorem Sq {f:Int→List Int→Vbreab.Call} {l:List Int} {cl:Vbreab.Call} {n:Nat} (h:Xc f l=some (cl,n)):∃x m t,l=x::m::t∧0≤m∧m.toNat≤t.length∧m.toNat≤60∧cl=f x (t.take m.toNat)∧n=2+m.toNat:=by
 match l,h with
 | x::m::t,h=>
  simp only [Xc]at h
  split at h
  ·rename_i hc
   cases h
   exact ⟨x,m,t,rfl,hc.1,hc.2.1,hc.2.2,rfl,rfl⟩
  ·cases h
section
variable {P:Program} {w:World} {K:PySem.W.Frag} {mg:Str→Option Value} {base:Heap} {f:Addr} {fd:FuncData} {CC CR CN CT:Addr} {TB:Hp→Prop}
theorem bT (a:Addr) (k:Int):(rf a k).lookup ("number" : Str)=none:=Yu _ _ (by decide +kernel) (by decide +kernel)
theorem u5 (a:Addr) (k:Int):(rf a k).lookup ("row" : Str)=none:=Yu _ _ (by decide +kernel) (by decide +kernel)
theorem ZV (a:Addr) (k:Int):(rf a k).lookup ("at_end" : Str)=none:=Yu _ _ (by decide +kernel) (by decide +kernel)
theorem Xd (a b:Addr):(cf a b).lookup ("wipe" : Str)=none:=Yv _ _ (by decide +kernel) (by decide +kernel)
theorem dq (a b:Addr):(cf a b).lookup ("has_track" : Str)=none:=Yv _ _ (by decide +kernel) (by decide +kernel)
theorem abF (a b:Addr):(cf a b).lookup ("new_mark" : Str)=none:=Yv _ _ (by decide +kernel) (by decide +kernel)
theorem Lp (a b:Addr):(cf a b).lookup ("new_track" : Str)=none:=Yv _ _ (by decide +kernel) (by decide +kernel)
theorem fP {s:State} {t:Int}:(decide (0≤t)&&decide (t<(s.tracks.length:Int)))=(Vbreab.trackAt s t).isSome:=by
 unfold Vbreab.trackAt
 by_cases h1:0≤t
 ·rw [if_pos h1,decide_eq_true h1,Bool.true_and]
  by_cases h2:t<(s.tracks.length:Int)
  ·rw [decide_eq_true h2,List.getElem?_eq_getElem (by omega)];rfl
  ·rw [decide_eq_false h2,List.getElem?_eq_none (by omega)];rfl
 ·rw [if_neg h1,decide_eq_false h1];rfl
theorem qH {s:State} {t:Int} {p:List Pt} (h:Vbreab.trackAt s t=some p):0≤t∧s.tracks[t.toNat]?=some p:=by
 unfold Vbreab.trackAt at h
 split at h
 ·exact ⟨by assumption,h⟩
 ·cases h
theorem cG {s:State} {t:Int} {p:List Pt} {g:List Pt→State×Vbreab.Ans} (h:Vbreab.trackAt s t=some p):Vbreab.onTrack s t g=g p:=by unfold Vbreab.onTrack;rw [h]
theorem cH {s:State} {t:Int} {g:List Pt→State×Vbreab.Ans} (h:Vbreab.trackAt s t=none):Vbreab.onTrack s t g=(s,[-2]):=by unfold Vbreab.onTrack;rw [h]
noncomputable abbrev rT:Stmt:=top 68
theorem HS:aW ["chart","reader"] ["chart","reader"] (aF rT):=⟨rfl,rfl,rfl,by decide +kernel,rfl,by decide +kernel,by decide +kernel⟩
theorem HW (st:za TB) (F:cI K "answer_begin" "answer_begin" rT f fd) (T:Txt mg) (Lq:Met P w K mg base CC "wipe" 1 ["self"] (ud CC)):cz P w K mg base fH 11 f fd ["chart","reader"] (f9 K CC CR TB yp):=by
 obtain ⟨_,_,Xe,Xf,Xg,Xh⟩:=Lq
 refine F.ok HS (fun vs H Q E h=>?_) (fun cdv A outer s H vs Q E hr h=>?_)
 ·obtain ⟨c,r,a,q,s,xs,k,zs,cl,n,rfl,_⟩:=h
  rfl
 ·obtain ⟨c,r,a,q,s,xs,k,zs,cl,n,rfl,D,hrd,g⟩:=h
  cases hrd
  obtain ⟨dc,lm,lt,gA,hc,nq⟩:=id D.chart
  have cV:=hc.ins
  refine ⟨_,(ao (gU (b8 (pv 0) Xf Xg Xe (hr.mono (by decide)) Xh .nil aO)) (aB (aH (bL (aj aG ak))))),?_⟩
  open_ks with [iY,cV,HO.ins.injEq,Xd]
  refine ⟨c,q,s,_,rfl,D.chart,D.told,fun H1 h1 kp=>?_⟩
  refine ⟨by decide,fun p hp=>?_⟩
  have D1:=D.wipe st kp h1 zK
  have npq:p≠q:=fun e=>by rw [e,D1.told]at hp;cases hp
  exact g _ p npq aA (D1.same st (aK.new hp))
noncomputable abbrev n6:Stmt:=top 76
theorem je:aW ["places","answer","x","y"] ["places"] (aF n6):=⟨rfl,rfl,rfl,by decide +kernel,rfl,by decide +kernel,by decide +kernel⟩
inductive jf (vs:List V) (H:Hp) (Q:VK) (E:XK):Prop where
 | mk (a:Addr) (ps:List Pt) (_:vs=[.ref a]) (_:cu H a ps) (_:ps.length≤100000) (_:∀H' p,H p=none→H' p=some (.lst ((Vbreab.told ps).map V.int))→aK H H'→Q (.ref p) H'):jf  vs H Q E
theorem Dm (F:cI K "counted_places" "counted_places" n6 f fd) (T:Txt mg)  : cz P w K mg base fH 1 f fd ["places"] jf:=by
 skip
 refine F.ok je (fun vs H Q E h=>?_) (fun cdv A outer s H vs Q E hr h=>?_)
 ·obtain ⟨a,ps,rfl,_⟩:=h
  rfl
 ·obtain ⟨a,ps,rfl,⟨as,ha,pa⟩,hlen,k⟩:=h
  have la:as.length=ps.length:=bC pa
  refine ⟨_,(ao (aY (i:=1) je.nd rfl (Or.inl rfl) (bL (aj (bF aZ (by rfl) T.cZ PySem.boot_len (aj (pv 0) ak)) ak))) (ao (vC PassesOwn.never rfl (jA (pv 0)) (qR rfl (cR (cA (i:=2) je.nd rfl (Or.inl rfl)) (cR (cA (i:=3) je.nd rfl (Or.inl rfl)) lK))) (ao (gU (uR PySem.F.plainAttrs_list PySem.F.slot_list_append PySem.F.type_list_append jB (pv 1) (aj (pv 2) ak))) (aB (gU (uR PySem.F.plainAttrs_list PySem.F.slot_list_append PySem.F.type_list_append jB (pv 1) (aj (pv 3) ak)))))) (aB (aH (pv 1))))),?_⟩
  open_ks with []
  refine ⟨_,.inl (b7.of ha),by decide,fun p hp=>?_⟩
  rw [List.length_map,la]
  have s0:aK H (upd H p (.lst [V.int (ps.length:Nat)])):=aK.new hp
  refine ⟨⟨_,b7.of (s0 _ _ ha)⟩,?_⟩
  have tl:∀i,i≤ps.length→((ps.take i).flatMap fun q=>[q.x,q.y]).length=2*i:=by
   intro i
   induction i with
   | zero=>intro _;rfl
   | succ i ih=>
    intro hi
    obtain ⟨q,hq⟩:∃q,ps[i]?=some q:=⟨_,List.getElem?_eq_getElem (by omega)⟩
    rw [take_snoc hq,List.flatMap_append,List.length_append,ih (by omega)]
    simp;omega
  refine Loop.list (xs:=as.map V.ref) (fun i σ H'=>∃v2 v3,σ=[some (.ref a),some (.ref p),v2,v3]∧H' p=some (.lst (V.int (ps.length:Nat)::((ps.take i).flatMap fun q=>[q.x,q.y]).map V.int))∧aK H H') ⟨none,none,rfl,by rw [aA];rfl,s0⟩ (fun i σ H' _ ⟨_,_,_,_,sm⟩=>b7.of (sm _ _ ha)) ?_ ?_
  ·rintro i x σ H' hx ⟨v2,v3,rfl,hp',sm⟩
   obtain ⟨b,hb,rfl⟩:∃b,as[i]?=some b∧x=.ref b:=by
    rw [List.getElem?_map]at hx
    cases e:as[i]? with
    | none=>rw [e]at hx;cases hx
    | some b=>rw [e]at hx;exact ⟨b,rfl,(Option.some.inj hx).symm⟩
   have hi:i<ps.length:=by have:=(List.getElem?_eq_some_iff.1 hb).1;omega
   obtain ⟨q,hq⟩:∃q,ps[i]?=some q:=⟨_,List.getElem?_eq_getElem hi⟩
   obtain ⟨b',hb',pq⟩:=bc pa hq
   rw [hb]at hb'
   cases hb'
   have ty:=Yw (K:=K) hp'
   have l1:=tl i (by omega)
   have hz:(V.int (ps.length:Nat)::((ps.take i).flatMap fun q=>[q.x,q.y]).map V.int).length<sizeLine:=by
    rw [List.length_cons,List.length_map,l1];exact Nat.lt_of_le_of_lt (show 2*i+1≤300000 by omega) (by decide)
   have hz2:(V.int (ps.length:Nat)::((ps.take i).flatMap fun q=>[q.x,q.y]).map V.int++[V.int q.x]).length<sizeLine:=by
    rw [List.length_append,List.length_cons,List.length_map,l1,List.length_singleton];exact Nat.lt_of_le_of_lt (show 2*i+1+1≤300000 by omega) (by decide)
   have hu:∀o,(upd H' p o) p=some o:=fun o=>aA
   have ty2:=Yw (K:=K) (hu (.lst (V.int (ps.length:Nat)::((ps.take i).flatMap fun q=>[q.x,q.y]).map V.int++[V.int q.x])))
   refine ⟨b,_,rfl,zj.of (sm _ _ pq),rfl,?_⟩
   open_ks with [wL,Ho,tBM,qu,ty,hp',HO.lst.injEq,hz,aA]
   refine ⟨hz,Yw aA,hz2,?_,?_⟩
   ·rw [take_snoc hq,List.flatMap_append,List.map_append];simp
   ·rw [sZ]
    intro b' o hb'
    rw [aJ (bw hb' hp)];exact sm _ _ hb'
  ·rintro σ H' ⟨v2,v3,rfl,hp',sm⟩
   rw [List.length_map,la,List.take_length]at hp'
   open_ks with []
   exact k H' p hp hp' sm
end
section
variable {K:PySem.W.Frag} {CC CR:Addr} {TB:Hp→Prop} {H H1:Hp} {c r a q:Addr} {s s':State} {xs:List Int} {k k' n:Nat} {zs:List V} {cl:Vbreab.Call} {ans:List Int} {Q:VK}
theorem bW (st:za TB) (D1:cF K CC CR TB H1 c r a q s' xs k' zs) (e:Vbreab.step s cl=(s',ans)) (hk:k'=k+n)
  (g:∀H' p,p≠q→H' p=some (.lst ((Vbreab.step s cl).2.map V.int))→cF K CC CR TB H' c r a q (Vbreab.step s cl).1 xs (k+n) zs→Q (.ref p) H'):∀p,H1 p=none→Q (.ref p) (upd H1 p (.lst (ans.map V.int))):=by
 intro p hp
 have npq:p≠q:=fun e=>by rw [e,D1.told]at hp;cases hp
 refine g _ p npq ?_ ?_
 ·rw [aA,e]
 ·rw [e,←hk];exact D1.same st (aK.new hp)
theorem Ss {H2:Hp} {p:Addr} (st:za TB) (D1:cF K CC CR TB H1 c r a q s' xs k' zs) (e:Vbreab.step s cl=(s',ans)) (hk:k'=k+n) (hp:H1 p=none) (h2:H2 p=some (.lst (ans.map V.int))) (s12:aK H1 H2)
  (g:∀H' p,p≠q→H' p=some (.lst ((Vbreab.step s cl).2.map V.int))→cF K CC CR TB H' c r a q (Vbreab.step s cl).1 xs (k+n) zs→Q (.ref p) H'):Q (.ref p) H2:=by
 have npq:p≠q:=fun e=>by rw [e,D1.told]at hp;cases hp
 refine g _ p npq ?_ ?_
 ·rw [h2,e]
 ·rw [e,←hk];exact D1.same st s12
theorem cF.track (D:cF K CC CR TB H c r a q s xs k zs) {t:Int} {tr:List Pt} (ht:Vbreab.trackAt s t=some tr) :
  ∃dc lm lt gA ap,eZ CC H c s dc lm lt gA∧oO (gA.map V.ref) t=some (.ref ap)∧cu H ap tr∧gC s.marks tr∧gA[t.toNat]?=some ap∧gA.length=s.tracks.length:=by
 obtain ⟨dc,lm,lt,gA,hc,nq⟩:=D.chart
 obtain ⟨h0,h1⟩:=qH ht
 obtain ⟨ap,h2,h3⟩:=bc hc.tracks h1
 exact ⟨dc,lm,lt,gA,ap,hc,at_of (j:=t.toNat) (by omega) (by rw [List.getElem?_map,h2];rfl),h3,D.ok.tracks tr (List.mem_of_getElem? h1),h2,bC hc.tracks⟩
end
section
variable {P:Program} {w:World} {K:PySem.W.Frag} {mg:Str→Option Value} {base:Heap} {f:Addr} {fd:FuncData} {CC CR CN CT:Addr} {TB:Hp→Prop}
noncomputable abbrev pU:Stmt:=top 77
theorem u6:aW ["chart","reader","t"] ["chart","reader"] (aF pU):=⟨rfl,rfl,rfl,by decide +kernel,rfl,by decide +kernel,by decide +kernel⟩
theorem Gd (st:za TB) (RC:ni K CC) (F:cI K "answer_points" "answer_points" pU f fd) (T:Txt mg) (aX:Met P w K mg base CR "number" 1 ["self"] (bJ K CR)) (aL:Met P w K mg base CC "has_track" 1 ["self","t"] (bR CC)) (fG:ik P w K mg base "counted_places" 1 ["places"] jf):cz P w K mg base fH 11 f fd ["chart","reader"] (f9 K CC CR TB uY):=by
 obtain ⟨_,_,aP,aQ,aU,aV⟩:=aX;obtain ⟨_,_,bf,bh,bj,bu⟩:=aL;obtain ⟨_,_,kJ,kO,kW,kY⟩:=fG
 refine F.ok u6 (fun vs H Q E h=>?_) (fun cdv A outer s H vs Q E hr h=>?_)
 ·obtain ⟨c,r,a,q,s,xs,k,zs,cl,n,rfl,_⟩:=h
  rfl
 ·obtain ⟨c,r,a,q,s,xs,k,zs,cl,n,rfl,D,hrd,g⟩:=h
  obtain ⟨t,rest,hdrop,rfl,rfl⟩:=Ln hrd
  obtain ⟨Vb,hr0⟩:=id D.reader
  refine ⟨_,(ao (aY (i:=2) u6.nd rfl (Or.inl rfl) (b8 (pv 1) aQ aU aP (hr.mono (by decide)) aV .nil aO)) (ao (cC (eV (cP (fU (pv 0) bh bj bf (hr.mono (by decide)) bu .nil aO (aj (pv 2) ak)))) (aB (aH (bL (aj (bN rfl T.di) ak)))) bH) (aB (aH (aM kJ (hr.mono (by decide)) rfl kO kW kY .nil aO (aj (bA bB (bG (pv 0) rfl) (pv 2) (fun _ _=>rfl)) ak)))))),?_⟩
  open_ks with [iY,hr0,HO.ins.injEq,bT]
  refine D.number st hdrop fun H1 D1 hd1 Xi=>?_
  obtain ⟨dc,lm,lt,gA,hc,nq⟩:=id D1.chart
  have cV:=hc.ins
  open_ks with [cV,HO.ins.injEq,dq]
  refine ⟨c,q,t,s,rfl,D1.chart,?_⟩
  rw [fP]
  cases ht:Vbreab.trackAt s t with
  | none=>
   have e0:Vbreab.step s (.points t)=(s,[-2]):=cH ht
   open_ks with [Option.isSome_none]
   exact ⟨by decide,bW st D1 e0 rfl g⟩
  | some tr=>
   have e1:Vbreab.step s (.points t)=(s,Vbreab.told tr):=cG ht
   obtain ⟨dc2,lm2,lt2,ahI,ap,hc2,i2,hap,tok,_,_⟩:=D1.track ht
   have abH:=hc2.ins
   open_ks with [Option.isSome_some,gh,abH,HO.ins.injEq,RC.cl,RC.tracks,cD,gj]
   refine ⟨_,b7.of hc2.lst,_,i2,?_⟩
   refine ⟨ap,tr,rfl,hap,Nat.le_trans tok.most (by decide),fun H2 p hp h2 s2=>?_⟩
   exact Ss st D1 e1 rfl hp h2 s2 g
noncomputable abbrev rW:Stmt:=top 90
theorem HX:aW ["chart","reader"] ["chart","reader"] (aF rW):=⟨rfl,rfl,rfl,by decide +kernel,rfl,by decide +kernel,by decide +kernel⟩
theorem HY (st:za TB) (RC:ni K CC) (F:cI K "answer_marks" "answer_marks" rW f fd) (T:Txt mg) (fG:ik P w K mg base "counted_places" 1 ["places"] jf):cz P w K mg base fH 11 f fd ["chart","reader"] (f9 K CC CR TB yw):=by
 obtain ⟨_,_,kJ,kO,kW,kY⟩:=fG
 refine F.ok HX (fun vs H Q E h=>?_) (fun cdv A outer s H vs Q E hr h=>?_)
 ·obtain ⟨c,r,a,q,s,xs,k,zs,cl,n,rfl,_⟩:=h
  rfl
 ·obtain ⟨c,r,a,q,s,xs,k,zs,cl,n,rfl,D,hrd,g⟩:=h
  cases hrd
  obtain ⟨dc,lm,lt,gA,hc,nq⟩:=id D.chart
  have cV:=hc.ins
  refine ⟨_,(aB (aH (aM kJ (hr.mono (by decide)) rfl kO kW kY .nil aO (aj (bG (pv 0) rfl) ak)))),?_⟩
  open_ks with [gh,cV,HO.ins.injEq,RC.cl,RC.marks,eF]
  refine ⟨lm,s.marks,rfl,hc.marks,Nat.le_trans D.ok.few (by decide),fun H2 p hp h2 s2=>?_⟩
  exact Ss st D rfl rfl hp h2 s2 g
noncomputable abbrev pW:Stmt:=top 81
theorem gP:aW ["chart","reader","t","touches","answer","touch"] ["chart","reader"] (aF pW):=⟨rfl,rfl,rfl,by decide +kernel,rfl,by decide +kernel,by decide +kernel⟩
theorem Su (ms tr:List Pt):Vbreab.nodesTold (Vbreab.stringOf ms tr)=((az.wX (Vbreab.stringOf ms tr)).length:Int)::(az.wX (Vbreab.stringOf ms tr)).flatMap fun x=>[x.1.x,x.1.y,(x.2.mark:Int),x.2.side,(x.2.halves:Int),if x.2.just=true then 1 else 0]:=az.zE _
theorem Ge (st:za TB) (RC:ni K CC) (RT:acS K CT) (F:cI K "answer_string" "answer_string" pW f fd) (T:Txt mg) (aX:Met P w K mg base CR "number" 1 ["self"] (bJ K CR)) (aL:Met P w K mg base CC "has_track" 1 ["self","t"] (bR CC)) (fD:ik P w K mg base "string_touches" 8 ["places","marks"] (jd CT)):cz P w K mg base fH 11 f fd ["chart","reader"] (f9 K CC CR TB uZ):=by
 obtain ⟨_,_,aP,aQ,aU,aV⟩:=aX;obtain ⟨_,_,bf,bh,bj,bu⟩:=aL;obtain ⟨_,_,kj,km,kE,kI⟩:=fD
 refine F.ok gP (fun vs H Q E h=>?_) (fun cdv A outer s H vs Q E hr h=>?_)
 ·obtain ⟨c,r,a,q,s,xs,k,zs,cl,n,rfl,_⟩:=h
  rfl
 ·obtain ⟨c,r,a,q,s,xs,k,zs,cl,n,rfl,D,hrd,g⟩:=h
  obtain ⟨t,rest,hdrop,rfl,rfl⟩:=Ln hrd
  obtain ⟨Vb,hr0⟩:=id D.reader
  refine ⟨_,(ao (aY (i:=2) gP.nd rfl (Or.inl rfl) (b8 (pv 1) aQ aU aP (hr.mono (by decide)) aV .nil aO)) (ao (cC (eV (cP (fU (pv 0) bh bj bf (hr.mono (by decide)) bu .nil aO (aj (pv 2) ak)))) (aB (aH (bL (aj (bN rfl T.di) ak)))) bH) (ao (aY (i:=3) gP.nd rfl (Or.inl rfl) (aM kj (hr.mono (by decide)) rfl km kE kI .nil aO (aj (bA bB (bG (pv 0) rfl) (pv 2) (fun _ _=>rfl)) (aj (bG (pv 0) rfl) ak)))) (ao (aY (i:=4) gP.nd rfl (Or.inl rfl) (bL (aj (bF aZ (by rfl) T.cZ PySem.boot_len (aj (pv 3) ak)) ak))) (ao (vC PassesOwn.never rfl (jA (pv 3)) (cA (i:=5) gP.nd rfl (Or.inl rfl)) (aB (gU (uR PySem.F.plainAttrs_list PySem.F.slot_list_extend PySem.F.type_list_extend Es (pv 4) (aj (bL (aj (bA cQ (bG (pv 5) rfl) aG (fun _ _=>rfl)) (aj (bA cQ (bG (pv 5) rfl) aG (fun _ _=>rfl)) (aj (bG (pv 5) rfl) (aj (bG (pv 5) rfl) (aj (bG (pv 5) rfl) (aj (bG (pv 5) rfl) ak))))))) ak))))) (aB (aH (pv 4)))))))),?_⟩
  open_ks with [iY,hr0,HO.ins.injEq,bT]
  refine D.number st hdrop fun H1 D1 hd1 Xi=>?_
  obtain ⟨dc,lm,lt,gA,hc,nq⟩:=id D1.chart
  have cV:=hc.ins
  open_ks with [cV,HO.ins.injEq,dq]
  refine ⟨c,q,t,s,rfl,D1.chart,?_⟩
  rw [fP]
  cases ht:Vbreab.trackAt s t with
  | none=>
   have e0:Vbreab.step s (.string t)=(s,[-2]):=cH ht
   open_ks with [Option.isSome_none]
   exact ⟨by decide,bW st D1 e0 rfl g⟩
  | some tr=>
   obtain ⟨dc2,lm2,lt2,ahI,ap,hc2,i2,hap,tok,_,_⟩:=D1.track ht
   have abH:=hc2.ins
   open_ks with [Option.isSome_some,gh,abH,HO.ins.injEq,RC.cl,RC.tracks,RC.marks,cD,eF,gj]
   refine ⟨_,b7.of hc2.lst,_,i2,?_⟩
   refine ⟨ap,lm2,tr,s.marks,rfl,hap,hc2.marks,D1.ok.marks,D1.ok.few,tok,fun H2 l hl htc Hy xn s2=>?_⟩
   have D2:=D1.same st s2
   have adE:Vbreab.step s (.string t)=(s,Vbreab.nodesTold (Vbreab.stringOf s.marks tr)):=cG ht
   rw [Su]at adE
   generalize az.wX (Vbreab.stringOf s.marks tr)=TS at *
   obtain ⟨as,hal,pt⟩:=id htc
   have la:as.length=TS.length:=bC pt
   refine ⟨l,rfl,_,.inl (b7.of hal),by decide,fun p hp=>⟨l,rfl,?_⟩⟩
   rw [List.length_map,la]
   have s3:aK H2 (upd H2 p (.lst [V.int (TS.length:Nat)])):=aK.new hp
   refine ⟨⟨_,b7.of (s3 _ _ hal)⟩,?_⟩
   generalize agd:(fun x:Pt×Touch=>[x.1.x,x.1.y,(x.2.mark:Int),x.2.side,(x.2.halves:Int),if x.2.just=true then 1 else 0])=ten at *
   have tl:∀i,i≤TS.length→((TS.take i).flatMap ten).length=6*i:=by
    intro i
    induction i with
    | zero=>intro _;rfl
    | succ i ih=>
     intro hi
     obtain ⟨y,hy⟩:∃y,TS[i]?=some y:=⟨_,List.getElem?_eq_getElem (by omega)⟩
     rw [take_snoc hy,List.flatMap_append,List.length_append,ih (by omega),←agd]
     simp;omega
   refine Loop.list (xs:=as.map V.ref) (fun i σ H'=>∃v5,σ=[some (.ref c),some (.ref r),some (.int t),some (.ref l),some (.ref p),v5]∧H' p=some (.lst (V.int (TS.length:Nat)::((TS.take i).flatMap ten).map V.int))∧aK H2 H') ⟨none,rfl,by rw [aA];rfl,s3⟩ (fun i σ H' _ ⟨_,_,_,sm⟩=>b7.of (sm _ _ hal)) ?_ ?_
   ·rintro i x σ H' hx ⟨v5,rfl,hp',sm⟩
    obtain ⟨b,hb,rfl⟩:∃b,as[i]?=some b∧x=.ref b:=by
     rw [List.getElem?_map]at hx
     cases e:as[i]? with
     | none=>rw [e]at hx;cases hx
     | some b=>rw [e]at hx;exact ⟨b,rfl,(Option.some.inj hx).symm⟩
    have hi:i<TS.length:=by have:=(List.getElem?_eq_some_iff.1 hb).1;omega
    obtain ⟨y,hy⟩:∃y,TS[i]?=some y:=⟨_,List.getElem?_eq_getElem hi⟩
    obtain ⟨b',hb',dxb,apb,hob,hpb⟩:=bc pt hy
    rw [hb]at hb'
    cases hb'
    have ahJ:=sm _ _ hob
    have ahK:=hpb.same sm
    have ty:=Yw (K:=K) hp'
    have l1:=tl i (by omega)
    open_ks with [tBM,Jd,ty,gh,ahJ,HO.ins.injEq,RT.cl,RT.place,RT.mark,RT.side,RT.halves,RT.just,KC,acQ,YB,Zy,acR,ahK.iff]
    refine ⟨by decide,fun e he=>?_⟩
    have npe:p≠e:=bw hp' he
    open_ks with [aA,aJ,npe,hp',HO.lst.injEq]
    refine ⟨?_,?_,?_⟩
    ·rw [List.length_map,l1];exact Nat.le_trans (show 6*i+1+6≤13000000 by omega) (by decide)
    ·rw [take_snoc hy,List.flatMap_append,List.map_append,←agd];simp
    ·intro b' o hb'
     have nb:b'≠p:=bw hb' hp
     have ne':b'≠e:=bw (sm _ _ hb') he
     rw [aJ nb,aJ ne'];exact sm _ _ hb'
   ·rintro σ H' ⟨v5,rfl,hp',sm⟩
    rw [List.length_map,la,List.take_length]at hp'
    open_ks with []
    exact Ss st D2 adE rfl hp hp' sm g
end
theorem eZ.track {C c dx lm lt:Addr} {gA:List Addr} {H:Hp} {s:State} (hc:eZ C H c s dx lm lt gA) {t:Int} {tr:List Pt} (ht:Vbreab.trackAt s t=some tr) :
  ∃ap,oO (gA.map V.ref) t=some (.ref ap)∧cu H ap tr∧gA[t.toNat]?=some ap:=by
 obtain ⟨h0,h1⟩:=qH ht
 obtain ⟨ap,h2,h3⟩:=bc hc.tracks h1
 exact ⟨ap,at_of (j:=t.toNat) (by omega) (by rw [List.getElem?_map,h2];rfl),h3,h2⟩
theorem du {s:State} {t:Int} {tr:List Pt} (ht:Vbreab.trackAt s t=some tr):tr∈s.tracks:=List.mem_of_getElem? (qH ht).2
theorem Dn {H:Hp} {as:List Addr} {tr:List Pt} {z:Pt} (h:Paired (cB H) as tr) (hz:tr.getLast?=some z):∃al,oO (as.map V.ref) (-1)=some (.ref al)∧cB H al z:=by
 rcases List.eq_nil_or_concat tr with rfl | ⟨tr',y,rfl⟩
 ·cases hz
 ·simp only [List.concat_eq_append]at h hz
  rw [List.getLast?_append]at hz
  simp at hz
  subst hz
  obtain ⟨l',al,rfl,_,h2⟩:=ye h
  exact ⟨al,by rw [List.map_append];exact J3 _ _,h2⟩
section
variable {P:Program} {w:World} {K:PySem.W.Frag} {mg:Str→Option Value} {base:Heap} {f:Addr} {fd:FuncData} {CC CR CN CT:Addr} {TB:Hp→Prop}
noncomputable abbrev Bc:Stmt:=top 70
theorem Vn:aW ["chart","places"] ["chart","places"] (aF Bc):=⟨rfl,rfl,rfl,by decide +kernel,rfl,by decide +kernel,by decide +kernel⟩
inductive tL (CC:Addr) (vs:List V) (H:Hp) (Q:VK) (E:XK):Prop where
 | mk (c q p:Addr) (s:State) (ps:List Pt) (_:vs=[.ref c,.ref p]) (_:gm CC q H c s) (_:cu H p ps) (_:Q (.bl (decide (s.tracks.length<8)&&decide (ps.length≤200))) H):tL CC vs H Q E
theorem Vo (RC:ni K CC) (F:cI K "has_room" "has_room" Bc f fd) (T:Txt mg)  : cz P w K mg base fH 1 f fd ["chart","places"] (tL CC):=by
 skip
 refine F.ok Vn (fun vs H Q E h=>?_) (fun cdv A outer s H vs Q E hr h=>?_)
 ·obtain ⟨c,q,p,s,ps,rfl,_⟩:=h
  rfl
 ·obtain ⟨c,q,p,s,ps,rfl,⟨dc,lm,lt,gA,hc,nq⟩,⟨as,hp,pp⟩,k⟩:=h
  have cV:=hc.ins
  refine ⟨_,(aB (aH (vB (fQ qU (bF aZ (by rfl) T.cZ PySem.boot_len (aj (bG (pv 0) rfl) ak)) (bN rfl T.Nt) (bQ _)) (pD (fQ lM (bF aZ (by rfl) T.cZ PySem.boot_len (aj (pv 1) ak)) (bN rfl T.zF) (bQ _)))))),?_⟩
  open_ks with [gh,cV,HO.ins.injEq,RC.cl,RC.tracks,cD]
  refine ⟨_,.inl (b7.of hc.lst),?_⟩
  rw [List.length_map,bC hc.tracks]
  refine qx (fun h1=>?_) (fun h1=>?_)
  ·refine ⟨_,.inl (b7.of hp),?_⟩
   rw [List.length_map,bC pp]
   refine NQ k ?_
   rw [decide_eq_true (show s.tracks.length<8 by omega),Bool.true_and]
   apply decide_eq_decide.2
   omega
  ·refine NQ k ?_
   rw [decide_eq_false (show ¬s.tracks.length<8 by omega)];rfl
noncomputable abbrev kZ:Stmt:=top 85
theorem zu:aW ["chart","places"] ["chart","places"] (aF kZ):=⟨rfl,rfl,rfl,by decide +kernel,rfl,by decide +kernel,by decide +kernel⟩
inductive Dq (K:PySem.W.Frag) (CC CR:Addr) (TB:Hp→Prop) (vs:List V) (H:Hp) (Q:VK) (E:XK):Prop where
 | mk (c:Addr) (r:Addr) (a:Addr) (q:Addr) (s:State) (xs:List Int) (k:Nat) (zs:List V) (p:Addr) (ps:List Pt) (_:vs=[.ref c,.ref p]) (_:cF K CC CR TB H c r a q s xs k zs) (_:cu H p ps) (_:p≠q) (_:(∀dx lm lt gA,eZ CC H c s dx lm lt gA→p≠lm∧p≠lt)) (_:jC ps) (_:2≤ps.length) (_:az.lE s.marks ps) (_:∀H' p',p'≠q→H' p'=some (.lst ((Vbreab.added s ps).2.map V.int))→cF K CC CR TB H' c r a q (Vbreab.added s ps).1 xs k zs→Q (.ref p') H'):Dq K CC CR TB vs H Q E
theorem Lr {s:State} {ps:List Pt} (h:(decide (s.tracks.length<8)&&decide (ps.length≤200))=false):Vbreab.added s ps=(s,[-3]):=by
 unfold Vbreab.added
 rw [if_pos]
 have:¬(s.tracks.length<8∧ps.length≤200):=by
  rintro ⟨h1,h2⟩
  rw [decide_eq_true h1,decide_eq_true h2]at h;cases h
 unfold Vbreab.TRACKS Vbreab.POINTS
 omega
theorem ZW {s:State} {ps:List Pt} (h:(decide (s.tracks.length<8)&&decide (ps.length≤200))=true) (h2:(Vbreab.touching s.marks ps).isSome=true):Vbreab.added s ps=(s,[-5]):=by
 simp only [Bool.and_eq_true,decide_eq_true_eq]at h
 unfold Vbreab.added
 rw [if_neg (by unfold Vbreab.TRACKS Vbreab.POINTS;omega),if_pos h2]
theorem QB {s:State} {ps:List Pt} (h:(decide (s.tracks.length<8)&&decide (ps.length≤200))=true) (h2:Vbreab.touching s.marks ps=none):Vbreab.added s ps=({ s with tracks:=s.tracks++[ps] },[(s.tracks.length:Int)]):=by
 simp only [Bool.and_eq_true,decide_eq_true_eq]at h
 unfold Vbreab.added
 rw [if_neg (by unfold Vbreab.TRACKS Vbreab.POINTS;omega),h2,if_neg (by simp)]
theorem zx (st:za TB) (F:cI K "made_from_tracks" "made_from_tracks" kZ f fd) (T:Txt mg) (n8:ik P w K mg base "has_room" 1 ["chart","places"] (tL CC)) (iU:Met P w K mg base CC "new_track" 1 ["self","places"] (gW CC)):cz P w K mg base fH 2 f fd ["chart","places"] (Dq K CC CR TB):=by
 obtain ⟨_,_,v9,wg,wj,wk⟩:=n8;obtain ⟨_,_,pX,pY,pZ,p8⟩:=iU
 refine F.ok zu (fun vs H Q E h=>?_) (fun cdv A outer s H vs Q E hr h=>?_)
 ·obtain ⟨c,r,a,q,s,xs,k,zs,p,ps,rfl,_⟩:=h
  rfl
 ·obtain ⟨c,r,a,q,s,xs,k,zs,p,ps,rfl,D,hp,npq,nal,na,h2,hcl,g⟩:=h
  obtain ⟨dc,lm,lt,gA,hc,nq⟩:=id D.chart
  have cV:=hc.ins
  refine ⟨_,(ao (cC (eV (cP (aM v9 (hr.mono (by decide)) rfl wg wj wk .nil aO (aj (pv 0) (aj (pv 1) ak))))) (aB (aH (bL (aj (bN rfl T.vK) ak)))) bH) (aB (aH (bL (aj (fU (pv 0) pY pZ pX (hr.mono (by decide)) p8 .nil aO (aj (pv 1) ak)) ak))))),?_⟩
  open_ks with [iY,cV,HO.ins.injEq,Lp]
  refine ⟨c,q,p,s,ps,rfl,D.chart,hp,?_⟩
  cases hroom:(decide (s.tracks.length<8)&&decide (ps.length≤200)) with
  | false=>
   open_ks with []
   refine ⟨by decide,fun l hl=>?_⟩
   have nlq:l≠q:=fun e=>by rw [e,D.told]at hl;cases hl
   rw [Lr hroom]at g
   exact g _ l nlq aA (D.same st (aK.new hl))
  | true=>
   rw [QB hroom (W8 hcl)]at g
   simp only [Bool.and_eq_true,decide_eq_true_eq]at hroom
   open_ks with [cV,HO.ins.injEq,Lp]
   refine ⟨c,q,p,ps,s,rfl,D.chart,hp,npq,nal,hroom.1,fun H1 hch fr=>?_⟩
   refine ⟨by decide,fun l hl=>?_⟩
   have D1:=D.change st fr hch (zL D.ok ⟨na,h2,hroom.2,hcl⟩ hroom.1)
   have nlq:l≠q:=fun e=>by rw [e,D1.told]at hl;cases hl
   exact g _ l nlq aA (D1.same st (aK.new hl))
theorem Vp {H:Hp} {c q p:Addr} {s:State} (hp:H p=none) {dx lm lt:Addr} {gA:List Addr} (h:eZ CC H c s dx lm lt gA):p≠lm∧p≠lt:=by
 obtain ⟨as,h1,_⟩:=h.marks
 exact ⟨fun e=>(by rw [e,h1]at hp;cases hp),fun e=>(by rw [e,h.lst]at hp;cases hp)⟩
theorem lC {K:PySem.W.Frag} {CR:Addr} {H H':Hp} {c r a q p:Addr} {s:State} {xs:List Int} {k:Nat} {zs:List V} (D:cF K CC CR TB H c r a q s xs k zs) (hp:H p=none) (sm:aK H H'):p≠q∧∀dx lm lt gA,eZ CC H' c s dx lm lt gA→p≠lm∧p≠lt:=by
 refine ⟨fun e=>(by rw [e,D.told]at hp;cases hp),fun dx lm lt gA h=>?_⟩
 obtain ⟨dc,lm',lt',aj0,hc,_⟩:=D.chart
 have e:=(sm _ _ hc.ins).symm.trans h.ins
 simp only [Option.some.injEq,HO.ins.injEq,cf,List.cons.injEq,Prod.mk.injEq,V.ref.injEq,true_and,and_true]at e
 obtain ⟨_,e1,e2⟩:=e
 obtain ⟨g1,g2⟩:=Vp (q:=q) hp hc
 exact ⟨by rw [←e1];exact g1,by rw [←e2];exact g2⟩
noncomputable abbrev uD:Stmt:=top 87
theorem rY:aW ["chart","reader","t","u"] ["chart","reader"] (aF uD):=⟨rfl,rfl,rfl,by decide +kernel,rfl,by decide +kernel,by decide +kernel⟩
theorem Ls (st:za TB) (RC:ni K CC) (F:cI K "answer_join" "answer_join" uD f fd) (T:Txt mg) (aX:Met P w K mg base CR "number" 1 ["self"] (bJ K CR)) (aL:Met P w K mg base CC "has_track" 1 ["self","t"] (bR CC)) (cM:ik P w K mg base "made_from_tracks" 2 ["chart","places"] (Dq K CC CR TB)):cz P w K mg base fH 11 f fd ["chart","reader"] (f9 K CC CR TB Dk):=by
 obtain ⟨_,_,aP,aQ,aU,aV⟩:=aX;obtain ⟨_,_,bf,bh,bj,bu⟩:=aL;obtain ⟨_,_,dO,dR,dU,dW⟩:=cM
 refine F.ok rY (fun vs H Q E h=>?_) (fun cdv A outer s H vs Q E hr h=>?_)
 ·obtain ⟨c,r,a,q,s,xs,k,zs,cl,n,rfl,_⟩:=h
  rfl
 ·obtain ⟨c,r,a,q,s,xs,k,zs,cl,n,rfl,D,hrd,g⟩:=h
  obtain ⟨t,u,rest,hdrop,rfl,rfl⟩:=Sh hrd
  obtain ⟨Vb,hr0⟩:=id D.reader
  refine ⟨_,(ao (aY (i:=2) rY.nd rfl (Or.inl rfl) (b8 (pv 1) aQ aU aP (hr.mono (by decide)) aV .nil aO)) (ao (aY (i:=3) rY.nd rfl (Or.inl rfl) (b8 (pv 1) aQ aU aP (hr.mono (by decide)) aV .nil aO)) (ao (cC (eV (PW.pt (Em (cP (fU (pv 0) bh bj bf (hr.mono (by decide)) bu .nil aO (aj (pv 2) ak))) (BX (cP (fU (pv 0) bh bj bf (hr.mono (by decide)) bu .nil aO (aj (pv 3) ak))))))) (aB (aH (bL (aj (bN rfl T.di) ak)))) bH) (ao (cC (bV (Rn hr.units) (bA bB (bA bB (bG (pv 0) rfl) (pv 2) (fun _ _=>rfl)) (o8 jj aG) (fun _ _=>rfl)) (bA bB (bA bB (bG (pv 0) rfl) (pv 3) (fun _ _=>rfl)) aG (fun _ _=>rfl)) (bQ _)) (aB (aH (bL (aj (bN rfl T.tY) ak)))) bH) (aB (aH (aM dO (hr.mono (by decide)) rfl dR dU dW .nil aO (aj (pv 0) (aj (bU j5 (bA bB (bG (pv 0) rfl) (pv 2) (fun _ _=>rfl)) (qW vG (bA bB (bG (pv 0) rfl) (pv 3) (fun _ _=>rfl)) (qt aG) Ci)) ak))))))))),?_⟩
  open_ks with [iY,hr0,HO.ins.injEq,bT]
  refine D.number st hdrop fun H1 D1 hd1 Xi=>?_
  obtain ⟨dx1,hr1⟩:=id D1.reader
  open_ks with [hr1,HO.ins.injEq,bT]
  refine D1.number st hd1 fun H2 D2 hd2 kp2=>?_
  obtain ⟨dc,lm,lt,gA,hc,nq⟩:=id D2.chart
  have cV:=hc.ins
  open_ks with [cV,HO.ins.injEq,dq]
  refine ⟨c,q,t,s,rfl,D2.chart,?_⟩
  rw [fP]
  cases ht:Vbreab.trackAt s t with
  | none=>
   have e0:Vbreab.step s (.join t u)=(s,[-2]):=cH ht
   open_ks with [Option.isSome_none]
   exact ⟨by decide,bW st D2 e0 rfl g⟩
  | some tr=>
   have et:Vbreab.step s (.join t u)=Vbreab.onTrack s u fun qs=>if tr.getLast?≠qs.head? then (s,[-7]) else Vbreab.added s (tr++qs.drop 1):=cG ht
   open_ks with [Option.isSome_some,cV,HO.ins.injEq,dq]
   refine ⟨c,q,u,s,rfl,D2.chart,?_⟩
   rw [fP]
   cases hu:Vbreab.trackAt s u with
   | none=>
    have e0:Vbreab.step s (.join t u)=(s,[-2]):=by rw [et];exact cH hu
    open_ks with [Option.isSome_none]
    exact ⟨by decide,bW st D2 e0 rfl g⟩
   | some us=>
    have eu:Vbreab.step s (.join t u)=if tr.getLast?≠us.head? then (s,[-7]) else Vbreab.added s (tr++us.drop 1):=by rw [et];exact cG hu
    obtain ⟨ap,ia,hap,_⟩:=hc.track ht
    obtain ⟨au,iu,hau,_⟩:=hc.track hu
    have Xj:=D2.ok.tracks tr (du ht)
    have Vq:=D2.ok.tracks us (du hu)
    obtain ⟨z1,hz1⟩:∃z,tr.getLast?=some z:=⟨_,List.getLast?_eq_some_getLast (by intro e;have:=Xj.two;rw [e]at this;simp at this)⟩
    obtain ⟨z2,hz2⟩:∃z,us[0]?=some z:=⟨_,List.getElem?_eq_getElem (by have:=Vq.two;omega)⟩
    obtain ⟨as,rZ,Hc⟩:=id hap
    obtain ⟨bs,Xk,pbs⟩:=id hau
    obtain ⟨al,i3,pl⟩:=Dn Hc hz1
    obtain ⟨a0,ha0,p0⟩:=bc pbs hz2
    have i4:oO (bs.map V.ref) 0=some (.ref a0):=at_of (j:=0) rfl (by rw [List.getElem?_map,ha0];rfl)
    have acZ:us.head?=some z2:=by rw [List.head?_eq_getElem?];exact hz2
    have la:as.length=tr.length:=bC Hc
    have lb:bs.length=us.length:=bC pbs
    open_ks with [Option.isSome_some,gh,cV,HO.ins.injEq,RC.cl,RC.tracks,cD]
    refine ⟨lt,_,t,_,rfl,rfl,b7.of hc.lst,ia,ap,_,-1,_,rfl,rfl,b7.of rZ,i3,CC,_,_,cV,RC.cl,RC.tracks,_,cD _ _,lt,_,u,_,rfl,rfl,b7.of hc.lst,iu,au,_,0,_,rfl,rfl,b7.of Xk,i4,?_⟩
    refine ⟨_,_,wV pl,wV p0,by rfl,by rfl,?_⟩
    rw [FQ]
    refine ⟨_,rfl,?_⟩
    rw [hz1,acZ]at eu
    by_cases ez:z1=z2
    ·rw [if_neg (by simp [ez])]
     rw [if_neg (by simp [ez])]at eu
     open_ks with [gh,cV,HO.ins.injEq,RC.cl,RC.tracks,cD]
     refine ⟨lt,_,t,_,rfl,rfl,b7.of hc.lst,ia,?_⟩
     have aeH:Er (bs.map V.ref) (some 1) none=(bs.drop 1).map V.ref:=by
      rw [show (1:Int)=((1:Nat):Int) from rfl,K4 _ (by rw [List.length_map];have:=Vq.two;omega),List.map_drop]
     open_ks with [tSl,Qn,Cg,Zk,gj,gh,cV,HO.ins.injEq,RC.cl,RC.tracks,cD]
     refine ⟨_,b7.of hc.lst,_,iu,au,rfl,_,b7.of Xk,fun l1 hl1=>?_⟩
     rw [aeH]
     have s3:aK H2 (upd H2 l1 (.lst ((bs.drop 1).map V.ref))):=aK.new hl1
     refine ⟨ap,l1,_,_,rfl,rfl,s3 _ _ rZ,aA,?_,fun l2 hl2=>?_⟩
     ·have m1:=Xj.most
      have m2:=Vq.most
      rw [List.length_map,List.length_map,List.length_drop]
      exact Nat.le_trans (show as.length+(bs.length-1)≤1000 by omega) (by decide)
     have s4:=aK.new (o:=.lst (as.map V.ref++(bs.drop 1).map V.ref)) hl2
     have s34:=s3.trans s4
     have D4:=D2.same st s34
     obtain ⟨YJ,Lw⟩:=lC D2 (s3.free hl2) s34
     have aeI:cu (upd (upd H2 l1 (.lst ((bs.drop 1).map V.ref))) l2 (.lst (as.map V.ref++(bs.drop 1).map V.ref))) l2 (tr++us.drop 1):=
      ⟨as++bs.drop 1,by rw [aA,List.map_append],rm (bM Hc fun b _ p hp=>hp.same s34) (bM (tH pbs 1) fun b _ p hp=>hp.same s34)⟩
     have eh:tr.getLast?=us.head?:=by rw [hz1,acZ,ez]
     refine ⟨c,r,a,q,s,xs,_,zs,l2,_,rfl,D4,aeI,YJ,Lw,?_,?_,Xa Xj.clear Vq.clear eh Vq.two,fun H5 p5 n5 h5 D5=>?_⟩
     ·intro p hp
      rcases List.mem_append.1 hp with hp | hp
      ·exact Xj.near p hp
      ·exact Vq.near p (List.mem_of_mem_drop hp)
     ·rw [List.length_append];have:=Xj.two;omega
     ·rw [←eu]at h5 D5
      exact g H5 p5 n5 h5 D5
    ·rw [if_pos (by simp [ez])]
     rw [if_pos (by simp [ez])]at eu
     exact ⟨by decide,bW st D2 eu rfl g⟩
end
theorem abI (xs:List V) {i j:Nat} (h:j+1≤xs.length) (hij:i≤j):Er xs (some (i:Int)) (some ((j:Int)+1))=(xs.take (j+1)).drop i:=by
 unfold Er
 rw [show ((j:Int)+1)=((j+1:Nat):Int) by omega,HT.yR,HT.yR,Nat.min_eq_left (show i≤xs.length by omega),Nat.min_eq_left h,List.take_drop]
 congr 2
 omega
section
variable {P:Program} {w:World} {K:PySem.W.Frag} {mg:Str→Option Value} {base:Heap} {f:Addr} {fd:FuncData} {CC CR CN CT:Addr} {TB:Hp→Prop}
noncomputable abbrev uE:Stmt:=top 88
theorem mO:aW ["chart","reader","t","i","j"] ["chart","reader"] (aF uE):=⟨rfl,rfl,rfl,by decide +kernel,rfl,by decide +kernel,by decide +kernel⟩
theorem Lx (st:za TB) (RC:ni K CC) (F:cI K "answer_part" "answer_part" uE f fd) (T:Txt mg) (aX:Met P w K mg base CR "number" 1 ["self"] (bJ K CR)) (aL:Met P w K mg base CC "has_track" 1 ["self","t"] (bR CC)) (cM:ik P w K mg base "made_from_tracks" 2 ["chart","places"] (Dq K CC CR TB)):cz P w K mg base fH 11 f fd ["chart","reader"] (f9 K CC CR TB Dl):=by
 obtain ⟨_,_,aP,aQ,aU,aV⟩:=aX;obtain ⟨_,_,bf,bh,bj,bu⟩:=aL;obtain ⟨_,_,dO,dR,dU,dW⟩:=cM
 refine F.ok mO (fun vs H Q E h=>?_) (fun cdv A outer s H vs Q E hr h=>?_)
 ·obtain ⟨c,r,a,q,s,xs,k,zs,cl,n,rfl,_⟩:=h
  rfl
 ·obtain ⟨c,r,a,q,s,xs,k,zs,cl,n,rfl,D,hrd,g⟩:=h
  obtain ⟨t,i,j,rest,hdrop,rfl,rfl⟩:=aeF hrd
  obtain ⟨Vb,hr0⟩:=id D.reader
  refine ⟨_,(ao (aY (i:=2) mO.nd rfl (Or.inl rfl) (b8 (pv 1) aQ aU aP (hr.mono (by decide)) aV .nil aO)) (ao (aY (i:=3) mO.nd rfl (Or.inl rfl) (b8 (pv 1) aQ aU aP (hr.mono (by decide)) aV .nil aO)) (ao (aY (i:=4) mO.nd rfl (Or.inl rfl) (b8 (pv 1) aQ aU aP (hr.mono (by decide)) aV .nil aO)) (ao (cC (eV (cP (fU (pv 0) bh bj bf (hr.mono (by decide)) bu .nil aO (aj (pv 2) ak)))) (aB (aH (bL (aj (bN rfl T.di) ak)))) bH) (ao (cC (eV (Zu lM qU qU aG (pv 3) (pv 4) (bF aZ (by rfl) T.cZ PySem.boot_len (aj (bA bB (bG (pv 0) rfl) (pv 2) (fun _ _=>rfl)) ak)))) (aB (aH (bL (aj (bN rfl T.fB) ak)))) bH) (aB (aH (aM dO (hr.mono (by decide)) rfl dR dU dW .nil aO (aj (pv 0) (aj (qW vG (bA bB (bG (pv 0) rfl) (pv 2) (fun _ _=>rfl)) (qt (pv 3)) (qt (bU d8 (pv 4) aG))) ak)))))))))),?_⟩
  open_ks with [iY,hr0,HO.ins.injEq,bT]
  refine D.number st hdrop fun H1 D1 hd1 Xi=>?_
  obtain ⟨dx1,hr1⟩:=id D1.reader
  open_ks with [hr1,HO.ins.injEq,bT]
  refine D1.number st hd1 fun H2 D2 hd2 kp2=>?_
  obtain ⟨dx2,hr2⟩:=id D2.reader
  open_ks with [hr2,HO.ins.injEq,bT]
  refine D2.number st hd2 fun H3 D3 hd3 kp3=>?_
  obtain ⟨dc,lm,lt,gA,hc,nq⟩:=id D3.chart
  have cV:=hc.ins
  open_ks with [cV,HO.ins.injEq,dq]
  refine ⟨c,q,t,s,rfl,D3.chart,?_⟩
  rw [fP]
  cases ht:Vbreab.trackAt s t with
  | none=>
   have e0:Vbreab.step s (.part t i j)=(s,[-2]):=cH ht
   open_ks with [Option.isSome_none]
   exact ⟨by decide,bW st D3 e0 rfl g⟩
  | some tr=>
   have et:Vbreab.step s (.part t i j)=if (decide (0≤i)&&(decide (i<j)&&decide (j<(tr.length:Int))))=false then (s,[-1]) else Vbreab.added s ((tr.take (j.toNat+1)).drop i.toNat):=cG ht
   obtain ⟨ap,ia,hap,_⟩:=hc.track ht
   have tok:=D3.ok.tracks tr (du ht)
   obtain ⟨as,rZ,Hc⟩:=id hap
   have la:as.length=tr.length:=bC Hc
   have bad:¬(0≤i∧i<j∧j<(tr.length:Int))→1≤sizeLine∧∀p,H3 p=none→Q (V.ref p) (upd H3 p (HO.lst [V.int (-1)])):=fun hb=>by
    have e0:Vbreab.step s (.part t i j)=(s,[-1]):=by
     rw [et,if_pos]
     rw [←Bool.not_eq_true]
     simp only [Bool.and_eq_true,decide_eq_true_eq]
     exact hb
    exact ⟨by decide,bW st D3 e0 rfl g⟩
   open_ks with [Option.isSome_some,Yr,gh,cV,HO.ins.injEq,RC.cl,RC.tracks,cD,gj]
   refine qx (fun h1=>?_) (fun h1=>?_)
   ·refine qx (fun h2=>?_) (fun h2=>?_)
    ·refine ⟨_,b7.of hc.lst,_,ia,ap,rfl,_,.inl (b7.of rZ),?_⟩
     rw [List.length_map,la]
     refine qx (fun h3=>?_) (fun h3=>?_)
     ·exact bad (by have:¬j<(tr.length:Int):=(by simpa using h3);omega)
     ·have g3:j<(tr.length:Int):=by simpa using h3
      rw [if_neg (by simp;omega)]at et
      obtain ⟨i',rfl⟩:∃i':Nat,i=(i':Int):=⟨i.toNat,by omega⟩
      obtain ⟨j',rfl⟩:∃j':Nat,j=(j':Int):=⟨j.toNat,by omega⟩
      have aeH:=abI (as.map V.ref) (i:=i') (j:=j') (by rw [List.length_map];omega) (by omega)
      simp only [Int.toNat_natCast]at et
      open_ks with [tSl,Qn,Cg,Zk,gj,gh,cV,HO.ins.injEq,RC.cl,RC.tracks,cD]
      refine ⟨_,b7.of hc.lst,_,ia,ap,rfl,_,b7.of rZ,fun l1 hl1=>?_⟩
      rw [aeH,←List.map_take,←List.map_drop]
      have s3:aK H3 (upd H3 l1 (.lst (((as.take (j'+1)).drop i').map V.ref))):=aK.new hl1
      have D4:=D3.same st s3
      obtain ⟨YJ,Lw⟩:=lC D3 hl1 s3
      refine ⟨c,r,a,q,s,xs,_,zs,l1,_,rfl,D4,⟨_,aA,bM (tH (yf Hc (j'+1)) i') fun b _ p hp=>hp.same s3⟩,YJ,Lw,?_,?_,Xb tok.clear _ _,fun H5 p5 n5 h5 D5=>?_⟩
      ·intro p hp
       exact tok.near p (List.mem_of_mem_take (List.mem_of_mem_drop hp))
      ·rw [List.length_drop,List.length_take];omega
      ·rw [←et]at h5 D5
       exact g H5 p5 n5 h5 D5
    ·exact bad (by omega)
   ·exact bad (by omega)
noncomputable abbrev uF:Stmt:=top 84
theorem mQ:aW ["chart","reader","t","m","places"] ["chart","reader"] (aF uF):=⟨rfl,rfl,rfl,by decide +kernel,rfl,by decide +kernel,by decide +kernel⟩
theorem Ly (st:za TB) (RC:ni K CC) (F:cI K "answer_wind" "answer_wind" uF f fd) (T:Txt mg) (aX:Met P w K mg base CR "number" 1 ["self"] (bJ K CR)) (aL:Met P w K mg base CC "has_track" 1 ["self","t"] (bR CC)) (Gf:ik P w K mg base "winding" 4 ["places","place"] Bb):cz P w K mg base fH 11 f fd ["chart","reader"] (f9 K CC CR TB Dj):=by
 obtain ⟨_,_,aP,aQ,aU,aV⟩:=aX;obtain ⟨_,_,bf,bh,bj,bu⟩:=aL;obtain ⟨_,_,Vr,Vs,Vt,Vu⟩:=Gf
 refine F.ok mQ (fun vs H Q E h=>?_) (fun cdv A outer s H vs Q E hr h=>?_)
 ·obtain ⟨c,r,a,q,s,xs,k,zs,cl,n,rfl,_⟩:=h
  rfl
 ·obtain ⟨c,r,a,q,s,xs,k,zs,cl,n,rfl,D,hrd,g⟩:=h
  obtain ⟨t,m,rest,hdrop,rfl,rfl⟩:=Sh hrd
  obtain ⟨Vb,hr0⟩:=id D.reader
  refine ⟨_,(ao (aY (i:=2) mQ.nd rfl (Or.inl rfl) (b8 (pv 1) aQ aU aP (hr.mono (by decide)) aV .nil aO)) (ao (aY (i:=3) mQ.nd rfl (Or.inl rfl) (b8 (pv 1) aQ aU aP (hr.mono (by decide)) aV .nil aO)) (ao (cC (eV (JZ lM qU aG (pv 3) (bF aZ (by rfl) T.cZ PySem.boot_len (aj (bG (pv 0) rfl) ak)))) (aB (aH (bL (aj (bN rfl T.fB) ak)))) bH) (ao (cC (eV (cP (fU (pv 0) bh bj bf (hr.mono (by decide)) bu .nil aO (aj (pv 2) ak)))) (aB (aH (bL (aj (bN rfl T.di) ak)))) bH) (ao (aY (i:=4) mQ.nd rfl (Or.inl rfl) (bA bB (bG (pv 0) rfl) (pv 2) (fun _ _=>rfl))) (ao (cC (bV (Rn hr.units) (bA bB (pv 4) aG (fun _ _=>rfl)) (bA bB (pv 4) (o8 jj aG) (fun _ _=>rfl)) (bQ _)) (aB (aH (bL (aj (bN rfl T.tY) ak)))) bH) (aB (aH (bL (aj aG (aj (aM Vr (hr.mono (by decide)) rfl Vs Vt Vu .nil aO (aj (pv 4) (aj (bA bB (bG (pv 0) rfl) (pv 3) (fun _ _=>rfl)) ak))) ak))))))))))),?_⟩
  open_ks with [iY,hr0,HO.ins.injEq,bT]
  refine D.number st hdrop fun H1 D1 hd1 Xi=>?_
  obtain ⟨dx1,hr1⟩:=id D1.reader
  open_ks with [hr1,HO.ins.injEq,bT]
  refine D1.number st hd1 fun H2 D2 hd2 kp2=>?_
  obtain ⟨dc,lm,lt,gA,hc,nq⟩:=id D2.chart
  have cV:=hc.ins
  obtain ⟨ams,hms,pms⟩:=id hc.marks
  have lms:ams.length=s.marks.length:=bC pms
  open_ks with [gh,cV,HO.ins.injEq,RC.cl,RC.marks,eF]
  have bad:¬(0≤m∧m<(s.marks.length:Int))→1≤sizeLine∧∀p,H2 p=none→Q (V.ref p) (upd H2 p (HO.lst [V.int (-1)])):=fun hb=>by
   have e0:Vbreab.step s (.wind t m)=(s,[-1]):=by
    show (if Vbreab.within m 0 ((s.marks.length:Int)-1)=false then (s,[-1]) else _)=_
    rw [if_pos]
    unfold Vbreab.within
    exact decide_eq_false (by omega)
   exact ⟨by decide,bW st D2 e0 rfl g⟩
  refine qx (fun h1=>?_) (fun h1=>?_)
  ·refine ⟨_,.inl (b7.of hms),?_⟩
   rw [List.length_map,lms]
   refine qx (fun h2=>?_) (fun h2=>?_)
   ·exact bad (by have:¬m<(s.marks.length:Int):=(by simpa using h2);omega)
   ·have g2:m<(s.marks.length:Int):=by simpa using h2
    open_ks with [cV,HO.ins.injEq,dq]
    refine ⟨c,q,t,s,rfl,D2.chart,?_⟩
    rw [fP]
    have ew:Vbreab.step s (.wind t m)=Vbreab.onTrack s t fun p=>if p.head?≠p.getLast? then (s,[-7]) else (s,[0,az.lJ (Vbreab.wordOf s.marks p) (m+1)-az.lJ (Vbreab.wordOf s.marks p) (-(m+1))]):=by
     show (if Vbreab.within m 0 ((s.marks.length:Int)-1)=false then (s,[-1]) else _)=_
     rw [if_neg (by unfold Vbreab.within;simp;omega)]
     rfl
    cases ht:Vbreab.trackAt s t with
    | none=>
     have e0:Vbreab.step s (.wind t m)=(s,[-2]):=by rw [ew];exact cH ht
     open_ks with [Option.isSome_none]
     exact ⟨by decide,bW st D2 e0 rfl g⟩
    | some tr=>
     rw [cG ht]at ew
     obtain ⟨ap,ia,hap,_⟩:=hc.track ht
     have tok:=D2.ok.tracks tr (du ht)
     obtain ⟨as,rZ,Hc⟩:=id hap
     have two:=tok.two
     obtain ⟨z1,hz1⟩:∃z,tr.getLast?=some z:=⟨_,List.getLast?_eq_some_getLast (by intro e;rw [e]at two;simp at two)⟩
     obtain ⟨z2,hz2⟩:∃z,tr[0]?=some z:=⟨_,List.getElem?_eq_getElem (by omega)⟩
     obtain ⟨al,i3,pl⟩:=Dn Hc hz1
     obtain ⟨a0,ha0,p0⟩:=bc Hc hz2
     have i4:oO (as.map V.ref) 0=some (.ref a0):=at_of (j:=0) rfl (by rw [List.getElem?_map,ha0];rfl)
     have acZ:tr.head?=some z2:=by rw [List.head?_eq_getElem?];exact hz2
     obtain ⟨m',rfl⟩:∃m':Nat,m=(m':Int):=⟨m.toNat,by omega⟩
     obtain ⟨pm,hpm⟩:∃pm,s.marks[m']?=some pm:=⟨_,List.getElem?_eq_getElem (by omega)⟩
     obtain ⟨am,ham,ppm⟩:=bc pms hpm
     have i5:oO (ams.map V.ref) ((m':Nat):Int)=some (.ref am):=at_of (j:=m') rfl (by rw [List.getElem?_map,ham];rfl)
     rw [hz1,acZ]at ew
     open_ks with [Option.isSome_some,gh,cV,HO.ins.injEq,RC.cl,RC.tracks,cD,gj]
     refine ⟨_,b7.of hc.lst,_,ia,?_⟩
     open_ks with [gj]
     refine ⟨_,b7.of rZ,_,i4,_,b7.of rZ,_,i3,?_⟩
     refine ⟨_,_,wV p0,wV pl,by rfl,by rfl,?_⟩
     rw [FQ]
     refine ⟨_,rfl,?_⟩
     by_cases ez:z2=z1
     ·rw [if_neg (by simp [ez])]
      rw [if_neg (by simp [ez])]at ew
      open_ks with [gh,cV,HO.ins.injEq,RC.cl,RC.marks,eF,gj]
      refine ⟨_,b7.of hms,_,i5,?_⟩
      refine ⟨ap,am,tr,pm,rfl,hap,tok.near,Nat.le_trans tok.most (by decide),ppm,D2.ok.marks.near pm (List.mem_of_getElem? hpm),fun H3 s3=>?_⟩
      rw [az.Wi D2.ok.marks hpm]at ew
      exact ⟨by decide,bW st (D2.same st s3) ew rfl g⟩
     ·rw [if_pos (by simp [ez])]
      rw [if_pos (by simp [ez])]at ew
      exact ⟨by decide,bW st D2 ew rfl g⟩
  ·exact bad (by omega)
end
theorem ZX {l:List Int} {rs:List Pt} (h:Vbreab.ratesOf l=some rs) (hl:l.length≤60):rs≠[]∧rs.length≤1000:=by
 rw [K5]at h
 obtain ⟨o1,o2⟩:=pairs_len l.length l (Nat.le_refl _)
 by_cases e:l.length % 2=1
 ·rw [o1 e]at h;cases h
 ·obtain ⟨ps,e1,e2,_⟩:=o2 (by omega)
  rw [e1]at h
  simp only [Option.bind_some]at h
  split at h
  ·rename_i hc
   cases h
   exact ⟨fun z=>hc.2 (by rw [z];rfl),by omega⟩
  ·cases h
theorem Lz {n:Nat} {l:List Int} {rs:List Pt} (h:tK n l=some rs) (hl:l.length≤60):rs.length≤1000∧∀q∈rs,nameB (n:Nat) q=true:=by
 unfold tK at h
 obtain ⟨o1,o2⟩:=pairs_len l.length l (Nat.le_refl _)
 by_cases e:l.length % 2=1
 ·rw [o1 e]at h;cases h
 ·obtain ⟨ps,e1,e2,_⟩:=o2 (by omega)
  rw [e1]at h
  simp only [Option.bind_some]at h
  split at h
  ·rename_i hc
   cases h
   exact ⟨by omega,fun q hq=>List.all_eq_true.1 hc q hq⟩
  ·cases h
theorem Bd {ms tr:List Pt} (jM:az.bK ms) (j4:ms.length≤16) (tok:gC ms tr):az.uP ms (Vbreab.stringOf ms tr):=by
 obtain ⟨I0,E0⟩:=Aq jM j4 tok
 have key:∀(m:Nat) (sl:List Node) (n e:Nat),e*1000+(sl.length-n)≤m→az.Inv ms sl n→az.vh ms e sl→az.uP ms (Vbreab.pull ms e sl):=by
  intro m
  induction m with
  | zero=>
   intro sl n e hm I E
   have:=rE E
   omega
  | succ m ih=>
   intro sl n e hm I E
   have Il:=I.len
   by_cases hlt:n+1<sl.length
   ·obtain ⟨Z,u,v,w',r,e0,hZ⟩:=CP sl Il.1 hlt
    cases hh:Vbreab.held u v w' with
    | true=>exact ih sl (n+1) e (by omega) (az.JC I e0 hZ hh) E
    | false=>
     obtain ⟨I',hp',Tn,hrel,hz0,hr0⟩:=az.JG jM I e0 hZ hh
     obtain ⟨E',Fy⟩:=E.step hp'
     have e1:=rE E
     rw [Fy]
     refine ih _ _ _ ?_ I' E'
     have c1:(az.bD ms u.at_ v.at_ w'.at_).length≤17:=by
      unfold az.bD
      rw [List.length_map]
      exact Nat.le_trans (yW _ _ _ _) (by omega)
     have l1:(Z++(Vbreab.released ms (Z.getLast?.getD u) u v w' r.head?++r)).length≤sl.length+17:=by
      rw [hrel,e0]
      simp only [List.length_append,List.length_cons,List.length_nil]
      omega
     omega
   ·have hend:sl.length≤n+1:=by omega
    rw [az.Jt (az.Q7 I hend) e]
    exact ⟨I.ok,az.BW I hend,by omega⟩
 exact key _ _ _ _ (Nat.le_refl _) I0 E0
section
variable {P:Program} {w:World} {K:PySem.W.Frag} {mg:Str→Option Value} {base:Heap} {f:Addr} {fd:FuncData} {CC CR CN CT:Addr} {TB:Hp→Prop}
noncomputable abbrev oh:Stmt:=top 89
theorem jg:aW ["chart","reader","t","rates","places"] ["chart","reader"] (aF oh):=⟨rfl,rfl,rfl,by decide +kernel,rfl,by decide +kernel,by decide +kernel⟩
theorem Dr (st:za TB) (RC:ni K CC) (F:cI K "answer_measure" "answer_measure" oh f fd) (T:Txt mg) (aX:Met P w K mg base CR "number" 1 ["self"] (bJ K CR)) (ie:Met P w K mg base CR "row" 2 ["self"] (fC K CR)) (wu:ik P w K mg base "rates_told" 2 ["numbers"] (uv K)) (aL:Met P w K mg base CC "has_track" 1 ["self","t"] (bR CC)) (wy:ik P w K mg base "measure_of" 2 ["places","rates"] uz) (qb:ik P w K mg base "string_places" 8 ["places","marks"] nU):cz P w K mg base fH 11 f fd ["chart","reader"] (f9 K CC CR TB rR):=by
 obtain ⟨_,_,aP,aQ,aU,aV⟩:=aX;obtain ⟨_,_,jG,jH,jJ,jK⟩:=ie;obtain ⟨_,_,LC,LK,LQ,LR⟩:=wu;obtain ⟨_,_,bf,bh,bj,bu⟩:=aL;obtain ⟨_,_,yx,yz,yC,yD⟩:=wy;obtain ⟨_,_,Ds,Dt,Du,Dv⟩:=qb
 refine F.ok jg (fun vs H Q E h=>?_) (fun cdv A outer s H vs Q E hr h=>?_)
 ·obtain ⟨c,r,a,q,s,xs,k,zs,cl,n,rfl,_⟩:=h
  rfl
 ·obtain ⟨c,r,a,q,s,xs,k,zs,cl,n,rfl,D,hrd,g⟩:=h
  obtain ⟨t,m,tl,hdrop,hm0,hm1,hm2,rfl,rfl⟩:=Sq hrd
  obtain ⟨Vb,hr0⟩:=id D.reader
  refine ⟨_,(ao (aY (i:=2) jg.nd rfl (Or.inl rfl) (b8 (pv 1) aQ aU aP (hr.mono (by decide)) aV .nil aO)) (ao (aY (i:=3) jg.nd rfl (Or.inl rfl) (aM LC (hr.mono (by decide)) rfl LK LQ LR .nil aO (aj (b8 (pv 1) jH jJ jG (hr.mono (by decide)) jK .nil aO) ak))) (ao (cC (bV tW (pv 3) eU (bQ _)) (aB (aH (bL (aj (bN rfl T.fB) ak)))) bH) (ao (cC (eV (cP (fU (pv 0) bh bj bf (hr.mono (by decide)) bu .nil aO (aj (pv 2) ak)))) (aB (aH (bL (aj (bN rfl T.di) ak)))) bH) (ao (aY (i:=4) jg.nd rfl (Or.inl rfl) (bA bB (bG (pv 0) rfl) (pv 2) (fun _ _=>rfl))) (aB (aH (bL (aj aG (aj (aM yx (hr.mono (by decide)) rfl yz yC yD .nil aO (aj (pv 4) (aj (pv 3) ak))) (aj (aM yx (hr.mono (by decide)) rfl yz yC yD .nil aO (aj (aM Ds (hr.mono (by decide)) rfl Dt Du Dv .nil aO (aj (pv 4) (aj (bG (pv 0) rfl) ak))) (aj (pv 3) ak))) ak))))))))))),?_⟩
  open_ks with [iY,hr0,HO.ins.injEq,bT]
  refine D.number st hdrop fun H1 D1 hd1 Xi=>?_
  obtain ⟨dx1,hr1⟩:=id D1.reader
  open_ks with [hr1,HO.ins.injEq,u5]
  refine D1.row st hd1 hm0 hm1 fun H2 pl hpl hl D2 hd2=>?_
  have hk:k+1+1+m.toNat=k+(2+m.toNat):=by omega
  generalize hL:tl.take m.toNat=L at *
  have lL:L.length≤60:=by rw [←hL,List.length_take];omega
  refine ⟨pl,L,rfl,b7.of hl,lL,?_⟩
  have em:Vbreab.step s (.measure t L)=match Vbreab.ratesOf L with
   | none=>(s,[-1])
   | some rs=>Vbreab.onTrack s t fun p=>(s,[0,Vbreab.measure rs p,Vbreab.measure rs ((Vbreab.stringOf s.marks p).map fun n=>n.at_)]):=rfl
  cases V1:Vbreab.ratesOf L with
  | none=>
   rw [V1]at em
   intro H3 s3
   open_ks with []
   exact ⟨by decide,bW st (D2.same st s3) em hk g⟩
  | some rs=>
   rw [V1]at em
   dsimp only at em
   intro H3 pr hpr hrs s3
   have D3:=D2.same st s3
   obtain ⟨r0,ac0⟩:=ZX V1 lL
   obtain ⟨dc,lm,lt,gA,hc,nq⟩:=id D3.chart
   have cV:=hc.ins
   open_ks with [cV,HO.ins.injEq,dq]
   refine ⟨c,q,t,s,rfl,D3.chart,?_⟩
   rw [fP]
   cases ht:Vbreab.trackAt s t with
   | none=>
    rw [cH ht]at em
    open_ks with [Option.isSome_none]
    exact ⟨by decide,bW st D3 em hk g⟩
   | some tr=>
    rw [cG ht]at em
    obtain ⟨ap,ia,hap,_⟩:=hc.track ht
    have tok:=D3.ok.tracks tr (du ht)
    open_ks with [Option.isSome_some,gh,cV,HO.ins.injEq,RC.cl,RC.tracks,cD,gj]
    refine ⟨_,b7.of hc.lst,_,ia,?_⟩
    refine ⟨ap,pr,tr,rs,rfl,hap,tok.near,Nat.le_trans tok.most (by decide),hrs,r0,ac0,fun H4 s4=>?_⟩
    have D4:=D3.same st s4
    have Ma:=s4 _ _ cV
    open_ks with [gh,Ma,HO.ins.injEq,RC.cl,RC.marks,eF]
    refine ⟨ap,lm,tr,s.marks,rfl,hap.same s4,hc.marks.same s4,D4.ok.marks,D4.ok.few,tok,fun H5 l hl5 ahL hnear xn s5=>?_⟩
    refine ⟨l,pr,_,rs,rfl,ahL,hnear,by rw [List.length_map];exact xn,(hrs.same s4).same s5,r0,ac0,fun H6 s6=>?_⟩
    exact ⟨by decide,bW st ((D4.same st s5).same st s6) em hk g⟩
noncomputable abbrev su:Stmt:=top 83
theorem j0:aW ["chart","reader","t","course","taken"] ["chart","reader"] (aF su):=⟨rfl,rfl,rfl,by decide +kernel,rfl,by decide +kernel,by decide +kernel⟩
theorem Ia (st:za TB) (RC:ni K CC) (F:cI K "answer_sails" "answer_sails" su f fd) (T:Txt mg) (aX:Met P w K mg base CR "number" 1 ["self"] (bJ K CR)) (ie:Met P w K mg base CR "row" 2 ["self"] (fC K CR)) (uG:ik P w K mg base "course_told" 2 ["numbers","many"] (rN K)) (aL:Met P w K mg base CC "has_track" 1 ["self","t"] (bR CC)) (oA:ik P w K mg base "sailed_touches" 9 ["places","course","marks"] mL):cz P w K mg base fH 11 f fd ["chart","reader"] (f9 K CC CR TB yu):=by
 obtain ⟨_,_,aP,aQ,aU,aV⟩:=aX;obtain ⟨_,_,jG,jH,jJ,jK⟩:=ie;obtain ⟨_,_,Ib,Ie,Ig,Ih⟩:=uG;obtain ⟨_,_,bf,bh,bj,bu⟩:=aL;obtain ⟨_,_,Be,Bf,Bg,Bh⟩:=oA
 refine F.ok j0 (fun vs H Q E h=>?_) (fun cdv A outer s H vs Q E hr h=>?_)
 ·obtain ⟨c,r,a,q,s,xs,k,zs,cl,n,rfl,_⟩:=h
  rfl
 ·obtain ⟨c,r,a,q,s,xs,k,zs,cl,n,rfl,D,hrd,g⟩:=h
  obtain ⟨t,m,tl,hdrop,hm0,hm1,hm2,rfl,rfl⟩:=Sq hrd
  obtain ⟨Vb,hr0⟩:=id D.reader
  refine ⟨_,(ao (aY (i:=2) j0.nd rfl (Or.inl rfl) (b8 (pv 1) aQ aU aP (hr.mono (by decide)) aV .nil aO)) (ao (aY (i:=3) j0.nd rfl (Or.inl rfl) (aM Ib (hr.mono (by decide)) rfl Ie Ig Ih .nil aO (aj (b8 (pv 1) jH jJ jG (hr.mono (by decide)) jK .nil aO) (aj (bF aZ (by rfl) T.cZ PySem.boot_len (aj (bG (pv 0) rfl) ak)) ak)))) (ao (cC (bV tW (pv 3) eU (bQ _)) (aB (aH (bL (aj (bN rfl T.fB) ak)))) bH) (ao (cC (eV (cP (fU (pv 0) bh bj bf (hr.mono (by decide)) bu .nil aO (aj (pv 2) ak)))) (aB (aH (bL (aj (bN rfl T.di) ak)))) bH) (ao (aY (i:=4) j0.nd rfl (Or.inl rfl) (aM Be (hr.mono (by decide)) rfl Bf Bg Bh .nil aO (aj (bA bB (bG (pv 0) rfl) (pv 2) (fun _ _=>rfl)) (aj (pv 3) (aj (bG (pv 0) rfl) ak))))) (aB (aH (bU j5 (bL (aj (o7 (bV uQ (bF aZ (by rfl) T.cZ PySem.boot_len (aj (pv 4) ak)) (bF aZ (by rfl) T.cZ PySem.boot_len (aj (pv 3) ak)) (bQ _)) aG aG) (aj (bF aZ (by rfl) T.cZ PySem.boot_len (aj (pv 4) ak)) ak))) (pv 4))))))))),?_⟩
  open_ks with [iY,hr0,HO.ins.injEq,bT]
  refine D.number st hdrop fun H1 D1 hd1 Xi=>?_
  obtain ⟨dx1,hr1⟩:=id D1.reader
  open_ks with [hr1,HO.ins.injEq,u5]
  refine D1.row st hd1 hm0 hm1 fun H2 pl hpl hl D2 hd2=>?_
  have hk:k+1+1+m.toNat=k+(2+m.toNat):=by omega
  generalize hL:tl.take m.toNat=L at *
  have lL:L.length≤60:=by rw [←hL,List.length_take];omega
  obtain ⟨dc,lm,lt,gA,hc,nq⟩:=id D2.chart
  have cV:=hc.ins
  obtain ⟨ams,hms,pms⟩:=id hc.marks
  have lms:ams.length=s.marks.length:=bC pms
  have em:Vbreab.step s (.sails t L)=match Vbreab.courseOf s L with
   | none=>(s,[-1])
   | some e=>Vbreab.onTrack s t fun p=>(s,(if (Vbreab.sails s.marks e p).length=e.length then 1 else 0)::Vbreab.counted ((Vbreab.sails s.marks e p).map fun (n:Nat)=>(n:Int))):=rfl
  rw [Li]at em
  open_ks with [gh,cV,HO.ins.injEq,RC.cl,RC.marks,eF]
  refine ⟨_,.inl (b7.of hms),?_⟩
  rw [List.length_map,lms]
  refine ⟨pl,L,s.marks.length,rfl,b7.of hl,lL,?_⟩
  cases V1:tK s.marks.length L with
  | none=>
   rw [V1]at em
   intro H3 s3
   open_ks with []
   exact ⟨by decide,bW st (D2.same st s3) em hk g⟩
  | some rs=>
   rw [V1]at em
   simp only [Option.map_some]at em
   intro H3 pr hpr hrs s3
   have D3:=D2.same st s3
   obtain ⟨ac0,adG⟩:=Lz V1 lL
   have Vv:=s3 _ _ cV
   open_ks with [Vv,HO.ins.injEq,dq]
   refine ⟨c,q,t,s,rfl,D3.chart,?_⟩
   rw [fP]
   cases ht:Vbreab.trackAt s t with
   | none=>
    rw [cH ht]at em
    open_ks with [Option.isSome_none]
    exact ⟨by decide,bW st D3 em hk g⟩
   | some tr=>
    rw [cG ht]at em
    have hc3:=hc.same s3
    obtain ⟨ap,ia,hap,_⟩:=hc3.track ht
    have tok:=D3.ok.tracks tr (du ht)
    rw [acX D3.ok.marks D3.ok.few adG (Bd (abz D3.ok.marks) (Nat.le_trans (sub_len _ _) D3.ok.few) (Qy tok))]at em
    open_ks with [Option.isSome_some,gh,Vv,HO.ins.injEq,RC.cl,RC.tracks,RC.marks,cD,eF,gj]
    refine ⟨_,b7.of hc3.lst,_,ia,?_⟩
    refine ⟨ap,pr,lm,tr,rs,s.marks,rfl,hap,hrs,hc3.marks,D3.ok.marks,D3.ok.few,tok,ac0,adG,fun H4 p4 hp4 h4 s4=>?_⟩
    have aj4:=G9 (me:=mW s.marks) rs (az.wX (Vbreab.stringOf (yj rs s.marks) tr)).zipIdx
    generalize dY (mW s.marks) rs (az.wX (Vbreab.stringOf (yj rs s.marks) tr)).zipIdx=FF at *
    have lF:(yo FF).length=FF.length:=by unfold yo;rw [List.length_map]
    obtain ⟨cs,hcs,Qx⟩:=id (hrs.same s4)
    have lcs:cs.length=rs.length:=bC Qx
    have D4:=D3.same st s4
    rw [List.length_map]at em
    have fin:∀z:Int,(if FF.length=rs.length then (1:Int) else 0)=z→∃p,V.ref p4=V.ref p∧∃x_3,(b7 K H4 p x_3∨zj K H4 p x_3)∧2≤sizeLine∧∀(p:Addr),H4 p=none→aee (V.ref p) (V.ref p4) (upd H4 p (HO.lst [V.int z,V.int (x_3.length:Nat)])) Q:=by
     intro z hz
     refine ⟨p4,rfl,_,.inl (b7.of h4),by decide,fun l1 hl1=>?_⟩
     rw [lF]
     have s5:=aK.new (o:=.lst [V.int z,V.int (FF.length:Nat)]) hl1
     refine ⟨l1,p4,_,_,rfl,rfl,aA,s5 _ _ h4,?_,fun l2 hl2=>?_⟩
     ·rw [lF];exact Nat.le_trans (show 2+FF.length≤2000 by omega) (by decide)
     ·have ee:=bW st (D4.same st s5) em hk g l2 hl2
      rw [hz]at ee
      have e3:(z::Vbreab.counted (FF.map fun (n:Nat)=>(n:Int))).map V.int=[V.int z,V.int (FF.length:Nat)]++yo FF:=by
       unfold Vbreab.counted yo
       simp
      rw [e3]at ee
      exact ee
    refine ⟨p4,rfl,_,.inl (b7.of h4),_,.inl (b7.of hcs),?_⟩
    rw [lF,List.length_map,lcs]
    refine qx (fun h5=>?_) (fun h5=>?_)
    ·exact fin 1 (if_pos (by omega))
    ·exact fin 0 (if_neg (by omega))
end
theorem Gg {n:Nat} {l:List Int} {ps:List Pt} (h:fJ n l=some ps) (hn:1≤n) (hl:l.length≤60):Vbreab.pointsOf l=some ps∧n≤ps.length∧jC ps∧ps.length≤30:=by
 unfold fJ at h
 obtain ⟨o1,o2⟩:=pairs_len l.length l (Nat.le_refl _)
 by_cases e:l.length % 2=1
 ·rw [o1 e]at h;cases h
 ·obtain ⟨qs,e1,e2,_⟩:=o2 (by omega)
  rw [e1]at h
  simp only at h
  split at h
  ·rename_i hc
   cases h
   refine ⟨?_,hc.2,fun p hp=>Ad (List.all_eq_true.1 hc.1 p hp),by omega⟩
   unfold Vbreab.pointsOf
   rw [e1,Option.bind_some,if_pos ⟨hc.1,by omega⟩]
  ·cases h
theorem QC {n:Nat} {l:List Int} (h:fJ n l=none):Vbreab.pointsOf l=none∨∃ps,Vbreab.pointsOf l=some ps∧ps.length<n:=by
 unfold fJ at h
 unfold Vbreab.pointsOf
 cases hp:Vbreab.pairs l with
 | none=>left;rfl
 | some ps=>
  rw [hp]at h
  simp only at h
  rw [Option.bind_some]
  split at h
  ·cases h
  ·rename_i hc
   by_cases c:ps.all Vbreab.placeOk=true∧ps.length≠0
   ·right
    refine ⟨ps,if_pos c,?_⟩
    have:¬n≤ps.length:=fun z=>hc ⟨c.1,z⟩
    omega
   ·left;exact if_neg c
theorem QD {s:State} {l:List Int} (h:fJ 2 l=none):Vbreab.step s (.track l)=(s,[-1])∧Vbreab.step s (.touch l)=(s,[-1]):=by
 rcases QC h with h | ⟨ps,h,h2⟩
 ·constructor
  ·show (match Vbreab.pointsOf l with | none=>(s,[-1]) | some p=>_)=_
   rw [h]
  ·show (match Vbreab.pointsOf l with | none=>(s,[-1]) | some p=>_)=_
   rw [h]
 ·constructor
  ·show (match Vbreab.pointsOf l with | none=>(s,[-1]) | some p=>if p.length<2 then (s,[-1]) else Vbreab.added s p)=_
   rw [h];exact if_pos h2
  ·show (match Vbreab.pointsOf l with | none=>(s,[-1]) | some p=>if p.length<2 then (s,[-1]) else match Vbreab.touching s.marks p with | none=>(s,[0]) | some x=>(s,[1,(x.1:Int),(x.2:Int)]))=_
   rw [h];exact if_pos h2
theorem Mf {s:State} {l:List Int} {ps:List Pt} (h:Vbreab.pointsOf l=some ps) (h2:2≤ps.length):Vbreab.step s (.track l)=Vbreab.added s ps∧Vbreab.step s (.touch l)=(match Vbreab.touching s.marks ps with | none=>(s,[0]) | some x=>(s,[1,(x.1:Int),(x.2:Int)])):=by
 constructor
 ·show (match Vbreab.pointsOf l with | none=>(s,[-1]) | some p=>if p.length<2 then (s,[-1]) else Vbreab.added s p)=_
  rw [h];exact if_neg (by omega)
 ·show (match Vbreab.pointsOf l with | none=>(s,[-1]) | some p=>if p.length<2 then (s,[-1]) else match Vbreab.touching s.marks p with | none=>(s,[0]) | some x=>(s,[1,(x.1:Int),(x.2:Int)]))=_
  rw [h];exact if_neg (by omega)
section
variable {P:Program} {w:World} {K:PySem.W.Frag} {mg:Str→Option Value} {base:Heap} {f:Addr} {fd:FuncData} {CC CR CN CT:Addr} {TB:Hp→Prop}
noncomputable abbrev sE:Stmt:=top 72
theorem qg:aW ["chart","reader","places","found"] ["chart","reader"] (aF sE):=⟨rfl,rfl,rfl,by decide +kernel,rfl,by decide +kernel,by decide +kernel⟩
theorem Ii (st:za TB) (RC:ni K CC) (F:cI K "answer_touch" "answer_touch" sE f fd) (T:Txt mg) (ie:Met P w K mg base CR "row" 2 ["self"] (fC K CR)) (dF:ik P w K mg base "places_told" 2 ["numbers","least"] (jm K)) (dG:ik P w K mg base "first_touch" 3 ["places","marks"] jt):cz P w K mg base fH 11 f fd ["chart","reader"] (f9 K CC CR TB yr):=by
 obtain ⟨_,_,jG,jH,jJ,jK⟩:=ie;obtain ⟨_,_,iB,iC,iD,iG⟩:=dF;obtain ⟨_,_,iH,iI,iJ,iK⟩:=dG
 refine F.ok qg (fun vs H Q E h=>?_) (fun cdv A outer s H vs Q E hr h=>?_)
 ·obtain ⟨c,r,a,q,s,xs,k,zs,cl,n,rfl,_⟩:=h
  rfl
 ·obtain ⟨c,r,a,q,s,xs,k,zs,cl,n,rfl,D,hrd,g⟩:=h
  obtain ⟨m,tl,hdrop,hm0,hm1,hm2,rfl,rfl⟩:=abE hrd
  obtain ⟨Vb,hr0⟩:=id D.reader
  refine ⟨_,(ao (aY (i:=2) qg.nd rfl (Or.inl rfl) (aM iB (hr.mono (by decide)) rfl iC iD iG .nil aO (aj (b8 (pv 1) jH jJ jG (hr.mono (by decide)) jK .nil aO) (aj aG ak)))) (ao (cC (bV tW (pv 2) eU (bQ _)) (aB (aH (bL (aj (bN rfl T.fB) ak)))) bH) (ao (aY (i:=3) qg.nd rfl (Or.inl rfl) (aM iH (hr.mono (by decide)) rfl iI iJ iK .nil aO (aj (pv 2) (aj (bG (pv 0) rfl) ak)))) (ao (cC (bV tW (pv 3) eU (bQ _)) (aB (aH (bL (aj aG ak)))) bH) (aB (aH (bL (aj aG (aj (bA vD (pv 3) aG (fun _ _=>rfl)) (aj (bA vD (pv 3) aG (fun _ _=>rfl)) ak)))))))))),?_⟩
  open_ks with [iY,hr0,HO.ins.injEq,u5]
  refine D.row st hdrop hm0 hm1 fun H2 pl hpl hl D2 hd2=>?_
  have hk:k+1+m.toNat=k+(1+m.toNat):=by omega
  generalize hL:tl.take m.toNat=L at *
  have lL:L.length≤60:=by rw [←hL,List.length_take];omega
  refine ⟨pl,L,2,rfl,b7.of hl,lL,by decide,?_⟩
  cases V1:fJ 2 L with
  | none=>
   intro H3 s3
   open_ks with []
   exact ⟨by decide,bW st (D2.same st s3) (QD V1).2 hk g⟩
  | some ps=>
   obtain ⟨hpo,h2,hne,hle⟩:=Gg V1 (by decide) lL
   have em:=(Mf (s:=s) hpo h2).2
   intro H3 pr hpr hps s3
   have D3:=D2.same st s3
   obtain ⟨dc,lm,lt,gA,hc,nq⟩:=id D3.chart
   have cV:=hc.ins
   open_ks with [gh,cV,HO.ins.injEq,RC.cl,RC.marks,eF]
   refine ⟨pr,lm,ps,s.marks,rfl,hps,hc.marks,hne,D3.ok.marks.near,by omega,?_⟩
   cases htt:Vbreab.touching s.marks ps with
   | none=>
    rw [htt]at em
    intro H4 s4
    open_ks with []
    exact ⟨by decide,bW st (D3.same st s4) em hk g⟩
   | some x=>
    rw [htt]at em
    intro H4 tu htu h4 s4
    have i0:oO [V.int (x.1:Nat),V.int (x.2:Nat)] 0=some (.int (x.1:Nat)):=at_of (j:=0) rfl rfl
    have i1:oO [V.int (x.1:Nat),V.int (x.2:Nat)] 1=some (.int (x.2:Nat)):=at_of (j:=1) rfl rfl
    open_ks with [aa7]
    refine ⟨_,zj.of h4,_,i0,_,zj.of h4,_,i1,by decide,?_⟩
    exact bW st (D3.same st s4) em hk g
noncomputable abbrev sG:Stmt:=top 71
theorem wW:aW ["chart","reader","places"] ["chart","reader"] (aF sG):=⟨rfl,rfl,rfl,by decide +kernel,rfl,by decide +kernel,by decide +kernel⟩
theorem Ij (st:za TB) (RC:ni K CC) (F:cI K "answer_track" "answer_track" sG f fd) (T:Txt mg) (ie:Met P w K mg base CR "row" 2 ["self"] (fC K CR)) (dF:ik P w K mg base "places_told" 2 ["numbers","least"] (jm K)) (n8:ik P w K mg base "has_room" 1 ["chart","places"] (tL CC)) (dG:ik P w K mg base "first_touch" 3 ["places","marks"] jt) (iU:Met P w K mg base CC "new_track" 1 ["self","places"] (gW CC)):cz P w K mg base fH 11 f fd ["chart","reader"] (f9 K CC CR TB yq):=by
 obtain ⟨_,_,jG,jH,jJ,jK⟩:=ie;obtain ⟨_,_,iB,iC,iD,iG⟩:=dF;obtain ⟨_,_,v9,wg,wj,wk⟩:=n8;obtain ⟨_,_,iH,iI,iJ,iK⟩:=dG;obtain ⟨_,_,pX,pY,pZ,p8⟩:=iU
 refine F.ok wW (fun vs H Q E h=>?_) (fun cdv A outer s H vs Q E hr h=>?_)
 ·obtain ⟨c,r,a,q,s,xs,k,zs,cl,n,rfl,_⟩:=h
  rfl
 ·obtain ⟨c,r,a,q,s,xs,k,zs,cl,n,rfl,D,hrd,g⟩:=h
  obtain ⟨m,tl,hdrop,hm0,hm1,hm2,rfl,rfl⟩:=abE hrd
  obtain ⟨Vb,hr0⟩:=id D.reader
  refine ⟨_,(ao (aY (i:=2) wW.nd rfl (Or.inl rfl) (aM iB (hr.mono (by decide)) rfl iC iD iG .nil aO (aj (b8 (pv 1) jH jJ jG (hr.mono (by decide)) jK .nil aO) (aj aG ak)))) (ao (cC (bV tW (pv 2) eU (bQ _)) (aB (aH (bL (aj (bN rfl T.fB) ak)))) bH) (ao (cC (eV (cP (aM v9 (hr.mono (by decide)) rfl wg wj wk .nil aO (aj (pv 0) (aj (pv 2) ak))))) (aB (aH (bL (aj (bN rfl T.vK) ak)))) bH) (ao (cC (bV Jc (aM iH (hr.mono (by decide)) rfl iI iJ iK .nil aO (aj (pv 2) (aj (bG (pv 0) rfl) ak))) eU (bQ _)) (aB (aH (bL (aj (bN rfl T.wN) ak)))) bH) (aB (aH (bL (aj (fU (pv 0) pY pZ pX (hr.mono (by decide)) p8 .nil aO (aj (pv 2) ak)) ak)))))))),?_⟩
  open_ks with [iY,hr0,HO.ins.injEq,u5]
  refine D.row st hdrop hm0 hm1 fun H2 pl hpl hl D2 hd2=>?_
  have hk:k+1+m.toNat=k+(1+m.toNat):=by omega
  generalize hL:tl.take m.toNat=L at *
  have lL:L.length≤60:=by rw [←hL,List.length_take];omega
  refine ⟨pl,L,2,rfl,b7.of hl,lL,by decide,?_⟩
  cases V1:fJ 2 L with
  | none=>
   intro H3 s3
   open_ks with []
   exact ⟨by decide,bW st (D2.same st s3) (QD V1).1 hk g⟩
  | some ps=>
   obtain ⟨hpo,h2,hne,hle⟩:=Gg V1 (by decide) lL
   have em:=(Mf (s:=s) hpo h2).1
   intro H3 pr hpr hps s3
   have D3:=D2.same st s3
   obtain ⟨dc,lm,lt,gA,hc,nq⟩:=id D3.chart
   have cV:=hc.ins
   open_ks with []
   refine ⟨c,q,pr,s,ps,rfl,D3.chart,hps,?_⟩
   cases hroom:(decide (s.tracks.length<8)&&decide (ps.length≤200)) with
   | false=>
    rw [Lr hroom]at em
    open_ks with []
    exact ⟨by decide,bW st D3 em hk g⟩
   | true=>
    open_ks with [gh,cV,HO.ins.injEq,RC.cl,RC.marks,eF]
    refine ⟨pr,lm,ps,s.marks,rfl,hps,hc.marks,hne,D3.ok.marks.near,by omega,?_⟩
    cases htt:Vbreab.touching s.marks ps with
    | some x=>
     rw [ZW hroom (by rw [htt];rfl)]at em
     intro H4 tu htu h4 s4
     open_ks with []
     exact ⟨by decide,bW st (D3.same st s4) em hk g⟩
    | none=>
     rw [QB hroom htt]at em
     simp only [Bool.and_eq_true,decide_eq_true_eq]at hroom
     intro H4 s4
     have D4:=D3.same st s4
     obtain ⟨YJ,Lw⟩:=lC D2 hpr (s3.trans s4)
     have Ma:=s4 _ _ cV
     open_ks with [iY,Ma,HO.ins.injEq,Lp]
     refine ⟨c,q,pr,ps,s,rfl,D4.chart,hps.same s4,YJ,Lw,hroom.1,fun H5 hch fr=>?_⟩
     have D5:=D4.change st fr hch (zL D4.ok ⟨hne,h2,hroom.2,Hb htt⟩ hroom.1)
     exact ⟨by decide,bW st D5 em hk g⟩
noncomputable abbrev uH:Stmt:=top 69
theorem sH:aW ["chart","reader","x","y"] ["chart","reader"] (aF uH):=⟨rfl,rfl,rfl,by decide +kernel,rfl,by decide +kernel,by decide +kernel⟩
theorem QF (s:State) (x y:Int):Vbreab.step s (.mark x y)=if Vbreab.placeOk ⟨x,y⟩=false then (s,[-1]) else if s.marks.contains ⟨x,y⟩=true then (s,[-2]) else if Vbreab.MARKS≤s.marks.length then (s,[-3]) else if s.tracks.isEmpty=false then (s,[-4]) else ({ s with marks:=s.marks++[⟨x,y⟩] },[(s.marks.length:Int)]):=rfl
theorem Mg (st:za TB) (RC:ni K CC) (F:cI K "answer_mark" "answer_mark" uH f fd) (T:Txt mg) (aX:Met P w K mg base CR "number" 1 ["self"] (bJ K CR)) (gY:ik P w K mg base "in_range" 1 ["x","y"] jk) (wz:Met P w K mg base CC "new_mark" 1 ["self","place"] (lQ CC)):cz P w K mg base fH 11 f fd ["chart","reader"] (f9 K CC CR TB Dg):=by
 obtain ⟨_,_,aP,aQ,aU,aV⟩:=aX;obtain ⟨_,_,lW,lX,lY,mj⟩:=gY;obtain ⟨_,_,Mh,Mi,Mj,Ml⟩:=wz
 refine F.ok sH (fun vs H Q E h=>?_) (fun cdv A outer s H vs Q E hr h=>?_)
 ·obtain ⟨c,r,a,q,s,xs,k,zs,cl,n,rfl,_⟩:=h
  rfl
 ·obtain ⟨c,r,a,q,s,xs,k,zs,cl,n,rfl,D,hrd,g⟩:=h
  obtain ⟨x,y,rest,hdrop,rfl,rfl⟩:=Sh hrd
  obtain ⟨Vb,hr0⟩:=id D.reader
  have em:=QF s x y
  refine ⟨_,(ao (aY (i:=2) sH.nd rfl (Or.inl rfl) (b8 (pv 1) aQ aU aP (hr.mono (by decide)) aV .nil aO)) (ao (aY (i:=3) sH.nd rfl (Or.inl rfl) (b8 (pv 1) aQ aU aP (hr.mono (by decide)) aV .nil aO)) (ao (cC (eV (cP (aM lW (hr.mono (by decide)) rfl lX lY mj .nil aO (aj (pv 2) (aj (pv 3) ak))))) (aB (aH (bL (aj (bN rfl T.fB) ak)))) bH) (ao (cC (bV (ZS hr.units) (tX (aj (pv 2) (aj (pv 3) ak))) (bG (pv 0) rfl) rfl) (aB (aH (bL (aj (bN rfl T.Ry) ak)))) bH) (ao (cC (bV Up (bF aZ (by rfl) T.cZ PySem.boot_len (aj (bG (pv 0) rfl) ak)) (bN rfl T.Rx) (bQ _)) (aB (aH (bL (aj (bN rfl T.vK) ak)))) bH) (ao (cC (bV xm (bF aZ (by rfl) T.cZ PySem.boot_len (aj (bG (pv 0) rfl) ak)) aG (bQ _)) (aB (aH (bL (aj (bN rfl T.Nu) ak)))) bH) (aB (aH (bL (aj (fU (pv 0) Mi Mj Mh (hr.mono (by decide)) Ml .nil aO (aj (tX (aj (pv 2) (aj (pv 3) ak))) ak)) ak)))))))))),?_⟩
  open_ks with [iY,hr0,HO.ins.injEq,bT]
  refine D.number st hdrop fun H1 D1 hd1 Xi=>?_
  obtain ⟨dx1,hr1⟩:=id D1.reader
  open_ks with [hr1,HO.ins.injEq,bT]
  refine D1.number st hd1 fun H2 D2 hd2 kp2=>?_
  obtain ⟨dc,lm,lt,gA,hc,nq⟩:=id D2.chart
  have cV:=hc.ins
  obtain ⟨ams,hms,pms⟩:=id hc.marks
  have lms:ams.length=s.marks.length:=bC pms
  have hio:=Ac ⟨x,y⟩
  dsimp only at hio
  open_ks with [jk,hio]
  cases hok:Vbreab.placeOk ⟨x,y⟩ with
  | false=>
   rw [if_pos hok]at em
   open_ks with []
   exact ⟨by decide,bW st D2 em rfl g⟩
  | true=>
   rw [if_neg (by rw [hok];simp)]at em
   open_ks with [gh]
   refine ⟨by decide,fun t1 ht1=>?_⟩
   have s3:=aK.new (o:=.tup [.int x,.int y]) ht1
   have D3:=D2.same st s3
   have Vv:=s3 _ _ cV
   open_ks with [Vv,HO.ins.injEq,RC.cl,RC.marks,RC.tracks,eF,cD]
   refine ⟨t1,lm,⟨x,y⟩,s.marks,rfl,rfl,aA,hc.marks.same s3,?_⟩
   refine ⟨_,rfl,?_⟩
   cases hcon:s.marks.contains ⟨x,y⟩ with
   | true=>
    rw [if_pos hcon]at em
    open_ks with []
    exact ⟨by decide,bW st D3 em rfl g⟩
   | false=>
    rw [if_neg (by rw [hcon];simp)]at em
    open_ks with [Vv,HO.ins.injEq,RC.cl,RC.marks,RC.tracks,eF,cD]
    refine ⟨_,.inl (b7.of (s3 _ _ hms)),?_⟩
    rw [List.length_map,lms]
    refine qx (fun j4=>?_) (fun j4=>?_)
    ·rw [if_pos (by unfold Vbreab.MARKS;omega)]at em
     exact ⟨by decide,bW st D3 em rfl g⟩
    ·rw [if_neg (by unfold Vbreab.MARKS;omega)]at em
     refine ⟨_,.inl (b7.of (s3 _ _ hc.lst)),?_⟩
     rw [List.length_map,bC hc.tracks]
     refine qx (fun htr=>?_) (fun htr=>?_)
     ·rw [if_pos (by cases hh:s.tracks with
       | nil=>rw [hh]at htr;simp at htr
       | cons _ _=>rfl)]at em
      exact ⟨by decide,bW st D3 em rfl g⟩
     ·have hnil:s.tracks=[]:=by
       cases hh:s.tracks with
       | nil=>rfl
       | cons _ _=>rw [hh]at htr;simp at htr
      rw [if_neg (by rw [hnil];simp)]at em
      refine ⟨abF _ _,by decide,fun t2 ht2=>?_⟩
      have s4:=aK.new (o:=.tup [.int x,.int y]) ht2
      have D4:=D3.same st s4
      refine ⟨c,q,t2,⟨x,y⟩,s,rfl,D4.chart,aA,by omega,fun H5 hch fr=>?_⟩
      have hnm:(⟨x,y⟩:Pt)∉s.marks:=by
       intro hm
       rw [List.contains_iff_mem.2 hm]at hcon
       cases hcon
      have D5:=D4.change st fr hch (Sg D4.ok (Ad hok) hnm (by omega) hnil)
      exact ⟨by decide,bW st D5 em rfl g⟩
noncomputable abbrev Bj:Stmt:=top 73
theorem Vw:aW ["chart","t","places"] ["chart","t","places"] (aF Bj):=⟨rfl,rfl,rfl,by decide +kernel,rfl,by decide +kernel,by decide +kernel⟩
inductive tM (K:PySem.W.Frag) (CC CR:Addr) (TB:Hp→Prop) (vs:List V) (H:Hp) (Q:VK) (E:XK):Prop where
 | mk (c:Addr) (r:Addr) (a:Addr) (q:Addr) (s:State) (xs:List Int) (k:Nat) (zs:List V) (t:Int) (p:Addr) (ps:List Pt) (tr:List Pt) (_:vs=[.ref c,.int t,.ref p]) (_:cF K CC CR TB H c r a q s xs k zs) (_:Vbreab.trackAt s t=some tr) (_:cu H p ps) (_:p≠q) (_:(∀dx lm lt gA,eZ CC H c s dx lm lt gA→p≠lm∧p≠lt)) (_:jC ps) (_:2≤ps.length) (_:ps.length≤100000) (_:∀H' p',p'≠q→H' p'=some (.lst ((Vbreab.changed s t ps).2.map V.int))→cF K CC CR TB H' c r a q (Vbreab.changed s t ps).1 xs k zs→Q (.ref p') H'):tM K CC CR TB vs H Q E
theorem Vx (st:za TB) (RC:ni K CC) (F:cI K "lengthen" "lengthen" Bj f fd) (T:Txt mg) (dG:ik P w K mg base "first_touch" 3 ["places","marks"] jt):cz P w K mg base fH 4 f fd ["chart","t","places"] (tM K CC CR TB):=by
 obtain ⟨_,_,iH,iI,iJ,iK⟩:=dG
 refine F.ok Vw (fun vs H Q E h=>?_) (fun cdv A outer s H vs Q E hr h=>?_)
 ·obtain ⟨c,r,a,q,s,xs,k,zs,t,p,ps,tr,rfl,_⟩:=h
  rfl
 ·obtain ⟨c,r,a,q,s,xs,k,zs,t,p,ps,tr,rfl,D,ht,hp,npq,nal,na,h2,xn,g⟩:=h
  obtain ⟨dc,lm,lt,gA,hc,nq1,YJ,nq3⟩:=id D.chart
  have cV:=hc.ins
  obtain ⟨as,hpl,pps⟩:=id hp
  have la:as.length=ps.length:=bC pps
  obtain ⟨n1,n2⟩:=nal _ _ _ _ hc
  have fin:∀(H1:Hp) (s':State) (z:Int),cF K CC CR TB H1 c r a q s' xs k zs→Vbreab.changed s t ps=(s',[z])→1≤sizeLine∧∀l,H1 l=none→Q (V.ref l) (upd H1 l (HO.lst [V.int z])):=fun H1 s' z D1 e=>⟨by decide,fun l hl=>by
   have nlq:l≠q:=fun e=>by rw [e,D1.told]at hl;cases hl
   rw [e]at g
   exact g _ l nlq aA (D1.same st (aK.new hl))⟩
  refine ⟨_,(ao (cC (bV xm (bF aZ (by rfl) T.cZ PySem.boot_len (aj (pv 2) ak)) (bN rfl T.zF) (bQ _)) (aB (aH (bL (aj (bN rfl T.vK) ak)))) bH) (ao (cC (bV Jc (aM iH (hr.mono (by decide)) rfl iI iJ iK .nil aO (aj (pv 2) (aj (bG (pv 0) rfl) ak))) eU (bQ _)) (aB (aH (bL (aj (bN rfl T.wN) ak)))) bH) (ao (ad3 (pv 2) (ad2 (bG (pv 0) rfl) (pv 1) set_list)) (aB (aH (bL (aj (bF aZ (by rfl) T.cZ PySem.boot_len (aj (pv 2) ak)) ak))))))),?_⟩
  open_ks with []
  refine ⟨_,.inl (b7.of hpl),?_⟩
  rw [List.length_map,la]
  refine qx (fun adT=>?_) (fun adT=>?_)
  ·exact fin H s (-3) D (by unfold Vbreab.changed;rw [if_pos (by unfold Vbreab.POINTS;omega)])
  ·open_ks with [gh,cV,HO.ins.injEq,RC.cl,RC.marks,eF]
   refine ⟨p,lm,ps,s.marks,rfl,hp,hc.marks,na,D.ok.marks.near,xn,?_⟩
   cases htt:Vbreab.touching s.marks ps with
   | some x=>
    intro H4 tu htu h4 s4
    open_ks with []
    exact fin H4 s (-5) (D.same st s4) (by unfold Vbreab.changed;rw [if_neg (by unfold Vbreab.POINTS;omega),htt];rfl)
   | none=>
    intro H4 s4
    have D4:=D.same st s4
    have hc4:=hc.same s4
    have Ma:=hc4.ins
    obtain ⟨h0,h1⟩:=qH ht
    have hlt:t.toNat<s.tracks.length:=(List.getElem?_eq_some_iff.1 h1).1
    have ll:gA.length=s.tracks.length:=bC hc.tracks
    have hix:ixN (gA.map V.ref).length t=some t.toNat:=by
     unfold ixN
     rw [if_pos h0,if_pos (by rw [List.length_map];omega)]
    open_ks with [afE,gh,Ma,HO.ins.injEq,RC.cl,RC.tracks,cD]
    refine ⟨lt,_,t,t.toNat,rfl,rfl,hc4.lst,hix,?_⟩
    have e1:Vbreab.changed s t ps=({ s with tracks:=s.tracks.set t.toNat ps },[(ps.length:Int)]):=by
     unfold Vbreab.changed
     rw [if_neg (by unfold Vbreab.POINTS;omega),htt,if_neg (by simp)]
    have ahM:(gA.map V.ref).set t.toNat (V.ref p)=(gA.set t.toNat p).map V.ref:=by rw [List.map_set]
    rw [ahM]
    have nlc:c≠lt:=ji Ma hc4.lst (by intro z;cases z)
    generalize hO:upd H4 lt (.lst ((gA.set t.toNat p).map V.ref))=H5 at *
    have oth:∀b o,H4 b=some o→b≠lt→H5 b=some o:=fun b o hb nb=>by rw [←hO,aJ nb];exact hb
    have pt:∀b z,cB H4 b z→cB H5 b z:=fun b z hb=>oth _ _ hb (ji hb hc4.lst (by intro z;cases z))
    have Zx:∀b zs',b≠lt→cu H4 b zs'→cu H5 b zs':=fun b zs' nb ⟨bs,g1,g2⟩=>⟨bs,oth _ _ g1 nb,bM g2 fun b _ z hb=>pt b z hb⟩
    have hp5:cu H5 p ps:=Zx p ps n2 (hp.same s4)
    have hch:gm CC q H5 c { s with tracks:=s.tracks.set t.toNat ps }:=by
     refine ⟨dc,lm,lt,gA.set t.toNat p,⟨oth _ _ Ma nlc,Zx _ _ hc4.ne hc4.marks,by rw [←hO,aA],?_,hc4.ne,?_,?_⟩,nq1,YJ,?_⟩
     ·refine WR (bM hc4.tracks fun b hb zs' hz=>Zx b zs' (by rintro rfl;exact hc4.nt hb) hz) hp5 t.toNat
     ·intro hm
      rcases List.mem_or_eq_of_mem_set hm with hm | hm
      ·exact hc4.nm hm
      ·exact n1 hm.symm
     ·intro hm
      rcases List.mem_or_eq_of_mem_set hm with hm | hm
      ·exact hc4.nt hm
      ·exact n2 hm.symm
     ·intro hm
      rcases List.mem_or_eq_of_mem_set hm with hm | hm
      ·exact nq3 hm
      ·exact npq hm.symm
    have fr:Fr c q H4 H5:=fun b o hb nb ho=>by
     refine oth b o hb ?_
     rintro rfl
     rcases ho with ho | rfl
     ·rw [hc4.lst]at hb
      exact ho _ (Option.some.inj hb).symm
     ·exact YJ rfl
    have D5:=D4.change st fr hch (Vm D4.ok ⟨na,h2,by omega,Hb htt⟩ t.toNat)
    obtain ⟨as5,ahN,pp5⟩:=id hp5
    open_ks with []
    refine ⟨_,.inl (b7.of ahN),?_⟩
    rw [List.length_map,bC pp5]
    exact fin H5 _ _ D5 e1
end
section
variable {P:Program} {w:World} {K:PySem.W.Frag} {mg:Str→Option Value} {base:Heap} {f:Addr} {fd:FuncData} {CC CR CN CT:Addr} {TB:Hp→Prop}
noncomputable abbrev uI:Stmt:=top 74
theorem sI:aW ["chart","reader","t","added"] ["chart","reader"] (aF uI):=⟨rfl,rfl,rfl,by decide +kernel,rfl,by decide +kernel,by decide +kernel⟩
theorem QG (s:State) (t:Int) (l:List Int):Vbreab.step s (.more t l)=match Vbreab.pointsOf l with
 | none=>(s,[-1])
 | some q=>Vbreab.onTrack s t fun p=>Vbreab.changed s t (p++q):=rfl
theorem Mm (st:za TB) (RC:ni K CC) (F:cI K "answer_more" "answer_more" uI f fd) (T:Txt mg) (aX:Met P w K mg base CR "number" 1 ["self"] (bJ K CR)) (ie:Met P w K mg base CR "row" 2 ["self"] (fC K CR)) (dF:ik P w K mg base "places_told" 2 ["numbers","least"] (jm K)) (aL:Met P w K mg base CC "has_track" 1 ["self","t"] (bR CC)) (oE:ik P w K mg base "lengthen" 4 ["chart","t","places"] (tM K CC CR TB)):cz P w K mg base fH 11 f fd ["chart","reader"] (f9 K CC CR TB Dh):=by
 obtain ⟨_,_,aP,aQ,aU,aV⟩:=aX;obtain ⟨_,_,jG,jH,jJ,jK⟩:=ie;obtain ⟨_,_,iB,iC,iD,iG⟩:=dF;obtain ⟨_,_,bf,bh,bj,bu⟩:=aL;obtain ⟨_,_,wA,wB,wC,wD⟩:=oE
 refine F.ok sI (fun vs H Q E h=>?_) (fun cdv A outer s H vs Q E hr h=>?_)
 ·obtain ⟨c,r,a,q,s,xs,k,zs,cl,n,rfl,_⟩:=h
  rfl
 ·obtain ⟨c,r,a,q,s,xs,k,zs,cl,n,rfl,D,hrd,g⟩:=h
  obtain ⟨t,m,tl,hdrop,hm0,hm1,hm2,rfl,rfl⟩:=Sq hrd
  obtain ⟨Vb,hr0⟩:=id D.reader
  refine ⟨_,(ao (aY (i:=2) sI.nd rfl (Or.inl rfl) (b8 (pv 1) aQ aU aP (hr.mono (by decide)) aV .nil aO)) (ao (aY (i:=3) sI.nd rfl (Or.inl rfl) (aM iB (hr.mono (by decide)) rfl iC iD iG .nil aO (aj (b8 (pv 1) jH jJ jG (hr.mono (by decide)) jK .nil aO) (aj aG ak)))) (ao (cC (bV tW (pv 3) eU (bQ _)) (aB (aH (bL (aj (bN rfl T.fB) ak)))) bH) (ao (cC (eV (cP (fU (pv 0) bh bj bf (hr.mono (by decide)) bu .nil aO (aj (pv 2) ak)))) (aB (aH (bL (aj (bN rfl T.di) ak)))) bH) (aB (aH (aM wA (hr.mono (by decide)) rfl wB wC wD .nil aO (aj (pv 0) (aj (pv 2) (aj (bU j5 (bA bB (bG (pv 0) rfl) (pv 2) (fun _ _=>rfl)) (pv 3)) ak)))))))))),?_⟩
  open_ks with [iY,hr0,HO.ins.injEq,bT]
  refine D.number st hdrop fun H1 D1 hd1 Xi=>?_
  obtain ⟨dx1,hr1⟩:=id D1.reader
  open_ks with [hr1,HO.ins.injEq,u5]
  refine D1.row st hd1 hm0 hm1 fun H2 pl hpl hl D2 hd2=>?_
  have hk:k+1+1+m.toNat=k+(2+m.toNat):=by omega
  generalize hL:tl.take m.toNat=L at *
  have lL:L.length≤60:=by rw [←hL,List.length_take];omega
  have em:=QG s t L
  refine ⟨pl,L,1,rfl,b7.of hl,lL,by decide,?_⟩
  cases V1:fJ 1 L with
  | none=>
   have e0:Vbreab.pointsOf L=none:=by
    rcases QC V1 with h | ⟨ps,h,h2⟩
    ·exact h
    ·exfalso
     have:ps.length=0:=by omega
     unfold Vbreab.pointsOf at h
     cases hp:Vbreab.pairs L with
     | none=>rw [hp]at h;cases h
     | some qs=>
      rw [hp,Option.bind_some]at h
      split at h
      ·rename_i hc
       cases h
       exact hc.2 this
      ·cases h
   rw [e0]at em
   intro H3 s3
   open_ks with []
   exact ⟨by decide,bW st (D2.same st s3) em hk g⟩
  | some ps=>
   obtain ⟨hpo,h2,hne,hle⟩:=Gg V1 (by decide) lL
   rw [hpo]at em
   dsimp only at em
   intro H3 pr hpr hps s3
   have D3:=D2.same st s3
   obtain ⟨dc,lm,lt,gA,hc,nq⟩:=id D3.chart
   have cV:=hc.ins
   open_ks with [cV,HO.ins.injEq,dq]
   refine ⟨c,q,t,s,rfl,D3.chart,?_⟩
   rw [fP]
   cases ht:Vbreab.trackAt s t with
   | none=>
    rw [cH ht]at em
    open_ks with [Option.isSome_none]
    exact ⟨by decide,bW st D3 em hk g⟩
   | some tr=>
    rw [cG ht]at em
    obtain ⟨ap,ia,hap,_⟩:=hc.track ht
    have tok:=D3.ok.tracks tr (du ht)
    obtain ⟨as,rZ,Hc⟩:=id hap
    obtain ⟨bs,Xk,pbs⟩:=id hps
    have la:as.length=tr.length:=bC Hc
    have lb:bs.length=ps.length:=bC pbs
    have mo:=tok.most
    have tw:=tok.two
    open_ks with [Option.isSome_some,gh,cV,HO.ins.injEq,RC.cl,RC.tracks,cD,gj]
    refine ⟨_,b7.of hc.lst,_,ia,?_⟩
    refine ⟨ap,pr,_,_,rfl,rfl,rZ,Xk,?_,fun l2 hl2=>?_⟩
    ·rw [List.length_map,List.length_map];exact Nat.le_trans (show as.length+bs.length≤1000 by omega) (by decide)
    have s4:=aK.new (o:=.lst (as.map V.ref++bs.map V.ref)) hl2
    have D4:=D3.same st s4
    obtain ⟨YJ,Lw⟩:=lC D3 hl2 s4
    refine ⟨c,r,a,q,s,xs,_,zs,t,l2,tr++ps,tr,rfl,D4,ht,⟨as++bs,by rw [aA,List.map_append],rm (bM Hc fun b _ p hp=>hp.same s4) (bM pbs fun b _ p hp=>hp.same s4)⟩,YJ,Lw,?_,?_,?_,fun H5 p5 n5 h5 D5=>?_⟩
    ·intro p hp
     rcases List.mem_append.1 hp with hp | hp
     ·exact tok.near p hp
     ·exact hne p hp
    ·rw [List.length_append];omega
    ·rw [List.length_append];omega
    ·rw [←em]at h5 D5
     rw [hk]at D5
     exact g H5 p5 n5 h5 D5
noncomputable abbrev wF:Stmt:=top 75
theorem iV:aW ["chart","reader","t","i","x","y","places"] ["chart","reader"] (aF wF):=⟨rfl,rfl,rfl,by decide +kernel,rfl,by decide +kernel,by decide +kernel⟩
theorem Vy (s:State) (t i x y:Int):Vbreab.step s (.put t i x y)=if Vbreab.placeOk ⟨x,y⟩=false then (s,[-1])
  else Vbreab.onTrack s t fun p=>if Vbreab.within i 0 ((p.length:Int)-2)=false then (s,[-1]) else Vbreab.changed s t (p.take (i.toNat+1)++⟨x,y⟩::p.drop (i.toNat+1)):=rfl
theorem Ox (st:za TB) (RC:ni K CC) (F:cI K "answer_put" "answer_put" wF f fd) (T:Txt mg) (aX:Met P w K mg base CR "number" 1 ["self"] (bJ K CR)) (gY:ik P w K mg base "in_range" 1 ["x","y"] jk) (aL:Met P w K mg base CC "has_track" 1 ["self","t"] (bR CC)) (oE:ik P w K mg base "lengthen" 4 ["chart","t","places"] (tM K CC CR TB)):cz P w K mg base fH 11 f fd ["chart","reader"] (f9 K CC CR TB Lk):=by
 obtain ⟨_,_,aP,aQ,aU,aV⟩:=aX;obtain ⟨_,_,lW,lX,lY,mj⟩:=gY;obtain ⟨_,_,bf,bh,bj,bu⟩:=aL;obtain ⟨_,_,wA,wB,wC,wD⟩:=oE
 refine F.ok iV (fun vs H Q E h=>?_) (fun cdv A outer s H vs Q E hr h=>?_)
 ·obtain ⟨c,r,a,q,s,xs,k,zs,cl,n,rfl,_⟩:=h
  rfl
 ·obtain ⟨c,r,a,q,s,xs,k,zs,cl,n,rfl,D,hrd,g⟩:=h
  obtain ⟨t,i,x,y,rest,hdrop,rfl,rfl⟩:=aeG hrd
  obtain ⟨Vb,hr0⟩:=id D.reader
  have em:=Vy s t i x y
  refine ⟨_,(ao (aY (i:=2) iV.nd rfl (Or.inl rfl) (b8 (pv 1) aQ aU aP (hr.mono (by decide)) aV .nil aO)) (ao (aY (i:=3) iV.nd rfl (Or.inl rfl) (b8 (pv 1) aQ aU aP (hr.mono (by decide)) aV .nil aO)) (ao (aY (i:=4) iV.nd rfl (Or.inl rfl) (b8 (pv 1) aQ aU aP (hr.mono (by decide)) aV .nil aO)) (ao (aY (i:=5) iV.nd rfl (Or.inl rfl) (b8 (pv 1) aQ aU aP (hr.mono (by decide)) aV .nil aO)) (ao (cC (eV (cP (aM lW (hr.mono (by decide)) rfl lX lY mj .nil aO (aj (pv 4) (aj (pv 5) ak))))) (aB (aH (bL (aj (bN rfl T.fB) ak)))) bH) (ao (cC (eV (cP (fU (pv 0) bh bj bf (hr.mono (by decide)) bu .nil aO (aj (pv 2) ak)))) (aB (aH (bL (aj (bN rfl T.di) ak)))) bH) (ao (aY (i:=6) iV.nd rfl (Or.inl rfl) (bA bB (bG (pv 0) rfl) (pv 2) (fun _ _=>rfl))) (ao (cC (PW.pt (Qg (bV qU (pv 3) aG (bQ _)) (El (bV xm (pv 3) (bU dh (bF aZ (by rfl) T.cZ PySem.boot_len (aj (pv 6) ak)) aG) (bQ _))))) (aB (aH (bL (aj (bN rfl T.fB) ak)))) bH) (aB (aH (aM wA (hr.mono (by decide)) rfl wB wC wD .nil aO (aj (pv 0) (aj (pv 2) (aj (bU j5 (bU j5 (qW vG (pv 6) Ci (qt (bU d8 (pv 3) aG))) (bL (aj (tX (aj (pv 4) (aj (pv 5) ak))) ak))) (qW vG (pv 6) (qt (bU d8 (pv 3) aG)) Ci)) ak)))))))))))))),?_⟩
  open_ks with [iY,hr0,HO.ins.injEq,bT]
  refine D.number st hdrop fun H1 D1 hd1 Xi=>?_
  obtain ⟨dx1,hr1⟩:=id D1.reader
  open_ks with [hr1,HO.ins.injEq,bT]
  refine D1.number st hd1 fun H2 D2 hd2 kp2=>?_
  obtain ⟨dx2,hr2⟩:=id D2.reader
  open_ks with [hr2,HO.ins.injEq,bT]
  refine D2.number st hd2 fun H3 D3 hd3 kp3=>?_
  obtain ⟨dx3,hr3⟩:=id D3.reader
  open_ks with [hr3,HO.ins.injEq,bT]
  refine D3.number st hd3 fun H4 D4 hd4 kp4=>?_
  obtain ⟨dc,lm,lt,gA,hc,nq⟩:=id D4.chart
  have cV:=hc.ins
  have hio:=Ac ⟨x,y⟩
  dsimp only at hio
  open_ks with [jk,hio]
  cases hok:Vbreab.placeOk ⟨x,y⟩ with
  | false=>
   rw [if_pos hok]at em
   open_ks with []
   exact ⟨by decide,bW st D4 em rfl g⟩
  | true=>
   rw [if_neg (by rw [hok];simp)]at em
   open_ks with [cV,HO.ins.injEq,dq]
   refine ⟨c,q,t,s,rfl,D4.chart,?_⟩
   rw [fP]
   cases ht:Vbreab.trackAt s t with
   | none=>
    rw [cH ht]at em
    open_ks with [Option.isSome_none]
    exact ⟨by decide,bW st D4 em rfl g⟩
   | some tr=>
    rw [cG ht]at em
    obtain ⟨ap,ia,hap,_⟩:=hc.track ht
    have tok:=D4.ok.tracks tr (du ht)
    obtain ⟨as,rZ,Hc⟩:=id hap
    have la:as.length=tr.length:=bC Hc
    have mo:=tok.most
    have tw:=tok.two
    have bad:¬(0≤i∧i≤(tr.length:Int)-2)→1≤sizeLine∧∀p,H4 p=none→Q (V.ref p) (upd H4 p (HO.lst [V.int (-1)])):=fun hb=>by
     rw [if_pos (by unfold Vbreab.within;exact decide_eq_false hb)]at em
     exact ⟨by decide,bW st D4 em rfl g⟩
    open_ks with [Option.isSome_some,gh,cV,HO.ins.injEq,RC.cl,RC.tracks,cD,gj]
    refine ⟨_,b7.of hc.lst,_,ia,?_⟩
    refine qx (fun h1=>bad (by omega)) (fun h1=>?_)
    refine ⟨ap,rfl,_,.inl (b7.of rZ),?_⟩
    rw [List.length_map,la]
    refine qx (fun h2=>bad (by omega)) (fun h2=>?_)
    rw [if_neg (by unfold Vbreab.within;simp;omega)]at em
    obtain ⟨i',rfl⟩:∃i':Nat,i=(i':Int):=⟨i.toNat,by omega⟩
    simp only [Int.toNat_natCast]at em
    have e1:((i':Nat):Int)+1=((i'+1:Nat):Int):=by omega
    have small:∀z:Nat,z≤2000→z≤sizeLine:=fun z hz=>Nat.le_trans hz (by decide)
    open_ks with [tSl,Qn,Cg,Zk]
    refine ⟨_,b7.of rZ,fun l1 hl1=>⟨by decide,fun t1 ht1=>⟨by decide,fun l2 hl2=>?_⟩⟩⟩
    rw [e1]at ht1 hl2 ⊢
    rw [Vc _ (show i'+1≤(as.map V.ref).length by rw [List.length_map];omega)]at ht1 hl2 ⊢
    have s5:=aK.new (o:=.lst ((as.map V.ref).take (i'+1))) hl1
    have h1l:(upd H4 l1 (.lst ((as.map V.ref).take (i'+1)))) l1=some (.lst ((as.map V.ref).take (i'+1))):=aA
    generalize upd H4 l1 (.lst ((as.map V.ref).take (i'+1)))=H5 at *
    have s6:=aK.new (o:=.tup [.int x,.int y]) ht1
    have hpt:cB (upd H5 t1 (.tup [.int x,.int y])) t1 ⟨x,y⟩:=aA
    generalize upd H5 t1 (.tup [.int x,.int y])=H6 at *
    have s7:=aK.new (o:=.lst [V.ref t1]) hl2
    have h2l:(upd H6 l2 (.lst [V.ref t1])) l2=some (.lst [V.ref t1]):=aA
    generalize upd H6 l2 (.lst [V.ref t1])=H7 at *
    refine ⟨l1,l2,_,_,rfl,rfl,s7 _ _ (s6 _ _ h1l),h2l,small _ (by simp;omega),fun l3 hl3=>?_⟩
    have s8:=aK.new (o:=.lst ((as.map V.ref).take (i'+1)++[V.ref t1])) hl3
    have h3l:(upd H7 l3 (.lst ((as.map V.ref).take (i'+1)++[V.ref t1]))) l3=some (.lst ((as.map V.ref).take (i'+1)++[V.ref t1])):=aA
    generalize upd H7 l3 (.lst ((as.map V.ref).take (i'+1)++[V.ref t1]))=H8 at *
    have s48:=((s5.trans s6).trans s7).trans s8
    refine ⟨_,b7.of (s48 _ _ rZ),fun l4 hl4=>?_⟩
    rw [K4 _ (show i'+1≤(as.map V.ref).length by rw [List.length_map];omega)]
    have s9:=aK.new (o:=.lst ((as.map V.ref).drop (i'+1))) hl4
    have h4l:(upd H8 l4 (.lst ((as.map V.ref).drop (i'+1)))) l4=some (.lst ((as.map V.ref).drop (i'+1))):=aA
    generalize upd H8 l4 (.lst ((as.map V.ref).drop (i'+1)))=H9 at *
    refine ⟨l3,l4,_,_,rfl,rfl,s9 _ _ h3l,h4l,small _ (by simp;omega),fun l5 hl5=>?_⟩
    have s10:=aK.new (o:=.lst ((as.map V.ref).take (i'+1)++[V.ref t1]++(as.map V.ref).drop (i'+1))) hl5
    have s49:=s48.trans s9
    have ac1:=s49.trans s10
    have D10:=D4.same st ac1
    obtain ⟨YJ,Lw⟩:=lC D4 (s49.free hl5) ac1
    refine ⟨c,r,a,q,s,xs,_,zs,t,l5,tr.take (i'+1)++⟨x,y⟩::tr.drop (i'+1),tr,rfl,D10,ht,⟨as.take (i'+1)++t1::as.drop (i'+1),by rw [aA];simp,?_⟩,YJ,Lw,?_,?_,?_,fun H5 p5 n5 h5 D5=>?_⟩
    ·exact rm (bM (yf Hc (i'+1)) fun b _ p hp=>hp.same ac1) (.cons ((hpt.same ((s7.trans s8).trans s9)).same s10) (bM (tH Hc (i'+1)) fun b _ p hp=>hp.same ac1))
    ·intro p hp
     simp only [List.mem_append,List.mem_cons]at hp
     rcases hp with hp | rfl | hp
     ·exact tok.near p (List.mem_of_mem_take hp)
     ·exact Ad hok
     ·exact tok.near p (List.mem_of_mem_drop hp)
    ·simp;omega
    ·simp;omega
    ·rw [←em]at h5 D5
     exact g H5 p5 n5 h5 D5
end
structure KT (H H':Hp):Prop where
 kp:∀b o,H b=some o→(∀ps,o≠.Ja ps)→H' b=some o
 free:∀b,H' b=none→H b=none
theorem KT.of_same {H H':Hp} (s:aK H H'):KT H H':=⟨fun b o h _=>s b o h,fun b h=>s.free h⟩
theorem KT.trans {H H1 H2:Hp} (a:KT H H1) (b:KT H1 H2):KT H H2:=⟨fun c o h n=>b.kp c o (a.kp c o h n) n,fun c h=>a.free c (b.free c h)⟩
theorem cB.kt {H H':Hp} {a:Addr} {p:Pt} (h:cB H a p) (s:KT H H'):cB H' a p:=s.kp _ _ h (by intro _ z;cases z)
theorem cu.kt {H H':Hp} {l:Addr} {ps:List Pt} (h:cu H l ps) (s:KT H H'):cu H' l ps:=by
 obtain ⟨as,h1,h2⟩:=h
 exact ⟨as,s.kp _ _ h1 (by intro _ z;cases z),bM h2 fun a _ b hb=>hb.kt s⟩
theorem eZ.kt {C c dx lm lt:Addr} {gA:List Addr} {H H':Hp} {s:State} (h:eZ C H c s dx lm lt gA) (e:KT H H'):eZ C H' c s dx lm lt gA:=
 ⟨e.kp _ _ h.ins (by intro _ z;cases z),h.marks.kt e,e.kp _ _ h.lst (by intro _ z;cases z),bM h.tracks fun a _ b hb=>hb.kt e,h.ne,h.nm,h.nt⟩
theorem cF.kt {K:PySem.W.Frag} {CC CR:Addr} {TB:Hp→Prop} {H H':Hp} {c r a q:Addr} {s:State} {xs:List Int} {k:Nat} {zs:List V} (D:cF K CC CR TB H c r a q s xs k zs) (e:KT H H') (tb:TB H'):cF K CC CR TB H' c r a q s xs k zs:=by
 obtain ⟨o,h1⟩:=D.calls
 obtain ⟨dx,h2⟩:=D.reader
 obtain ⟨dc,lm,lt,gA,hc,n⟩:=D.chart
 exact ⟨⟨dc,lm,lt,gA,hc.kt e,n⟩,⟨dx,e.kp _ _ h2 (by intro _ z;cases z)⟩,⟨o,e.kp _ _ h1 (by intro _ z;cases z)⟩,D.ok,e.kp _ _ D.told (by intro _ z;cases z),tb⟩
inductive Sv (TB:Hp→Prop) (vs:List V) (H:Hp) (Q:VK) (E:XK):Prop where
 | mk (am:Addr) (ms:List Pt) (_:vs=[.ref am]) (_:cu H am ms) (_:az.bK ms) (_:ms.length≤16) (_:TB H) (_:∀H' p R,H p=none→H' p=some (.lst (lB R))→az.tQ ms R→KT H H'→TB H'→Q (.ref p) H'):Sv TB vs H Q E
theorem QH {ms:List Pt} (jM:az.bK ms) (a b:Pt):(Vbreab.crossings ms a b).length≤ms.length:=by
 obtain ⟨R,hR⟩:=az.JP jM
 have lR:R.length=ms.length:=by rw [hR.perm.length_eq,List.length_range]
 rw [az.qQ jM hR]
 split
 ·rw [List.length_map];exact Nat.le_trans (List.length_filter_le _ _) (by omega)
 ·rw [List.length_map];exact Nat.le_trans (List.length_filter_le _ _) (by rw [List.length_reverse];omega)
theorem Mp {ms:List Pt} (jM:az.bK ms) (j4:ms.length≤16):∀l:List (Pt×Pt),(l.flatMap fun s=>Vbreab.crossings ms s.1 s.2).length≤16*l.length
 | []=>by simp
 | x::l=>by
  rw [List.flatMap_cons,List.length_append,List.length_cons]
  have:=QH jM x.1 x.2
  have:=Mp jM j4 l
  omega
theorem Jk:∀ps:List Pt,(Vbreab.segments ps).length=ps.length-1
 | []=>rfl
 | [_]=>rfl
 | p::q::r=>by simp only [Vbreab.segments,List.length_cons,Jk (q::r)];simp
theorem u9 {ms tr:List Pt} (jM:az.bK ms) (j4:ms.length≤16) (adT:tr.length≤200):(Vbreab.wordOf ms tr).length≤3200:=by
 unfold Vbreab.wordOf
 have:=Mp jM j4 (Vbreab.segments tr)
 rw [Jk]at this
 omega
section
variable {P:Program} {w:World} {K:PySem.W.Frag} {mg:Str→Option Value} {base:Heap} {f:Addr} {fd:FuncData} {CC CR CN CT:Addr} {TB:Hp→Prop}
noncomputable abbrev Gh:Stmt:=top 28
theorem wG:aW ["places","marks","rays","letters","k"] ["places","marks"] (aF Gh):=⟨rfl,rfl,rfl,by decide +kernel,rfl,by decide +kernel,by decide +kernel⟩
inductive wH (TB:Hp→Prop) (vs:List V) (H:Hp) (Q:VK) (E:XK):Prop where
 | mk (ap am:Addr) (tr ms:List Pt) (_:vs=[.ref ap,.ref am]) (_:cu H ap tr) (_:cu H am ms) (_:az.bK ms) (_:ms.length≤16) (_:gC ms tr) (_:TB H) (_:∀H' p,H p=none→H' p=some (.lst ((Vbreab.wordOf ms tr).map V.int))→KT H H'→TB H'→Q (.ref p) H'):wH TB vs H Q E
theorem Xl (st:za TB) (F:cI K "word_of" "word_of" Gh f fd) (T:Txt mg) (oF:ik P w K mg base "rays_from_west" 8 ["marks"] (Sv TB)) (qi:ik P w K mg base "piece_letters" 3 ["a","b","marks","rays"] nW):cz P w K mg base fH 9 f fd ["places","marks"] (wH TB):=by
 obtain ⟨_,_,Bk,Bl,Bm,Bo⟩:=oF;obtain ⟨_,_,Dy,Dz,DG,DK⟩:=qi
 refine F.ok wG (fun vs H Q E h=>?_) (fun cdv A outer s H vs Q E hr h=>?_)
 ·obtain ⟨ap,am,tr,ms,rfl,_⟩:=h
  rfl
 ·obtain ⟨ap,am,tr,ms,rfl,ha,hm,jM,j4,tok,tb,k⟩:=h
  refine ⟨_,(ao (aY (i:=2) wG.nd rfl (Or.inl rfl) (aM Bk (hr.mono (by decide)) rfl Bl Bm Bo .nil aO (aj (pv 1) ak))) (ao (aY (i:=3) wG.nd rfl (Or.inl rfl) (bL ak)) (ao (vC PassesOwn.never rfl (yQ rfl T.vI (aj (bU dh (bF aZ (by rfl) T.cZ PySem.boot_len (aj (pv 0) ak)) aG) ak)) (cA (i:=4) wG.nd rfl (Or.inl rfl)) (aB (gU (uR PySem.F.plainAttrs_list PySem.F.slot_list_extend PySem.F.type_list_extend Es (pv 3) (aj (aM Dy (hr.mono (by decide)) rfl Dz DG DK .nil aO (aj (bA bB (pv 0) (pv 4) (fun _ _=>rfl)) (aj (bA bB (pv 0) (bU d8 (pv 4) aG) (fun _ _=>rfl)) (aj (pv 1) (aj (pv 2) ak))))) ak))))) (aB (aH (pv 3)))))),?_⟩
  open_ks with []
  refine ⟨am,ms,rfl,hm,jM,j4,tb,fun H1 pr R hpr hr1 hR k1 tb1=>?_⟩
  open_ks with []
  intro p hp
  obtain ⟨as,rZ,Hc⟩:=ha.kt k1
  have hm1:=hm.kt k1
  have la:as.length=tr.length:=bC Hc
  have mo:=tok.most
  have s0:=aK.new (o:=.lst []) hp
  refine ⟨_,.inl (b7.of (s0 _ _ rZ)),?_⟩
  rw [List.length_map,la]
  refine ⟨by omega,by omega,?_⟩
  rw [show ((tr.length:Int)-1).toNat=tr.length-1 by omega]
  have wl:=u9 jM j4 mo
  have ptk:∀i,((Vbreab.segments tr).take i).length≤199:=fun i=>by rw [List.length_take,Jk];omega
  refine Loop.range (fun i σ H'=>∃v4,σ=[some (.ref ap),some (.ref am),some (.ref pr),some (.ref p),v4]∧H' p=some (.lst ((((Vbreab.segments tr).take i).flatMap fun s=>Vbreab.crossings ms s.1 s.2).map V.int))∧aK H1 H') ⟨none,rfl,by rw [aA];rfl,s0⟩ ?_ ?_
  ·rintro i σ H' hi ⟨v4,rfl,hp',sm⟩
   obtain ⟨x,hx⟩:∃x,tr[i]?=some x:=⟨_,List.getElem?_eq_getElem (by omega)⟩
   obtain ⟨y,hy⟩:∃y,tr[i+1]?=some y:=⟨_,List.getElem?_eq_getElem (by omega)⟩
   have ahQ:(Vbreab.segments tr)[i]?=some (x,y):=by rw [seg_at,hx,hy]
   obtain ⟨ax,hax,px⟩:=bc Hc hx
   obtain ⟨ay,hay,py⟩:=bc Hc hy
   have i1:oO (as.map V.ref) (0+(i:Int))=some (.ref ax):=at_of (j:=i) (by omega) (by rw [List.getElem?_map,hax];rfl)
   have i2:oO (as.map V.ref) (0+(i:Int)+1)=some (.ref ay):=at_of (j:=i+1) (by omega) (by rw [List.getElem?_map,hay];rfl)
   have ty:=Yw (K:=K) hp'
   open_ks with [tBM,Jd,ty,gj]
   refine ⟨_,b7.of (sm _ _ rZ),_,i1,_,b7.of (sm _ _ rZ),_,i2,?_⟩
   refine ⟨ax,ay,am,pr,x,y,ms,R,rfl,px.same sm,py.same sm,tok.near x (List.mem_of_getElem? hx),tok.near y (List.mem_of_getElem? hy),hm1.same sm,jM,j4,sm _ _ hr1,hR,fun H2 l hl h2 s2=>?_⟩
   have hp2:=s2 _ _ hp'
   have npl:p≠l:=bw hp' hl
   have f1:=Mp jM j4 ((Vbreab.segments tr).take i)
   have f2:=ptk i
   have f3:=QH jM x y
   refine ⟨l,rfl,_,hp2,_,h2,?_,?_⟩
   ·rw [List.length_map,List.length_map]
    exact Nat.le_trans (show _≤10000 by omega) (by decide)
   ·refine ⟨?_,?_⟩
    ·rw [aA,take_snoc ahQ,List.flatMap_append,List.map_append];simp
    ·intro b o hb
     rw [aJ (bw hb hp)];exact s2 _ _ (sm _ _ hb)
  ·rintro σ H' ⟨v4,rfl,hp',sm⟩
   rw [List.take_of_length_le (by rw [Jk];omega)]at hp'
   open_ks with []
   have hpn:H p=none:=k1.free p hp
   exact k H' p hpn hp' (k1.trans (KT.of_same sm)) (st _ _ tb1 fun b o hb _ _=>sm b o hb)
noncomputable abbrev mR:Stmt:=top 79
theorem Bp:aW ["chart","t"] ["chart","t"] (aF mR):=⟨rfl,rfl,rfl,by decide +kernel,rfl,by decide +kernel,by decide +kernel⟩
inductive ig (CC:Addr) (TB:Hp→Prop) (vs:List V) (H:Hp) (Q:VK) (E:XK):Prop where
 | mk (c q:Addr) (t:Int) (s:State) (tr:List Pt) (_:vs=[.ref c,.int t]) (_:gm CC q H c s) (_:jZ s) (_:Vbreab.trackAt s t=some tr) (_:TB H) (_:∀H' p,H p=none→H' p=some (.lst ((Vbreab.reducedOf s.marks tr).map V.int))→KT H H'→TB H'→Q (.ref p) H'):ig CC TB vs H Q E
theorem Bq (st:za TB) (RC:ni K CC) (F:cI K "reduced_letters" "reduced_letters" mR f fd) (T:Txt mg) (qM:ik P w K mg base "word_of" 9 ["places","marks"] (wH TB)) (sJ:ik P w K mg base "reduced_word" 1 ["letters"] pP):cz P w K mg base fH 10 f fd ["chart","t"] (ig CC TB):=by
 obtain ⟨_,_,yE,yF,yG,yH⟩:=qM;obtain ⟨_,_,Gi,Gj,Gk,Gm⟩:=sJ
 refine F.ok Bp (fun vs H Q E h=>?_) (fun cdv A outer s H vs Q E hr h=>?_)
 ·obtain ⟨c,q,t,s,tr,rfl,_⟩:=h
  rfl
 ·obtain ⟨c,q,t,s,tr,rfl,⟨dc,lm,lt,gA,hc,nq⟩,ok,ht,tb,k⟩:=h
  have cV:=hc.ins
  obtain ⟨ap,ia,hap,_⟩:=hc.track ht
  have tok:=ok.tracks tr (du ht)
  refine ⟨_,(aB (aH (aM Gi (hr.mono (by decide)) rfl Gj Gk Gm .nil aO (aj (aM yE (hr.mono (by decide)) rfl yF yG yH .nil aO (aj (bA bB (bG (pv 0) rfl) (pv 1) (fun _ _=>rfl)) (aj (bG (pv 0) rfl) ak))) ak)))),?_⟩
  open_ks with [gh,cV,HO.ins.injEq,RC.cl,RC.tracks,RC.marks,cD,eF,gj]
  refine ⟨_,b7.of hc.lst,_,ia,?_⟩
  refine ⟨ap,lm,tr,s.marks,rfl,hap,hc.marks,ok.marks,ok.few,tok,tb,fun H1 p hp h1 k1 tb1=>?_⟩
  refine ⟨p,_,rfl,h1,Nat.le_trans (u9 ok.marks ok.few tok.most) (by decide),fun H2 p2 hp2 h2 s2=>?_⟩
  exact k H2 p2 (k1.free p2 hp2) h2 (k1.trans (KT.of_same s2)) (st _ _ tb1 fun b o hb _ _=>s2 b o hb)
noncomputable abbrev uJ:Stmt:=top 78
theorem sO:aW ["chart","reader","t","letters"] ["chart","reader"] (aF uJ):=⟨rfl,rfl,rfl,by decide +kernel,rfl,by decide +kernel,by decide +kernel⟩
theorem Mq (st:za TB) (RC:ni K CC) (F:cI K "answer_word" "answer_word" uJ f fd) (T:Txt mg) (aX:Met P w K mg base CR "number" 1 ["self"] (bJ K CR)) (aL:Met P w K mg base CC "has_track" 1 ["self","t"] (bR CC)) (qM:ik P w K mg base "word_of" 9 ["places","marks"] (wH TB)):cz P w K mg base fH 11 f fd ["chart","reader"] (f9 K CC CR TB Di):=by
 obtain ⟨_,_,aP,aQ,aU,aV⟩:=aX;obtain ⟨_,_,bf,bh,bj,bu⟩:=aL;obtain ⟨_,_,yE,yF,yG,yH⟩:=qM
 refine F.ok sO (fun vs H Q E h=>?_) (fun cdv A outer s H vs Q E hr h=>?_)
 ·obtain ⟨c,r,a,q,s,xs,k,zs,cl,n,rfl,_⟩:=h
  rfl
 ·obtain ⟨c,r,a,q,s,xs,k,zs,cl,n,rfl,D,hrd,g⟩:=h
  obtain ⟨t,rest,hdrop,rfl,rfl⟩:=Ln hrd
  obtain ⟨Vb,hr0⟩:=id D.reader
  refine ⟨_,(ao (aY (i:=2) sO.nd rfl (Or.inl rfl) (b8 (pv 1) aQ aU aP (hr.mono (by decide)) aV .nil aO)) (ao (cC (eV (cP (fU (pv 0) bh bj bf (hr.mono (by decide)) bu .nil aO (aj (pv 2) ak)))) (aB (aH (bL (aj (bN rfl T.di) ak)))) bH) (ao (aY (i:=3) sO.nd rfl (Or.inl rfl) (aM yE (hr.mono (by decide)) rfl yF yG yH .nil aO (aj (bA bB (bG (pv 0) rfl) (pv 2) (fun _ _=>rfl)) (aj (bG (pv 0) rfl) ak)))) (aB (aH (bU j5 (bL (aj (bF aZ (by rfl) T.cZ PySem.boot_len (aj (pv 3) ak)) ak)) (pv 3))))))),?_⟩
  open_ks with [iY,hr0,HO.ins.injEq,bT]
  refine D.number st hdrop fun H1 D1 hd1 Xi=>?_
  obtain ⟨dc,lm,lt,gA,hc,nq⟩:=id D1.chart
  have cV:=hc.ins
  open_ks with [cV,HO.ins.injEq,dq]
  refine ⟨c,q,t,s,rfl,D1.chart,?_⟩
  rw [fP]
  cases ht:Vbreab.trackAt s t with
  | none=>
   have e0:Vbreab.step s (.word t)=(s,[-2]):=cH ht
   open_ks with [Option.isSome_none]
   exact ⟨by decide,bW st D1 e0 rfl g⟩
  | some tr=>
   have e1:Vbreab.step s (.word t)=(s,Vbreab.counted (Vbreab.wordOf s.marks tr)):=cG ht
   obtain ⟨ap,ia,hap,_⟩:=hc.track ht
   have tok:=D1.ok.tracks tr (du ht)
   have wl:=u9 D1.ok.marks D1.ok.few tok.most
   open_ks with [Option.isSome_some,gh,cV,HO.ins.injEq,RC.cl,RC.tracks,RC.marks,cD,eF,gj]
   refine ⟨_,b7.of hc.lst,_,ia,?_⟩
   refine ⟨ap,lm,tr,s.marks,rfl,hap,hc.marks,D1.ok.marks,D1.ok.few,tok,D1.tab,fun H2 p hp h2 k2 tb2=>?_⟩
   have D2:=D1.kt k2 tb2
   refine ⟨p,rfl,_,.inl (b7.of h2),by decide,fun l1 hl1=>?_⟩
   rw [List.length_map]
   have s3:=aK.new (o:=.lst [V.int ((Vbreab.wordOf s.marks tr).length:Nat)]) hl1
   refine ⟨l1,p,_,_,rfl,rfl,aA,s3 _ _ h2,?_,fun l2 hl2=>?_⟩
   ·rw [List.length_map];exact Nat.le_trans (show 1+(Vbreab.wordOf s.marks tr).length≤10000 by omega) (by decide)
   ·exact bW st (D2.same st s3) e1 rfl g l2 hl2
noncomputable abbrev oG:Stmt:=top 80
theorem mU:aW ["chart","reader","t","letters"] ["chart","reader"] (aF oG):=⟨rfl,rfl,rfl,by decide +kernel,rfl,by decide +kernel,by decide +kernel⟩
theorem DN (st:za TB) (RC:ni K CC) (F:cI K "answer_reduced" "answer_reduced" oG f fd) (T:Txt mg) (aX:Met P w K mg base CR "number" 1 ["self"] (bJ K CR)) (aL:Met P w K mg base CC "has_track" 1 ["self","t"] (bR CC)) (dZ:ik P w K mg base "reduced_letters" 10 ["chart","t"] (ig CC TB)):cz P w K mg base fH 11 f fd ["chart","reader"] (f9 K CC CR TB rP):=by
 obtain ⟨_,_,aP,aQ,aU,aV⟩:=aX;obtain ⟨_,_,bf,bh,bj,bu⟩:=aL;obtain ⟨_,_,gD,gF,gG,gH⟩:=dZ
 refine F.ok mU (fun vs H Q E h=>?_) (fun cdv A outer s H vs Q E hr h=>?_)
 ·obtain ⟨c,r,a,q,s,xs,k,zs,cl,n,rfl,_⟩:=h
  rfl
 ·obtain ⟨c,r,a,q,s,xs,k,zs,cl,n,rfl,D,hrd,g⟩:=h
  obtain ⟨t,rest,hdrop,rfl,rfl⟩:=Ln hrd
  obtain ⟨Vb,hr0⟩:=id D.reader
  refine ⟨_,(ao (aY (i:=2) mU.nd rfl (Or.inl rfl) (b8 (pv 1) aQ aU aP (hr.mono (by decide)) aV .nil aO)) (ao (cC (eV (cP (fU (pv 0) bh bj bf (hr.mono (by decide)) bu .nil aO (aj (pv 2) ak)))) (aB (aH (bL (aj (bN rfl T.di) ak)))) bH) (ao (aY (i:=3) mU.nd rfl (Or.inl rfl) (aM gD (hr.mono (by decide)) rfl gF gG gH .nil aO (aj (pv 0) (aj (pv 2) ak)))) (aB (aH (bU j5 (bL (aj (bF aZ (by rfl) T.cZ PySem.boot_len (aj (pv 3) ak)) ak)) (pv 3))))))),?_⟩
  open_ks with [iY,hr0,HO.ins.injEq,bT]
  refine D.number st hdrop fun H1 D1 hd1 Xi=>?_
  obtain ⟨dc,lm,lt,gA,hc,nq⟩:=id D1.chart
  have cV:=hc.ins
  open_ks with [cV,HO.ins.injEq,dq]
  refine ⟨c,q,t,s,rfl,D1.chart,?_⟩
  rw [fP]
  cases ht:Vbreab.trackAt s t with
  | none=>
   have e0:Vbreab.step s (.reduced t)=(s,[-2]):=cH ht
   open_ks with [Option.isSome_none]
   exact ⟨by decide,bW st D1 e0 rfl g⟩
  | some tr=>
   have e1:Vbreab.step s (.reduced t)=(s,Vbreab.counted (Vbreab.reducedOf s.marks tr)):=cG ht
   have tok:=D1.ok.tracks tr (du ht)
   have wl:(Vbreab.reducedOf s.marks tr).length≤3200:=Nat.le_trans (vZ _) (u9 D1.ok.marks D1.ok.few tok.most)
   open_ks with [Option.isSome_some]
   refine ⟨c,q,t,s,tr,rfl,D1.chart,D1.ok,ht,D1.tab,fun H2 p hp h2 k2 tb2=>?_⟩
   have D2:=D1.kt k2 tb2
   refine ⟨p,rfl,_,.inl (b7.of h2),by decide,fun l1 hl1=>?_⟩
   rw [List.length_map]
   have s3:=aK.new (o:=.lst [V.int ((Vbreab.reducedOf s.marks tr).length:Nat)]) hl1
   refine ⟨l1,p,_,_,rfl,rfl,aA,s3 _ _ h2,?_,fun l2 hl2=>?_⟩
   ·rw [List.length_map];exact Nat.le_trans (show 1+(Vbreab.reducedOf s.marks tr).length≤10000 by omega) (by decide)
   ·exact bW st (D2.same st s3) e1 rfl g l2 hl2
noncomputable abbrev sS:Stmt:=top 82
theorem iM:aW ["chart","reader","t","u","one","other"] ["chart","reader"] (aF sS):=⟨rfl,rfl,rfl,by decide +kernel,rfl,by decide +kernel,by decide +kernel⟩
theorem abJ:∀(l m:List Int),PyData.eqv (.list (l.map PyData.int)) (.list (m.map PyData.int))=decide (l=m):=by
 intro l m
 have key:∀(l m:List Int),PyData.eqvAll (l.map PyData.int) (m.map PyData.int)=decide (l=m):=by
  intro l
  induction l with
  | nil=>intro m;cases m<;>simp [PyData.eqvAll]
  | cons x l ih=>
   intro m
   cases m with
   | nil=>simp [PyData.eqvAll]
   | cons y m=>
    simp only [List.map_cons,PyData.eqvAll,ih m]
    by_cases h1:x=y<;>by_cases h2:l=m<;>simp [PyData.eqv,h1,h2]
 rw [←key l m]
 simp [PyData.eqv]
theorem shaped_ints (l:List Int):SeqAt.shaped (.list (l.map PyData.int))=true:=by
 have h1:PyData.canLayAll0 (l.map PyData.int)=true:=by
  induction l with
  | nil=>rfl
  | cons x l ih=>simp [PyData.canLayAll0,PyData.canLay0,ih]
 have h2:PyData.depthAll (l.map PyData.int)=0:=by
  clear h1
  induction l with
  | nil=>rfl
  | cons x l ih=>simp [PyData.depthAll,PyData.depth,ih]
 simp [SeqAt.shaped,PyData.canLay0,PyData.depth,h1,h2]
theorem YK {H:Hp} {a:Addr} {l:List Int} (h:H a=some (.lst (l.map V.int))):Dp K H (.ref a) (.list (l.map PyData.int)):=by
 refine .lst (b7.of h) ?_
 clear h
 induction l with
 | nil=>exact .nil
 | cons x l ih=>exact .cons (.int _) ih
theorem Ik (st:za TB) (RC:ni K CC) (F:cI K "answer_alike" "answer_alike" sS f fd) (T:Txt mg) (aX:Met P w K mg base CR "number" 1 ["self"] (bJ K CR)) (aL:Met P w K mg base CC "has_track" 1 ["self","t"] (bR CC)) (dZ:ik P w K mg base "reduced_letters" 10 ["chart","t"] (ig CC TB)):cz P w K mg base fH 11 f fd ["chart","reader"] (f9 K CC CR TB yt):=by
 obtain ⟨_,_,aP,aQ,aU,aV⟩:=aX;obtain ⟨_,_,bf,bh,bj,bu⟩:=aL;obtain ⟨_,_,gD,gF,gG,gH⟩:=dZ
 refine F.ok iM (fun vs H Q E h=>?_) (fun cdv A outer s H vs Q E hr h=>?_)
 ·obtain ⟨c,r,a,q,s,xs,k,zs,cl,n,rfl,_⟩:=h
  rfl
 ·obtain ⟨c,r,a,q,s,xs,k,zs,cl,n,rfl,D,hrd,g⟩:=h
  obtain ⟨t,u,rest,hdrop,rfl,rfl⟩:=Sh hrd
  obtain ⟨Vb,hr0⟩:=id D.reader
  refine ⟨_,(ao (aY (i:=2) iM.nd rfl (Or.inl rfl) (b8 (pv 1) aQ aU aP (hr.mono (by decide)) aV .nil aO)) (ao (aY (i:=3) iM.nd rfl (Or.inl rfl) (b8 (pv 1) aQ aU aP (hr.mono (by decide)) aV .nil aO)) (ao (cC (eV (PW.pt (Em (cP (fU (pv 0) bh bj bf (hr.mono (by decide)) bu .nil aO (aj (pv 2) ak))) (BX (cP (fU (pv 0) bh bj bf (hr.mono (by decide)) bu .nil aO (aj (pv 3) ak))))))) (aB (aH (bL (aj (bN rfl T.di) ak)))) bH) (ao (aY (i:=4) iM.nd rfl (Or.inl rfl) (bA bB (bG (pv 0) rfl) (pv 2) (fun _ _=>rfl))) (ao (aY (i:=5) iM.nd rfl (Or.inl rfl) (bA bB (bG (pv 0) rfl) (pv 3) (fun _ _=>rfl))) (ao (cC (PW.pt (Qg (bV (Rn hr.units) (bA bB (pv 4) aG (fun _ _=>rfl)) (bA bB (pv 5) aG (fun _ _=>rfl)) (bQ _)) (El (bV (Rn hr.units) (bA bB (pv 4) (o8 jj aG) (fun _ _=>rfl)) (bA bB (pv 5) (o8 jj aG) (fun _ _=>rfl)) (bQ _))))) (aB (aH (bL (aj (bN rfl T.tY) ak)))) bH) (aB (aH (bL (aj (o7 (bV (abb hr.units) (aM gD (hr.mono (by decide)) rfl gF gG gH .nil aO (aj (pv 0) (aj (pv 2) ak))) (aM gD (hr.mono (by decide)) rfl gF gG gH .nil aO (aj (pv 0) (aj (pv 3) ak))) (bQ _)) aG aG) ak)))))))))),?_⟩
  open_ks with [iY,hr0,HO.ins.injEq,bT]
  refine D.number st hdrop fun H1 D1 hd1 Xi=>?_
  obtain ⟨dx1,hr1⟩:=id D1.reader
  open_ks with [hr1,HO.ins.injEq,bT]
  refine D1.number st hd1 fun H2 D2 hd2 kp2=>?_
  obtain ⟨dc,lm,lt,gA,hc,nq⟩:=id D2.chart
  have cV:=hc.ins
  open_ks with [cV,HO.ins.injEq,dq]
  refine ⟨c,q,t,s,rfl,D2.chart,?_⟩
  rw [fP]
  cases ht:Vbreab.trackAt s t with
  | none=>
   have e0:Vbreab.step s (.alike t u)=(s,[-2]):=cH ht
   open_ks with [Option.isSome_none]
   exact ⟨by decide,bW st D2 e0 rfl g⟩
  | some tr=>
   have et:Vbreab.step s (.alike t u)=Vbreab.onTrack s u fun qs=>if tr.head?≠qs.head?∨tr.getLast?≠qs.getLast? then (s,[-7]) else (s,[if Vbreab.reducedOf s.marks tr=Vbreab.reducedOf s.marks qs then 1 else 0]):=cG ht
   open_ks with [Option.isSome_some,cV,HO.ins.injEq,dq]
   refine ⟨c,q,u,s,rfl,D2.chart,?_⟩
   rw [fP]
   cases hu:Vbreab.trackAt s u with
   | none=>
    have e0:Vbreab.step s (.alike t u)=(s,[-2]):=by rw [et];exact cH hu
    open_ks with [Option.isSome_none]
    exact ⟨by decide,bW st D2 e0 rfl g⟩
   | some us=>
    rw [cG hu]at et
    obtain ⟨ap,ia,hap,_⟩:=hc.track ht
    obtain ⟨au,iu,hau,_⟩:=hc.track hu
    have Xj:=D2.ok.tracks tr (du ht)
    have Vq:=D2.ok.tracks us (du hu)
    have t2:=Xj.two
    have u2:=Vq.two
    obtain ⟨z1,hz1⟩:∃z,tr.getLast?=some z:=⟨_,List.getLast?_eq_some_getLast (by intro e;rw [e]at t2;simp at t2)⟩
    obtain ⟨z2,hz2⟩:∃z,us.getLast?=some z:=⟨_,List.getLast?_eq_some_getLast (by intro e;rw [e]at u2;simp at u2)⟩
    obtain ⟨y1,hy1⟩:∃z,tr[0]?=some z:=⟨_,List.getElem?_eq_getElem (by omega)⟩
    obtain ⟨y2,hy2⟩:∃z,us[0]?=some z:=⟨_,List.getElem?_eq_getElem (by omega)⟩
    obtain ⟨as,rZ,Hc⟩:=id hap
    obtain ⟨bs,Xk,pbs⟩:=id hau
    obtain ⟨a1,i1,p1⟩:=Dn Hc hz1
    obtain ⟨a2,i2,p2⟩:=Dn pbs hz2
    obtain ⟨b1,hb1,q1⟩:=bc Hc hy1
    obtain ⟨b2,hb2,q2⟩:=bc pbs hy2
    have j1:oO (as.map V.ref) 0=some (.ref b1):=at_of (j:=0) rfl (by rw [List.getElem?_map,hb1];rfl)
    have j2:oO (bs.map V.ref) 0=some (.ref b2):=at_of (j:=0) rfl (by rw [List.getElem?_map,hb2];rfl)
    rw [List.head?_eq_getElem?,List.head?_eq_getElem?,hy1,hy2,hz1,hz2]at et
    open_ks with [Option.isSome_some,gh,cV,HO.ins.injEq,RC.cl,RC.tracks,cD]
    refine ⟨lt,_,t,_,rfl,rfl,b7.of hc.lst,ia,?_⟩
    refine ⟨CC,_,_,cV,RC.cl,RC.tracks,_,cD _ _,lt,_,u,_,rfl,rfl,b7.of hc.lst,iu,ap,_,0,_,rfl,rfl,b7.of rZ,j1,au,_,0,_,rfl,rfl,b7.of Xk,j2,?_⟩
    refine ⟨_,_,wV q1,wV q2,by rfl,by rfl,?_⟩
    rw [FQ]
    refine ⟨_,rfl,?_⟩
    by_cases ey:y1=y2
    ·rw [if_neg (by simp [ey])]
     refine ⟨ap,_,-1,_,rfl,rfl,b7.of rZ,i1,au,_,-1,_,rfl,rfl,b7.of Xk,i2,?_⟩
     refine ⟨_,_,wV p1,wV p2,by rfl,by rfl,?_⟩
     rw [FQ]
     refine ⟨_,rfl,?_⟩
     by_cases ez:z1=z2
     ·rw [if_neg (by simp [ez])]
      rw [if_neg (by simp [ey,ez])]at et
      refine ⟨c,q,t,s,tr,rfl,D2.chart,D2.ok,ht,D2.tab,fun H3 p3 hp3 h3 k3 tb3=>?_⟩
      have D3:=D2.kt k3 tb3
      refine ⟨c,q,u,s,us,rfl,D3.chart,D3.ok,hu,tb3,fun H4 p4 hp4 h4 k4 tb4=>?_⟩
      have D4:=D3.kt k4 tb4
      have h3':=k4.kp _ _ h3 (by intro _ z;cases z)
      refine ⟨_,_,YK h3',YK h4,shaped_ints _,shaped_ints _,?_⟩
      rw [abJ]
      refine ⟨_,rfl,?_⟩
      by_cases er:Vbreab.reducedOf s.marks tr=Vbreab.reducedOf s.marks us
      ·rw [if_pos (by simp [er])]
       rw [if_pos er]at et
       exact ⟨by decide,bW st D4 et rfl g⟩
      ·rw [if_neg (by simp [er])]
       rw [if_neg er]at et
       exact ⟨by decide,bW st D4 et rfl g⟩
     ·rw [if_pos (by simp [ez])]
      rw [if_pos (by simp [ez])]at et
      exact ⟨by decide,bW st D2 et rfl g⟩
    ·rw [if_pos (by simp [ey])]
     rw [if_pos (by simp [ey])]at et
     exact ⟨by decide,bW st D2 et rfl g⟩
end
noncomputable def cxL (X:Cx) (A:Around) (N:List Str) (qual:Str) (scope:Scope) (f:Addr) (cd:Value) (cl:List (Str×Addr)) (s:Shared) (H:Hp):Cx where
 prog:=X.prog
 w:=X.w
 K:=X.K
 mg:=X.mg
 base:=X.base
 A:=A.deeper (PySem.W.envX qual scope s.heap.objs.size f cd cl)
 N:=N
 Nf:=s
 H_0:=H
 env:=PySem.W.envX qual scope s.heap.objs.size f cd cl
 outer:=X.stack
 stack:=PySem.W.envX qual scope s.heap.objs.size f cd cl::X.stack
 ex:=[]
 fn:=fun _=>false
 calm:=true
 pn:=[]
 xe:=fun _ _=>False
structure Mr (p y:Str) (scope:Scope):Prop where
 kind:scope.kind=.function
 co:scope.isCoroutine=false
 gen:scope.isGenerator=false
 ne:p≠y
 par:scope.names.lookup p=some .local
 fr:scope.names.lookup y=some .free
 all:∀q∈scope.names,(q.2=.cell∨q.2=.free)→q.1=y
 aeJ:∀q∈scope.names,q.2≠.cell
section
variable {X:Cx} {pins:List (Addr×Obj)} {σ:L2.St} {H:Hp} {s:Shared} {A:Around} {p y:Str} {scope:Scope} {qual:Str} {f c:Addr} {cd:Value}
theorem ac2 {h1:Heap} {tk:Nat} {u uy:Value} {v vy:V} (I:Inv X pins σ H s) (hf:A.frames=some X.stack) (hh:A.handled=none) (S:Mr p y scope)
  (hns:h1.Ns s.heap.objs.size (fun x=>[(p,u)].reverse.lookup x)) (hk1:∀b o,s.heap.get? b=some o→h1.get? b=some o)
  (hc:s.heap.IsCell c (some uy)) (hy:RelV vy uy) (hv:RelV v u) (hcH:H c=none) :
  Inv (cxL X A [p,y] qual scope f cd [(y,c)] s H) [] [some v,some vy] H { s with heap:=h1,toks:=tk }:=by
 have e0:=I.env0
 have lk:∀x c',[(y,c)].lookup x=some c'→x=y∧c'=c:=fun x c' h=>by
  have:=PySem.mem_of_lookup h
  simp only [List.mem_singleton,Prod.mk.injEq]at this
  exact this
 have lky:[(y,c)].lookup y=some c:=by simp [List.lookup]
 have noA:∀b:Addr,b∉(cxL X A [p,y] qual scope f cd [(y,c)] s H).ex:=fun b z=>absurd (show b∈([]:List Addr) from z) (by simp)
 have hc1:h1.IsCell c (some uy):=by obtain ⟨o,ho,hd⟩:=hc;exact ⟨o,hk1 _ _ ho,hd⟩
 refine ⟨⟨e0.mod,S.kind,rfl,rfl,Nat.le_refl _,fun a b c' h1 h2=>?_,fun x hx=>?_,fun x c' h _=>?_,fun _=>hh,Around.frames_deeper hf,.inr ⟨rfl,rfl⟩,fun b z=>absurd z (noA b),e0.bs,e0.bsz,fun b _ _=>noA b,fun b z=>absurd z (noA b),e0.Ek,e0.frf⟩,
  rfl,I.bare,Un.kept hk1,⟨_,hns,fun i x w' h1 h2 h3=>?_⟩,fun x c' h=>?_,I.hok.fresh (Nat.le_refl _),fun x c' h=>?_,fun q hq=>absurd (show q∈([]:List (Addr×Obj)) from hq) (by simp),I.hok.kept hk1,rfl⟩
 ·exact (lk a c' h1).1.trans (lk b c' h2).1.symm
 ·have hx':scope.names.lookup x=some .cell∨scope.names.lookup x=some .free:=hx
  have:x=y:=by
   rcases hx' with q | q
   ·exact S.all (x,.cell) (PySem.mem_of_lookup q) (.inl rfl)
   ·exact S.all (x,.free) (PySem.mem_of_lookup q) (.inr rfl)
  rw [this];exact ⟨c,lky⟩
 ·exact absurd h (by simp [cxL])
 ·have hi:i=0∨i=1:=by
   have:i<2:=(List.getElem?_eq_some_iff.mp h1).1
   omega
  rcases hi with rfl | rfl
  ·have e1:p=x:=Option.some.inj h1
   have e2:v=w':=Option.some.inj (Option.some.inj h2)
   subst e1;subst e2
   exact ⟨u,hv,.inl ⟨S.par,by simp [List.lookup]⟩⟩
  ·have e1:y=x:=Option.some.inj h1
   have e2:vy=w':=Option.some.inj (Option.some.inj h2)
   subst e1;subst e2
   exact ⟨uy,hy,.inr ⟨.inr S.fr,c,lky,hc1⟩⟩
 ·rw [(lk x c' h).2];exact ⟨_,hc1⟩
 ·rw [(lk x c' h).2];exact hcH
theorem abK {name:Str} {params:Arguments} {body:Expr} {c':Addr} {pm ctv:Value} {k:Nat} {t:TE} {u uy:Value} {v vy:V} {Q:VK} {E:Value→Shared→Prop}
  (I:Inv X pins σ H s) (hf:A.frames=some X.stack) (hr:lN k A) (S:Mr p y scope)
  (ho:s.heap.get? f=some (PySem.W.kla_obj name qual params body scope [(y,c)] pm c' ctv)) (hcd:s.heap.CodeRec (.ref c') qual)
  (hbind:bindArgs (PySem.W.kla_fn name qual params body scope [(y,c)] pm (.ref c') ctv) ⟨[u],[]⟩=pure [(p,u)])
  (hc:s.heap.IsCell c (some uy)) (hy:RelV vy uy) (hv:RelV v u) (hcH:H c=none)
  (hb:PE (cxL X A [p,y] qual scope f (.ref c') [(y,c)] s H) body t) (h:t [some v,some vy] H Q) :
  wpAny (model X.prog X.w) A (call (.ref f) [u]) (CE X.stack X.prog X.w H s Q) E s:=by
 refine wpAny_call (PySem.W.kla_callFunE hr.depth ho rfl S.co S.gen rfl hcd ?_)
 rw [hbind]
 refine wpAny_pure (wpAny_newFunctionEnv S.aeJ (fun q hq=>?_) (fun h1 hns hsb=>⟨I.nolimit.fresh _ hsb,?_⟩) S.kind)
 ·rw [List.mem_singleton.mp hq];exact S.par
 ·show codeAny _ _ (.expr body (PySem.W.envX qual scope s.heap.objs.size f (.ref c') [(y,c)])) _ _
  have hk1:∀b o,s.heap.get? b=some o→h1.get? b=some o:=fun b o e=>hsb.extBut b o (Nat.ne_of_lt (Heap.lt_size e)) (Heap.get?_push_of_some _ e)
  refine PySem.W.kla_codeExpr (wpAny_mono (hb [] _ _ H Q (ac2 I hf hr.hd S hns hk1 hc hy hv hcH) h) (fun u' s' hp=>?_) (fun _ _ z=>z.elim))
  obtain ⟨v',H',J,rv',q⟩:=hp
  exact ⟨v',H',J.os,J.bare,J.base,J.hok,rv',q⟩
end
noncomputable abbrev pC:Nat→Bool:=fun _=>false
noncomputable abbrev kyP (q:Pt):List (Int ⊕ List Nat):=[Sum.inl q.x,Sum.inl (-q.y)]
noncomputable def Sw (ms:List Pt) (h:Heap) (p:Keyed):Prop:=∃(i:Nat) (q:Pt) (t:Tok),ms[i]?=some q∧p.2=.int (i:Nat) t∧G.tupKeyC h pC p.1=some (kyP q)
theorem agi (p q:Pt):PyProof.Rows.lexLt itemOrd (kyP p) (kyP q)=(decide (p.x<q.x)||(!decide (q.x<p.x)&&decide (q.y<p.y))):=by
 show (decide (p.x<q.x)||(!decide (q.x<p.x)&&(decide (-p.y < -q.y)||(!decide (-q.y < -p.y)&&false))))=_
 have:decide (-p.y < -q.y)=decide (q.y<p.y):=decide_eq_decide.2 (by omega)
 rw [this];simp
theorem aeK {ms:List Pt} {h:Heap} {keys items:List Value} (hi:Vals ((List.range ms.length).map fun i=>V.int (i:Nat)) items) (hk:Paired (fun k q=>G.tupKeyC h pC k=some (kyP q)) keys ms):∀p∈keys.zip items,Sw ms h p:=by
 intro p hp
 obtain ⟨j,hj⟩:=List.mem_iff_getElem?.1 hp
 rw [List.getElem?_zip_eq_some]at hj
 obtain ⟨h1,h2⟩:=hj
 have hl:=bC hk
 have hlt:j<ms.length:=by rw [←hl];exact (List.getElem?_eq_some_iff.1 h1).1
 obtain ⟨u,hu,ru⟩:=hi.get (i:=j) (x:=V.int (j:Nat)) (by rw [List.getElem?_map,List.getElem?_range hlt];rfl)
 rw [h2]at hu;cases hu
 obtain ⟨t,ht⟩:=ru
 have hq:=List.getElem?_eq_getElem hlt
 obtain ⟨k,hk1,hk2⟩:=bc hk hq
 rw [h1]at hk1;cases hk1
 exact ⟨j,_,t,hq,ht,hk2⟩
noncomputable abbrev vd (p:Keyed):Nat:=(numOf p.2).toNat
theorem Ms {ms:List Pt} {h:Heap} {p:Keyed} (x:Sw ms h p):∃q t,ms[vd p]?=some q∧p.2=.int (vd p:Nat) t∧G.tupKeyC h pC p.1=some (kyP q):=by
 obtain ⟨i,q,t,h1,h2,h3⟩:=x
 have e:vd p=i:=by unfold vd;rw [h2];simp [numOf]
 rw [e];exact ⟨q,t,h1,h2,h3⟩
theorem QJ {ms:List Pt} {h:Heap}:∀L:List Keyed,(∀p∈L,Sw ms h p)→Vals (lB (L.map vd)) (L.map (·.2))
 | [],_=>.nil
 | p::L,hL=>by
  obtain ⟨q,t,h1,h2,h3⟩:=Ms (hL p List.mem_cons_self)
  exact .cons ⟨t,h2⟩ (QJ L fun x hx=>hL x (List.mem_cons_of_mem _ hx))
theorem abL {ms:List Pt} {h:Heap} {keys items:List Value} (hi:Vals ((List.range ms.length).map fun i=>V.int (i:Nat)) items) (hl:keys.length=ms.length):(keys.zip items).map vd=List.range ms.length:=by
 have li:items.length=ms.length:=by have:=hi.length;simp at this;exact this.symm
 apply List.ext_getElem?
 intro j
 rw [List.getElem?_map]
 by_cases hlt:j<ms.length
 ·obtain ⟨u,hu,ru⟩:=hi.get (i:=j) (x:=V.int (j:Nat)) (by rw [List.getElem?_map,List.getElem?_range hlt];rfl)
  obtain ⟨t,ht⟩:=ru
  obtain ⟨k,hk⟩:∃k,keys[j]?=some k:=⟨_,List.getElem?_eq_getElem (by omega)⟩
  have:(keys.zip items)[j]?=some (k,u):=by rw [List.getElem?_zip_eq_some];exact ⟨hk,hu⟩
  rw [this,List.getElem?_range hlt]
  simp [vd,ht,numOf]
 ·have:(keys.zip items)[j]?=none:=by rw [List.getElem?_eq_none_iff,List.length_zip];omega
  rw [this]
  symm
  simp
  omega
theorem ac3 {ms:List Pt} (jM:az.bK ms) {h:Heap} {L:List Keyed} {keys items:List Value} (hp:L.Perm (keys.zip items)) (hi:Vals ((List.range ms.length).map fun i=>V.int (i:Nat)) items)
  (hk:Paired (fun k q=>G.tupKeyC h pC k=some (kyP q)) keys ms)
  (hs:L.Pairwise fun p q=>(G.tupKindC h pC).kle (((G.tupKindC h pC).keyOf p.1).getD []) (((G.tupKindC h pC).keyOf q.1).getD [])) :
  az.tQ ms (L.map vd)∧Vals (lB (L.map vd)) (L.map (·.2)):=by
 have ok:∀p∈L,Sw ms h p:=fun p hpm=>aeK hi hk p (hp.mem_iff.1 hpm)
 have pm:(L.map vd).Perm (List.range ms.length):=by rw [←abL (h:=h) hi (bC hk)];exact hp.map _
 have nd:(L.map vd).Nodup:=pm.nodup_iff.2 List.nodup_range
 refine ⟨⟨pm,?_⟩,QJ L ok⟩
 rw [List.pairwise_map]
 have nd':=List.pairwise_map.1 nd
 refine (hs.and nd').imp_of_mem fun {p q} hp hq=>?_
 rintro ⟨hkle,hne⟩
 obtain ⟨a,ta,a1,a2,a3⟩:=Ms (ok p hp)
 obtain ⟨b,tb,b1,b2,b3⟩:=Ms (ok q hq)
 have e1:((G.tupKindC h pC).keyOf p.1).getD []=kyP a:=by show (G.tupKeyC h pC p.1).getD []=_;rw [a3];rfl
 have e2:((G.tupKindC h pC).keyOf q.1).getD []=kyP b:=by show (G.tupKeyC h pC q.1).getD []=_;rw [b3];rfl
 rw [e1,e2]at hkle
 have hb:PyProof.Rows.lexLt itemOrd (kyP b) (kyP a)=false:=hkle
 rw [agi]at hb
 simp at hb
 have hab:a≠b:=by rintro rfl;exact hne (jM.apart _ _ _ a1 b1)
 unfold az.o6
 rw [a1,b1]
 dsimp only
 split
 ·rename_i ex
  have:=hb.2 (by omega)
  have hy:a.y≠b.y:=fun ey=>hab (by obtain ⟨ax,ay⟩:=a;obtain ⟨bx,bY⟩:=b;dsimp only at ex ey;rw [ex,ey])
  simp;omega
 ·rename_i ex
  simp;omega
structure DP (X:Cx) (ps:List (Addr×Obj)) (b:Addr):Prop where
 old:X.Nf.heap.objs.size≤b
 pin:∀p∈X.pn++ps,p.1≠b
section
variable {X:Cx} {pins ps:List (Addr×Obj)} {σ:L2.St} {H:Hp} {s:Shared} {A:Around} {b:Addr} {o o':Obj} {h':Heap} {t':Nat}
theorem QK (I:Inv X ((b,o)::ps) σ H s):∀x c,X.env.cells.lookup x=some c→c≠b:=by
 rintro x c e rfl
 obtain ⟨v,o2,ho2,hd2⟩:=I.cell x c e
 obtain ⟨p1,p2,p3,p4,p5⟩:=I.pin (c,o) (List.mem_append_right _ List.mem_cons_self)
 rw [p1]at ho2;cases ho2
 exact p5 v hd2
theorem DQ {q:Addr×Obj} (I:Inv X (q::ps) σ H s):Inv X ps σ H s:=I.qp fun p hp=>I.pin p (List.mem_append_right _ (List.mem_cons_of_mem _ hp))
theorem qP (I:Inv X ((b,o)::ps) σ H s) (F:DP X ps b) (k:∀c u,c≠b→s.heap.get? c=some u→h'.get? c=some u) (hb:h'.get? b=some o') (hd:∀v,o'.data≠.cell v) :
  Inv X ((b,o')::ps) σ H { s with heap:=h',toks:=t' }:=by
 obtain ⟨p1,p2,p3,p4,p5⟩:=I.pin (b,o) (List.mem_append_right _ List.mem_cons_self)
 have I1:=(DQ I).turned (it:=b) (t':=t') k p2 p3 (.inr F.old) (QK I) F.pin
 refine I1.qp fun p hp=>?_
 rcases List.mem_cons.1 hp with rfl | hp
 ·exact ⟨hb,p2,p3,p4,hd⟩
 ·exact I1.pin p (List.mem_append_right _ hp)
theorem adopt {u:HO} (I:Inv X ((b,o)::ps) σ H s) (F:DP X ps b) (k:∀c u,c≠b→s.heap.get? c=some u→h'.get? c=some u) (hb:h'.get? b=some o')
  (new:mV X.prog X.w (upd H b u) h' b u):Inv X ps σ (upd H b u) { s with heap:=h',toks:=t' }:=by
 obtain ⟨p1,p2,p3,p4,p5⟩:=I.pin (b,o) (List.mem_append_right _ List.mem_cons_self)
 have nb:∀c w,H c=some w→c≠b:=fun c w e z=>by rw [z,p2]at e;cases e
 refine (DQ I).step (g':=s.gens) (d':=s.drawn) (ch:=[b]) (fun c hc=>?_) (fun c w _ _ hc e _=>k c w (fun z=>hc (by simp [z])) e) (fun c w _ _ hc e _=>⟨w.slots,k c w (fun z=>hc (by simp [z])) e⟩)
  (fun c w hc e n=>by rw [aJ (fun z=>hc (by simp [z]))];exact n) (fun c w hc e=>⟨w,k c w (fun z=>hc (by simp [z])) e⟩) (fun c xs e=>by rw [aJ (nb _ _ e)];exact e) (fun c w xs e=>by rw [aJ (nb _ _ e)];exact e)
  (fun c w e=>⟨#[],by rw [aJ (nb _ _ e),e];simp⟩) (fun m hm=>?_) (fun c w e=>?_) I.bare
 ·have:c=b:=by simpa using hc
  subst this
  exact ⟨.inr F.old,p3,QK I,F.pin⟩
 ·obtain ⟨w,es,ep,ho,r⟩:=hm
  exact ⟨w,es,ep,k _ w (Ne.symm p3) ho,r⟩
 ·by_cases hcb:c=b
  ·subst hcb;rw [aA]at e;cases e;exact new
  ·rw [aJ hcb]at e
   refine (I.hok c w e).stay (fun d v hd q=>k d v ?_ q) (fun d q=>by rw [aJ (nb _ _ q)];exact q) (fun d xs q=>by rw [aJ (nb _ _ q)];exact q)
   rcases hd with rfl | hd
   ·exact hcb
   ·exact nb _ _ hd
end
noncomputable def yI (H:Hp) (k:Value) (q:Pt):Prop:=∃t,k=.ref t∧H t=some (.tup [.int q.x,.int (-q.y)])
theorem yI.same {H H':Hp} {k:Value} {q:Pt} (h:yI H k q) (e:aK H H'):yI H' k q:=by
 obtain ⟨t,h1,h2⟩:=h
 exact ⟨t,h1,e _ _ h2⟩
theorem yI.tup {P:Program} {w:World} {H:Hp} {h:Heap} {k:Value} {q:Pt} (x:yI H k q) (hok:zg P w H h):∃a o xs n t1 t2,k=.ref a∧h.get? a=some o∧o.cls=.type "tuple" ∧ o.data=.seq xs n∧xs=#[.int q.x t1,.int (-q.y) t2]:=by
 obtain ⟨a,rfl,ha⟩:=x
 obtain ⟨_,its,hv,o,ho,hc,n,hd⟩:=hok a _ ha
 cases hv with
 | cons r1 hv=>cases hv with
  | cons r2 hv=>cases hv with
   | nil=>
    obtain ⟨t1,e1⟩:=r1
    obtain ⟨t2,e2⟩:=r2
    subst e1 e2
    exact ⟨a,o,_,n,t1,t2,rfl,ho,hc,hd,rfl⟩
theorem yI.key {P:Program} {w:World} {H:Hp} {h:Heap} {k:Value} {q:Pt} (x:yI H k q) (hok:zg P w H h):G.tupKeyC h pC k=some (kyP q):=by
 obtain ⟨a,o,xs,n,t1,t2,rfl,ho,hc,hd,rfl⟩:=x.tup hok
 unfold G.tupKeyC
 have:G.isTupObj h (.ref a)=true:=by simp only [G.isTupObj,ho,hc];rfl
 rw [if_pos this]
 simp only [tupKey,ho,hd]
 rfl
theorem QL {P:Program} {w:World} {H:Hp} {h:Heap} (hok:zg P w H h):∀{ks:List Value} {ms:List Pt},Paired (yI H) ks ms→∃fs,TupsOf h pC ks fs
 | _,_,.nil=>⟨[],.nil⟩
 | _,_,.cons x r=>by
  obtain ⟨a,o,xs,n,t1,t2,rfl,ho,hc,hd,rfl⟩:=x.tup hok
  obtain ⟨fs,hfs⟩:=QL hok r
  exact ⟨_,.cons ⟨a,o,_,n,rfl,ho,hc,hd,rfl,fun _=>⟨_,_,rfl⟩,fun z=>absurd z (by decide)⟩ hfs⟩
section
variable {X:Cx} {ps:List (Addr×Obj)} {σ:L2.St} {H:Hp} {s:Shared} {A:Around} {a kS:Addr} {keys:Array Value} {items:List Value} {e e1:Nat} {ms:List Pt} {P:PySem.Fin→Shared→Prop} {E:Value→Shared→Prop}
theorem QM {st:SortSt} (I:Inv X ((kS,seqObj "list" keys e)::(a,seqObj "list" #[] e1)::ps) σ H s) (FK:DP X ((a,seqObj "list" #[] e1)::ps) kS) (FA:DP X ps a)
  (hi:Vals ((List.range ms.length).map fun i=>V.int (i:Nat)) items) (hk:Paired (yI H) keys.toList ms) (jM:az.bK ms) (j4:ms.length≤16)
  (hp:(arrOf st).Perm (keys.zip items.toArray)) (hs:SortedToK (G.tupKindC s.heap pC) (arrOf st) (arrOf st).size) (hfl:failedOf st=none)
  (h:∀R s',az.tQ ms R→Inv X ps σ (upd H a (.lst (lB R))) s'→P (.done (.ret .none)) s') :
  wpAny (model X.prog X.w) A (ksk_tail a false e1 (.ref kS) st) P E s:=by
 have nk:=(I.pin (kS,seqObj "list" keys e) (List.mem_append_right _ List.mem_cons_self)).1
 have na:=(I.pin (a,seqObj "list" #[] e1) (List.mem_append_right _ (List.mem_cons_of_mem _ List.mem_cons_self))).1
 have hka:kS≠a:=Ne.symm (FK.pin _ (List.mem_append_right _ List.mem_cons_self))
 have lk:=bC hk
 rw [Array.length_toList]at lk
 have li:items.length=ms.length:=by have:=hi.length;simp at this;exact this.symm
 have hsz2:(arrOf st).size=ms.length:=by rw [hp.size_eq,Array.size_zip,lk,List.size_toArray,li,Nat.min_self]
 have s1:=Heap.SameBut.update s.heap kS (Obj.mapSeq fun _=>(#[]:Array Value))
 have na1:(s.heap.update kS (Obj.mapSeq fun _=>(#[]:Array Value))).get? a=some (seqObj "list" #[] e1):=(s1.2 a hka.symm).trans na
 obtain ⟨c1,hc1⟩:∃c1,(s.heap.update kS (Obj.mapSeq fun _=>(#[]:Array Value))).get? kS=some (seqObj "list" #[] c1):=⟨_,get?_update_seq nk fun _=>#[]⟩
 have s2:=Heap.SameBut.update (s.heap.update kS (Obj.mapSeq fun _=>(#[]:Array Value))) a (Obj.mapSeq fun _=>(arrOf st).map (·.2))
 obtain ⟨c2,hc2⟩:∃c2,((s.heap.update kS (Obj.mapSeq fun _=>(#[]:Array Value))).update a (Obj.mapSeq fun _=>(arrOf st).map (·.2))).get? a=some (seqObj "list" ((arrOf st).map (·.2)) c2):=
  ⟨_,get?_update_seq na1 fun _=>(arrOf st).map (·.2)⟩
 have I1:=qP (t':=s.toks) I FK (fun c u hc q=>(s1.2 c hc).trans q) hc1 (fun v z=>nomatch z)
 have hks:Paired (fun k q=>G.tupKeyC s.heap pC k=some (kyP q)) keys.toList ms:=Paired.Y8 hk fun k q x=>x.key I.hok
 have pl:(arrOf st).toList.Perm (keys.toList.zip items):=by rw [←ksk_zip];exact Array.perm_iff_toList_perm.mp hp
 have srt:(arrOf st).toList.Pairwise fun p q=>(G.tupKindC s.heap pC).kle (((G.tupKindC s.heap pC).keyOf p.1).getD []) (((G.tupKindC s.heap pC).keyOf q.1).getD []):=by
  rw [List.pairwise_iff_getElem]
  intro i j hi' hj' hij
  have hi2:i<(arrOf st).size:=by simpa using hi'
  have hj2:j<(arrOf st).size:=by simpa using hj'
  have q:=hs i j (Nat.le_of_lt hij) hj2
  have e1:KK (G.tupKindC s.heap pC) (arrOf st) i=((G.tupKindC s.heap pC).keyOf ((arrOf st).toList[i]).1).getD []:=by unfold KK;rw [Array.getElem?_eq_getElem hi2];simp
  have e2:KK (G.tupKindC s.heap pC) (arrOf st) j=((G.tupKindC s.heap pC).keyOf ((arrOf st).toList[j]).1).getD []:=by unfold KK;rw [Array.getElem?_eq_getElem hj2];simp
  rw [e1,e2]at q
  exact q
 obtain ⟨hR,hV⟩:=ac3 jM pl hi hks srt
 have hlen:(lB ((arrOf st).toList.map vd)).length≤sizeLine:=by
  unfold lB
  rw [List.length_map,List.length_map,Array.length_toList,hsz2]
  exact Nat.le_trans j4 (by decide)
 unfold ksk_tail
 try dsimp only
 refine wpAny_bind (listUpdate_at nk rfl ?_ (by rw [lk,sizeLine_eq];omega) (Nat.zero_le _))
 refine wpAny_bind (wpAny_letGo ?_)
 refine wpAny_bind (seqEpoch_at na1 rfl ?_)
 simp only [Bool.false_eq_true,if_false]
 refine wpAny_bind (listUpdate_at na1 rfl ?_ (Nat.zero_le _) (by rw [Array.size_map,hsz2,sizeLine_eq];omega))
 rw [hfl]
 simp only [bne_self_eq_false,Bool.false_eq_true,if_false]
 refine wpAny_pure (h _ _ hR ?_)
 have em:(arrOf st).map (·.2)=((arrOf st).toList.map (·.2)).toArray:=by rw [←Array.toList_map,Array.toArray_toList]
 have hc3:=hc2.trans (congrArg (fun z=>some (seqObj "list" z c2)) em)
 have Z:=adopt (u:=.lst (lB ((arrOf st).toList.map vd))) (t':=s.toks) (DQ I1) FA (fun c u hc q=>(s2.2 c hc).trans q) hc2 ⟨hlen,_,c2,hV,hc3⟩
 exact Z
theorem abM (I:Inv X ((kS,seqObj "list" keys e)::(a,seqObj "list" #[] e1)::ps) σ H s) (FK:DP X ((a,seqObj "list" #[] e1)::ps) kS) (FA:DP X ps a)
  (hi:Vals ((List.range ms.length).map fun i=>V.int (i:Nat)) items) (hk:Paired (yI H) keys.toList ms) (jM:az.bK ms) (j4:ms.length≤16)
  (h:∀R s',az.tQ ms R→Inv X ps σ (upd H a (.lst (lB R))) s'→P (.done (.ret .none)) s') :
  wpAny (model X.prog X.w) A (ksk_end a false items.toArray e1 (.ref kS) keys) P E s:=by
 have lk:=bC hk
 rw [Array.length_toList]at lk
 have li:items.length=ms.length:=by have:=hi.length;simp at this;exact this.symm
 have hzs:(keys.zip items.toArray).size=ms.length:=by rw [Array.size_zip,lk,List.size_toArray,li,Nat.min_self]
 have hks:∀v∈keys.toList,∃l,G.tupKeyC s.heap pC v=some l:=by
  intro v hv
  obtain ⟨j,hj⟩:=List.mem_iff_getElem?.1 hv
  have hlt:j<ms.length:=by rw [←bC hk];exact (List.getElem?_eq_some_iff.1 hj).1
  obtain ⟨k,hk1,hk2⟩:=bc hk (List.getElem?_eq_getElem hlt)
  rw [hj]at hk1;cases hk1
  exact ⟨_,hk2.key I.hok⟩
 have k0:KeysOf (G.tupKindC s.heap pC) (keys.zip items.toArray):=by
  intro p hp
  rw [ksk_zip]at hp
  exact hks p.1 (List.of_mem_zip (a:=p.1) (b:=p.2) hp).1
 unfold ksk_end
 try dsimp only
 simp only [Bool.false_eq_true,if_false]
 by_cases h2:items.toArray.size<2
 ·rw [if_pos h2,if_pos h2]
  refine wpAny_bind (wpAny_pure ?_)
  rw [StateT.run_pure]
  refine wpAny_bind (wpAny_pure ?_)
  try dsimp only
  refine QM (st:=SortSt.mk' general' (keys.zip items.toArray) #[] 7 none) I FK FA hi hk jM j4 (Array.Perm.refl _) ?_ rfl h
  intro i j hij hj
  have hj2:j<(keys.zip items.toArray).size:=hj
  rw [hzs]at hj2
  rw [List.size_toArray,li]at h2
  have:i=j:=by omega
  subst this
  exact KeyOrd.kle_refl _
 ·rw [if_neg h2,if_neg h2]
  rw [List.size_toArray,li]at h2
  obtain ⟨fs,hfs⟩:=QL I.hok hk
  have lf:fs.length=ms.length:=(G.TupsOf.length hfs).trans (by rw [Array.length_toList,lk])
  refine wpAny_bind ?_
  rw [show keyKind' keys=keyKind' keys.toList.toArray by simp]
  refine tup_kind (by rw [lf];omega) hfs ?_
  refine wpAny_bind (wpAny_mono (G.wpS_sortRunsSt (κ:=G.tupKindC s.heap pC) (kd:=tuples' true) (a₀:=keys.zip items.toArray) (st:=SortSt.mk' (tuples' true) (keys.zip items.toArray) #[] 7 none)
   (Q:=fun _ st'=>(arrOf st').Perm (keys.zip items.toArray)∧failedOf st'=none∧SortedToK (G.tupKindC s.heap pC) (arrOf st') (keys.zip items.toArray).size)
   (G.tupC_ltAt (s:=s) true (G.KeepsTups.refl _)) k0 ⟨Array.Perm.refl _,rfl,rfl⟩ rfl (Stable.refl _) (by rw [hzs];omega) fun st' a1 a2 a3 a4=>⟨a1,a2,a3⟩) ?_ fun _ _ e=>e)
  rintro ⟨⟨⟩,st'⟩ s' ⟨rfl,hp,hf,hs⟩
  try dsimp only
  exact QM I FK FA hi hk jM j4 hp (by rw [hp.size_eq];exact hs) hf h
end
section
variable {X:Cx} {ps:List (Addr×Obj)} {σ:L2.St} {H:Hp} {s:Shared} {A:Around} {a kS fL:Addr} {fo:Obj} {items:List Value} {e1:Nat} {ms:List Pt} {P:PySem.Fin→Shared→Prop} {E:Value→Shared→Prop}
noncomputable def Sx (X:Cx) (A:Around) (σ:L2.St) (H:Hp) (fL:Addr) (fo:Obj) (ms:List Pt):Prop:=
 ∀(ps:List (Addr×Obj)) (s':Shared) (H':Hp) (i:Nat) (q:Pt) (u:Value),(fL,fo)∈ps→Inv X ps σ H' s'→aK H H'→ms[i]?=some q→RelV (.int (i:Nat)) u→
  wpAny (model X.prog X.w) A (call (.ref fL) [u]) (CE X.stack X.prog X.w H' s' (fun r H''=>(∃t,r=.ref t∧H'' t=some (.tup [.int q.x,.int (-q.y)]))∧aK H' H'')) (fun _ _=>False) s'
theorem ZZ (hc:Sx X A σ H fL fo ms) (I:Inv X ((kS,seqObj "list" #[] 0)::(a,seqObj "list" #[] e1)::ps) σ H s) (hfo:(fL,fo)∈ps) (FK:DP X ((a,seqObj "list" #[] e1)::ps) kS) (FA:DP X ps a)
  (hi:Vals ((List.range ms.length).map fun i=>V.int (i:Nat)) items) (jM:az.bK ms) (j4:ms.length≤16)
  (h:∀R H' s',az.tQ ms R→aK H H'→H' a=none→Inv X ps σ (upd H' a (.lst (lB R))) s'→P (.done (.ret .none)) s') :
  wpAny (model X.prog X.w) A (ksk_rest a (.ref fL) false items.toArray e1 (.ref kS)) P E s:=by
 have li:items.length=ms.length:=by have:=hi.length;simp at this;exact this.symm
 unfold ksk_rest
 refine wpAny_bind (wpAny_rule ?_)
 first
  | rw [List.forIn_toArray]
  | (rw [←Array.forIn_toList];simp only [List.toList_toArray])
  | rw [←Array.forIn_toList]
 refine wpAny_bind (ksk_fold (fun i s'=>∃H' kA e,Inv X ((kS,seqObj "list" kA e)::(a,seqObj "list" #[] e1)::ps) σ H' s'∧aK H H'∧Paired (yI H') kA.toList (ms.take i)) items 0 s
  ⟨H,#[],0,I,fun _ _ z=>z,by simpa using Paired.nil⟩ ?step ?done)
 case step=>
  rintro j x s' hx ⟨H',kA,e,I',sm,hk⟩
  simp only [Nat.zero_add]at hk ⊢
  have hj:j<items.length:=(List.getElem?_eq_some_iff.mp hx).1
  obtain ⟨q,hq⟩:∃q,ms[j]?=some q:=⟨_,List.getElem?_eq_getElem (by omega)⟩
  obtain ⟨u,hu,ru⟩:=hi.get (i:=j) (x:=V.int (j:Nat)) (by rw [List.getElem?_map,List.getElem?_range (by omega)];rfl)
  rw [hx]at hu;cases hu
  have hz:kA.size≤16:=by
   have h1:=bC hk
   rw [Array.length_toList,List.length_take]at h1
   omega
  refine wpAny_bind (wpAny_attempt (wpAny_mono (hc _ s' H' j q x (List.mem_cons_of_mem _ (List.mem_cons_of_mem _ hfo)) I' sm hq ru) (fun v s'' ce=>?_) fun _ _ hF=>hF.elim))
  obtain ⟨v',H2,I2,rv,⟨t,e3,ht⟩,sm2⟩:=I'.after ce
  subst e3
  obtain rfl:v=Value.ref t:=rv
  try dsimp only
  have nk:=(I2.pin (kS,seqObj "list" kA e) (List.mem_append_right _ List.mem_cons_self)).1
  have s1:=Heap.SameBut.update s''.heap kS (Obj.mapSeq (·.push (.ref t)))
  obtain ⟨c2,hc2⟩:∃c2,(s''.heap.update kS (Obj.mapSeq (·.push (.ref t)))).get? kS=some (seqObj "list" (kA.push (.ref t)) c2):=⟨_,get?_update_seq nk (·.push (.ref t))⟩
  refine wpAny_bind (listUpdate_at nk rfl ?_ (by rw [sizeLine_eq];omega) (Nat.le_trans (Nat.le_of_eq (Array.size_push ..)) (by rw [sizeLine_eq];omega)))
  refine wpAny_pure ⟨rfl,H2,kA.push (.ref t),c2,?_,sm.trans sm2,?_⟩
  ·exact qP (t':=s''.toks) I2 FK (fun c u hc q=>(s1.2 c hc).trans q) hc2 (fun v z=>nomatch z)
  ·have ea:(kA.push (Value.ref t)).toList=kA.toList++[Value.ref t]:=by simp
   rw [ea,take_snoc hq]
   exact Fe (Paired.Y8 hk fun k q x=>x.same sm2) ⟨t,rfl,ht⟩
 case done=>
  rintro s' ⟨H',kA,e,I',sm,hk⟩
  rw [List.take_of_length_le (by omega)]at hk
  have nk:=(I'.pin (kS,seqObj "list" kA e) (List.mem_append_right _ List.mem_cons_self)).1
  have na:=(I'.pin (a,seqObj "list" #[] e1) (List.mem_append_right _ (List.mem_cons_of_mem _ List.mem_cons_self))).2.1
  try dsimp only
  refine wpAny_bind (listItems_at nk rfl ?_)
  exact abM I' FK FA hi hk jM j4 fun R s2 hR J=>h R H' s2 hR sm na J
theorem Z3 {n:Nat} (hc:Sx X A σ H fL fo ms) (I:Inv X ps σ H s) (hfo:(fL,fo)∈ps) (FA:DP X ps a) (ho:s.heap.get? a=some (seqObj "list" items.toArray n)) (haH:H a=none) (haL:a≠X.env.locals) (haf:a∉X.fs)
  (hi:Vals ((List.range ms.length).map fun i=>V.int (i:Nat)) items) (jM:az.bK ms) (j4:ms.length≤16)
  (h:∀R H' s',az.tQ ms R→aK H H'→H' a=none→Inv X ps σ (upd H' a (.lst (lB R))) s'→P (.done (.ret .none)) s') :
  wpAny (model X.prog X.w) A (ksk_tree a (.ref fL) false) P E s:=by
 have li:items.length=ms.length:=by have:=hi.length;simp at this;exact this.symm
 have ha:a<s.heap.objs.size:=Heap.lt_size ho
 have s1:=Heap.SameBut.update s.heap a (Obj.mapSeq fun _=>(#[]:Array Value))
 obtain ⟨e1,ho1⟩:∃e1,(s.heap.update a (Obj.mapSeq fun _=>(#[]:Array Value))).get? a=some (seqObj "list" #[] e1):=⟨_,get?_update_seq ho fun _=>#[]⟩
 have hkS:((s.heap.update a (Obj.mapSeq fun _=>(#[]:Array Value))).push (seqObj "tuple" items.toArray 0)).objs.size=s.heap.objs.size+1:=by rw [size_push',Heap.size_update]
 have I0:Inv X ((a,seqObj "list" items.toArray n)::ps) σ H s:=I.qp fun p hp=>by
  rcases List.mem_cons.1 hp with rfl | hp
  ·exact ⟨ho,haH,haL,haf,fun v z=>nomatch z⟩
  ·exact I.pin p (List.mem_append_right _ hp)
 have I1:=qP (t':=s.toks) I0 FA (fun c u hc q=>(s1.2 c hc).trans q) ho1 (fun v z=>nomatch z)
 have I2:=I1.kept (t':=s.toks) (h':=((s.heap.update a (Obj.mapSeq fun _=>(#[]:Array Value))).push (seqObj "tuple" items.toArray 0)).push (seqObj "list" #[] 0)) fun b u q=>Heap.get?_push_of_some _ (Heap.get?_push_of_some _ q)
 have fresh:s.heap.objs.size≤((s.heap.update a (Obj.mapSeq fun _=>(#[]:Array Value))).push (seqObj "tuple" items.toArray 0)).objs.size:=by rw [hkS];exact Nat.le_succ _
 have I3:Inv X ((((s.heap.update a (Obj.mapSeq fun _=>(#[]:Array Value))).push (seqObj "tuple" items.toArray 0)).objs.size,seqObj "list" #[] 0)::(a,seqObj "list" #[] e1)::ps) σ H
   { s with heap:=((s.heap.update a (Obj.mapSeq fun _=>(#[]:Array Value))).push (seqObj "tuple" items.toArray 0)).push (seqObj "list" #[] 0) }:=I2.qp fun p hp=>by
  rcases List.mem_cons.1 hp with rfl | hp
  ·exact ⟨Heap.get?_push_size _ rfl,I.hok.fresh fresh,Nat.ne_of_gt (Nat.lt_of_lt_of_le I.lt fresh),I.Za fresh,fun v z=>nomatch z⟩
  ·exact I2.pin p (List.mem_append_right _ hp)
 unfold ksk_tree
 refine wpAny_bind (listItems_at ho rfl ?_)
 refine wpAny_bind (listUpdate_at ho rfl ?_ (by rw [List.size_toArray,sizeLine_eq];omega) (Nat.zero_le _))
 refine wpAny_bind (seqEpoch_at ho1 rfl ?_)
 refine wpAny_bind (wpAny_newTuple ?_ (by show items.length≤_;rw [sizeLine_eq];omega))
 refine wpAny_bind (wpAny_newList ?_ (Nat.zero_le _))
 refine wpAny_holding ?_
 refine ZZ (s:={ s with heap:=((s.heap.update a (Obj.mapSeq fun _=>(#[]:Array Value))).push (seqObj "tuple" items.toArray 0)).push (seqObj "list" #[] 0) }) hc I3 hfo ⟨Nat.le_trans I.sz fresh,fun p hp=>?_⟩ FA hi jM j4 h
 have hlt:p.1<s.heap.objs.size:=by
  rcases List.mem_append.1 hp with hp | hp
  ·exact Heap.lt_size (I.pin p (List.mem_append_left _ hp)).1
  ·rcases List.mem_cons.1 hp with rfl | hp
   ·exact ha
   ·exact Heap.lt_size (I.pin p (List.mem_append_right _ hp)).1
 exact Nat.ne_of_lt (Nat.lt_of_lt_of_le hlt fresh)
end
theorem Mt {α β:Type} {F:α→β→Prop}:∀{l:List α} {m:List β},l.length=m.length→(∀(i:Nat) (a:α) (b:β),l[i]?=some a→m[i]?=some b→F a b)→Paired F l m
 | [],[],_,_=>.nil
 | [],_::_,h,_=>by simp at h
 | _::_,[],h,_=>by simp at h
 | a::l,b::m,h,k=>.cons (k 0 a b rfl rfl) (Mt (by simpa using h) fun i x y hx hy=>k (i+1) x y (by simpa using hx) (by simpa using hy))
theorem Z4 {acc:Array Value} {n:Nat} (h1:acc.size=n) (h2:∀(j:Nat) (v:Value),acc[j]?=some v→∃t,v=Value.int (0+(j:Int)*1) t):Vals ((List.range n).map fun i=>V.int (i:Nat)) acc.toList:=by
 refine Mt (by simp [h1]) fun i a b ha hb=>?_
 rw [List.getElem?_map]at ha
 have hi:i<n:=by
  rw [←h1]
  rw [Array.getElem?_toList]at hb
  exact (Array.getElem?_eq_some_iff.1 hb).1
 rw [List.getElem?_range hi]at ha
 cases ha
 rw [Array.getElem?_toList]at hb
 obtain ⟨t,ht⟩:=h2 i b hb
 refine ⟨t,?_⟩
 rw [ht]
 congr 1
 omega
section
variable {prog:Program} {w:World} {A:Around} {E:Value→Shared→Prop} {s:Shared}
theorem Oz {r:Addr} {n:Nat} {t u v:Tok} {Q:List Value→Shared→Prop} (hh:A.handled=none) (hr:IsRange s.heap r 0 n 1 t u v) (hn:n≤16)
  (h:∀h' tk vs,(∀b o,s.heap.get? b=some o→h'.get? b=some o)→Vals ((List.range n).map fun i=>V.int (i:Nat)) vs→Q vs { s with heap:=h',toks:=tk }) :
  wpAny (model prog w) A (collect (.ref r)) Q E s:=by
 unfold collect
 refine wpAny_bind (wpAny_runValue (codeAny_builtin entry_proto_collect' ?_))
 show wpAny _ _ (do again (.builtin "list.__iadd__" ⟨[←newList [],.ref r],[]⟩)) _ _ s
 refine wpAny_bind (wpAny_newList (wpAny_pure ⟨Code.quiet_builtin _ (by decide +kernel),codeAny_builtin entry_list_iadd' ?_⟩))
 show wpAny _ _ (Builtin.List.listExtendWith (.ref s.heap.objs.size) (.ref r) (.ref s.heap.objs.size)) _ _ { s with heap:=s.heap.push (seqObj "list" #[] 0) }
 rw [Around.under_plainId (by decide +kernel) _]
 refine wpAny_extend_range (R:=fun r s'=>match r with | .ok (.ret v)=>wpAny (model prog w) A (match v with | .ref a=>(do let o ←load a;match o.data with | .seq xs _=>pure xs.toList | _=>unsupported "internal:collect") | _=>unsupported "internal:collect") Q E s' | .ok _=>False | .error e=>E e s') (s:={ s with heap:=s.heap.push (seqObj "list" #[] 0) }) (n:=n) hh (Heap.get?_push_of_some _ hr) (small_one (by omega) (by omega) (by omega) (by omega)) (by rw [rangeSize_one];split<;>omega) (by omega) s.heap.objs.size (.ref s.heap.objs.size) 0 (Heap.get?_push_size _ rfl) fun h' tk acc c' hk hS hacc=>?_
 show wpAny (model prog w) A (do
   let o ←load s.heap.objs.size
   match o.data with
   | .seq xs _=>pure xs.toList
   | _=>unsupported "internal:collect") Q E { s with heap:=h',toks:=tk }
 refine wpAny_bind (wpAny_load hS ?_)
 refine wpAny_pure (h h' tk acc.toList (fun b o e=>hk b o (Nat.ne_of_lt (Heap.lt_size e)) (Heap.get?_push_of_some _ e)) ?_)
 exact Z4 hacc.1 hacc.2
end
noncomputable def uK (P:Addr) (pos:Pos) (qual:Str) (H:Hp):Prop:=∃ps,H P=some (.Ja ps)∧TriplesOk ps.toList∧
 (codeAmong pos ps.toList=none∨∃c' oc vs t,codeAmong pos ps.toList=some (.ref c')∧H c'=some (.G4 oc (.own 0))∧oc.data=.fields vs∧vs[1]?=some (.str qual t))
noncomputable def QQ (mg:Str→Option Value) (base:Heap):Prop:=∃bm o,mg "__builtins__" = some (.ref bm)∧bm≠builtinsNs∧base.get? bm=some o∧o.cls=.type "module" ∧ o.dict=some builtinsNs∧o.data=.plain
section
variable {X:Cx} {pins:List (Addr×Obj)} {σ:L2.St} {H:Hp} {s:Shared} {E:Value→Shared→Prop}
theorem abN {P c':Addr} {ps more:Array Value} {oc:Obj} {h':Heap} {tk:Nat} (I:Inv X pins σ H s) (hP:H P=some (.Ja ps)) (hx:Heap.ExtBut P s.heap h') (hge:s.heap.objs.size≤c') (hoc:h'.get? c'=some oc)
  (htb:h'.get? P=some (PySem.W.tabObj (ps++more))):Inv X pins σ (upd (upd H P (.Ja (ps++more))) c' (.G4 oc (.own 0))) { s with heap:=h',toks:=tk }:=by
 have hcn:H c'=none:=I.hok.fresh hge
 have hPc:P≠c':=bw hP hcn
 have ne1:∀b u,s.heap.get? b=some u→b≠c':=fun b u e=>Nat.ne_of_lt (Nat.lt_of_lt_of_le (Heap.lt_size e) hge)
 have neP:∀b,H b=none→b≠P:=fun b e z=>by rw [z,hP]at e;cases e
 have neH:∀b u,H b=some u→(∀q,u≠.Ja q)→upd (upd H P (.Ja (ps++more))) c' (.G4 oc (.own 0)) b=some u:=fun b u e n=>by
  rw [aJ (bw e hcn),aJ];exact e
  rintro rfl;rw [hP]at e;cases e;exact n _ rfl
 refine I.un ⟨fun b u e n _ _=>hx b u (neP b n) e,fun b u e n _ _=>⟨u.slots,hx b u (neP b n) e⟩,fun b u e n _=>by rw [aJ (ne1 b u e),aJ (neP b n)];exact n,fun b u e _=>?_,
  fun b xs e=>neH b _ e (by intro q z;cases z),fun b o u e=>neH b _ e (by intro q z;cases z),fun b q e=>?_⟩ (fun b u e=>?_)
 ·by_cases hb:b=P
  ·subst hb;exact ⟨_,htb⟩
  ·exact ⟨u,hx b u hb e⟩
 ·by_cases hb:b=P
  ·subst hb
   rw [hP]at e;cases e
   exact ⟨more,by rw [aJ hPc,aA]⟩
  ·exact ⟨#[],by rw [aJ (bw e hcn),aJ hb,e];simp⟩
 ·by_cases hbc:b=c'
  ·subst hbc
   rw [aA]at e;cases e
   exact ⟨hoc,oc,hoc⟩
  ·rw [aJ hbc]at e
   by_cases hb:b=P
   ·subst hb
    rw [aA]at e;cases e
    exact htb
   ·rw [aJ hb]at e
    refine (I.hok b u e).stay (fun d v hd q=>hx d v ?_ q) (fun d q=>neH d _ q (by intro q z;cases z)) (fun d xs q=>neH d _ q (by intro q z;cases z))
    rcases hd with rfl | hd
    ·exact hb
    ·rintro rfl;rw [hP]at hd;cases hd
theorem abO {params:Arguments} {body:Expr} {scope:Scope} {aeL:Pos} {y:Str} {c cc P:Addr} {qual:Str} {Q:Value→Shared→Prop} (I:Inv X pins σ H s)
  (hdef:defaultsOf params X.env=([],[])) (hcl:closureFor scope X.env=pure [(y,c)]) (hcode:X.env.code=.ref cc) (hhd:PySem.W.codeHdIn X.K cc P=true) (hq:X.env.qual ++ "<lambda>" = qual)
  (hb:QQ X.mg X.base) (tab:uK P aeL qual H)
  (h:∀fL c' ctv oc vs t h' tk H',(∀b o,b≠P→s.heap.get? b=some o→h'.get? b=some o)→KT H H'→uK P aeL qual H'→H' c'=some (.G4 oc (.own 0))→oc.data=.fields vs→vs[1]?=some (.str qual t)→
   Inv X ((fL,PySem.W.kla_obj "<lambda>" qual params body scope [(y,c)] ((X.mg "__name__").getD .none) c' ctv)::pins) σ H' { s with heap:=h',toks:=tk }→Q (.ref fL) { s with heap:=h',toks:=tk }) :
  wpAny (model X.prog X.w) X.A (eval (.Lambda params body scope aeL) X.env) Q E s:=by
 subst hq
 obtain ⟨ps,hP,htr,hcase⟩:=id tab
 have hP':s.heap.get? P=some (PySem.W.tabObj ps):=I.hok P _ hP
 have CH:PySem.W.CodeHd s.heap cc P:=PySem.W.codeHd_of_K I.Tt hhd
 have hgs:=I.mod.glob.keeps I.bk
 have hgP:mainGlobals≠P:=fun z=>by
  obtain ⟨o,es,ep,e,hd,_⟩:=I.mod.glob
  have:=(I.bs _ _ e).2
  rw [z,hP]at this;cases this
 obtain ⟨bm,ob,b1,b2,b3,b4,b5,b6⟩:=hb
 have hbP:bm≠P:=fun z=>by
  have:=(I.bs _ _ b3).2
  rw [z,hP]at this;cases this
 have hbG:bm≠mainGlobals:=fun z=>by
  obtain ⟨o,es,ep,e,hd,_⟩:=I.mod.glob
  rw [z,e]at b3;cases b3;rw [hd]at b6;cases b6
 have hbA:s.heap.BuiltinsAt X.mg P:=⟨bm,ob,b1,b2,hbG,hbP,I.bk _ _ b3,b4,b5,b6⟩
 refine PySem.W.kla_eval hdef ?_
 rcases hcase with hnf | ⟨c',oc,vs,t,hf,hc',hd,hv⟩
 ·refine PySem.W.kla_makeFunction (mg:=X.mg) hcl I.ok.glob hgs hcode CH hP' htr hnf hgP hbA fun c' ctv h' tk hx hge hlt hrec htb=>?_
  obtain ⟨c2,oc,vs,t,e2,hoc,hd,hv⟩:=hrec
  cases e2
  have I1:=abN (tk:=tk) I hP hx hge hoc htb
  have hPc:P≠c':=bw hP (I.hok.fresh hge)
  have I2:=I1.kept (t':=tk) (h':=h'.push (PySem.W.kla_obj "<lambda>" (X.env.qual ++ "<lambda>") params body scope [(y,c)] ((X.mg "__name__").getD .none) c' ctv)) fun b u q=>Heap.get?_push_of_some _ q
  have I3:Inv X ((h'.objs.size,PySem.W.kla_obj "<lambda>" (X.env.qual ++ "<lambda>") params body scope [(y,c)] ((X.mg "__name__").getD .none) c' ctv)::pins) σ _ { s with heap:=h'.push (PySem.W.kla_obj "<lambda>" (X.env.qual ++ "<lambda>") params body scope [(y,c)] ((X.mg "__name__").getD .none) c' ctv),toks:=tk }:=I2.qp fun p hp=>by
   rcases List.mem_cons.1 hp with rfl | hp
   ·exact ⟨Heap.get?_push_size _ rfl,I1.hok.fresh (Nat.le_refl _),Nat.ne_of_gt I1.lt,I1.Za (Nat.le_refl _),fun v z=>nomatch z⟩
   ·exact I2.pin p (List.mem_append_right _ hp)
  refine h h'.objs.size c' ctv oc vs t _ tk _ (fun b o hb e=>Heap.get?_push_of_some _ (hx b o hb e)) ⟨fun b o e n=>?_,fun b e=>?_⟩ ⟨_,by rw [aJ hPc,aA],?_,.inr ⟨c',oc,vs,t,?_,aA,hd,hv⟩⟩ aA hd hv I3
  ·rw [aJ (bw e (I.hok.fresh hge)),aJ]
   ·exact e
   ·rintro rfl;rw [hP]at e;cases e;exact n _ rfl
  ·by_cases hbc:b=c'
   ·subst hbc;rw [aA]at e;cases e
   ·rw [aJ hbc]at e
    by_cases hb:b=P
    ·subst hb;rw [aA]at e;cases e
    ·rw [aJ hb]at e;exact e
  ·rw [Array.toList_append];exact TriplesOk_snoc _ _ _ _ htr
  ·rw [Array.toList_append];exact codeAmong_snoc _ htr hnf
 ·refine PySem.W.kla_makeFunctionHit (mg:=X.mg) hcl I.ok.glob hgs hcode CH hP' htr hf hbA fun ctv h' tk hk hsz=>?_
  have I2:=I.kept (t':=tk) (h':=h'.push { cls:=.type "function",data:=.func (PySem.W.kla_fn "<lambda>" (X.env.qual ++ "<lambda>") params body scope [(y,c)] ((X.mg "__name__").getD .none) (.ref c') ctv) }) fun b u q=>Heap.get?_push_of_some _ (hk b u q)
  have I3:Inv X ((h'.objs.size,PySem.W.kla_obj "<lambda>" (X.env.qual ++ "<lambda>") params body scope [(y,c)] ((X.mg "__name__").getD .none) c' ctv)::pins) σ _ { s with heap:=h'.push { cls:=.type "function",data:=.func (PySem.W.kla_fn "<lambda>" (X.env.qual ++ "<lambda>") params body scope [(y,c)] ((X.mg "__name__").getD .none) (.ref c') ctv) },toks:=tk }:=I2.qp fun p hp=>by
   rcases List.mem_cons.1 hp with rfl | hp
   ·exact ⟨Heap.get?_push_size _ rfl,I.hok.fresh hsz,Nat.ne_of_gt (Nat.lt_of_lt_of_le I.lt hsz),I.Za hsz,fun v z=>nomatch z⟩
   ·exact I2.pin p (List.mem_append_right _ hp)
  exact h h'.objs.size c' ctv oc vs t _ tk _ (fun b o _ e=>Heap.get?_push_of_some _ (hk b o e)) ⟨fun b o e _=>e,fun b e=>e⟩ tab hc' hd hv I3
end
section
variable {X:Cx} {ps:List (Addr×Obj)} {σ:L2.St} {H:Hp} {s:Shared} {A:Around} {fL r:Addr} {fo:Obj} {ms:List Pt} {Q:Value→Shared→Prop} {E:Value→Shared→Prop} {t u v:Tok}
theorem Xm (hc:Sx X A.in1.in1 σ H fL fo ms) (I:Inv X ps σ H s) (hfo:(fL,fo)∈ps) (hr:IsRange s.heap r 0 ms.length 1 t u v) (hh:A.handled=none) (jM:az.bK ms) (j4:ms.length≤16)
  (h:∀R H' p s',az.tQ ms R→aK H H'→H p=none→H' p=none→Inv X ps σ (upd H' p (.lst (lB R))) s'→Q (.ref p) s') :
  wpAny (model X.prog X.w) A (call (.builtin "sorted") [.ref r] [(Str.ofString "key",.ref fL)]) Q E s:=by
 refine call_function_entry_kw kind_sorted plain_sorted entry_sorted (ksk_s1 _ _) ?_
 unfold Builtin.«sorted»
 refine wpAny_bind (m:=checkCount "sorted" 1 1 _) (wpAny_pure ?_)
 refine wpAny_bind (Oz hh hr j4 fun h' tk vs hk hv=>?_)
 have lv:vs.length=ms.length:=by have:=hv.length;simp at this;exact this.symm
 refine wpAny_bind (wpAny_newList ?_ (by rw [lv,sizeLine_eq];omega))
 have I1:=I.kept (t':=tk) (h':=h') hk
 have I2:=I1.kept (t':=tk) (h':=h'.push (seqObj "list" vs.toArray 0)) fun b u q=>Heap.get?_push_of_some _ q
 refine wpAny_bind (wpAny_holding (wpAny_call_entry_kw (rest:=[]) slot_list_sort ⟨_,Heap.get?_push_size _ rfl,rfl⟩ entry_list_sort ?body (ksk_l1 _ _)))
 case body=>
  show wpAny (model X.prog X.w) A.in1.in1 (Builtin.«list.sort» ⟨[.ref h'.objs.size],[(Str.ofString "key",.ref fL)]⟩) _ _ _
  rw [ksk_t1]
  refine Z3 (s:={ s with heap:=h'.push (seqObj "list" vs.toArray 0),toks:=tk }) hc I2 hfo ⟨I1.sz,fun p hp=>Nat.ne_of_lt (Heap.lt_size (I1.pin p hp).1)⟩ (Heap.get?_push_size _ rfl) (I1.hok.fresh (Nat.le_refl _)) (Nat.ne_of_gt I1.lt) (I1.Za (Nat.le_refl _)) hv jM j4 fun R H' s' hR sm hn J=>⟨_,rfl,?_⟩
  exact wpAny_pure ⟨_,rfl,h R H' _ s' hR sm (I1.hok.fresh (Nat.le_refl _)) hn J⟩
end
theorem boot_sorted:bootBuiltins "sorted" = some (.builtin "sorted"):=by decide +kernel
theorem uK.same {Pa:Addr} {pos:Pos} {qual:Str} {H H':Hp} (h:uK Pa pos qual H) (e:aK H H'):uK Pa pos qual H':=by
 obtain ⟨ps,h1,h2,h3⟩:=h
 refine ⟨ps,e _ _ h1,h2,h3.imp id ?_⟩
 rintro ⟨c',oc,vs,t,a,b,c⟩
 exact ⟨c',oc,vs,t,a,e _ _ b,c⟩
noncomputable abbrev lamOf:Expr→Expr
 | .Call _ _ [⟨_,e,_⟩] _=>e
 | e=>e
noncomputable abbrev ac4:Expr→Expr
 | .Lambda _ b _ _=>b
 | e=>e
noncomputable abbrev Vz:Expr→Scope
 | .Lambda _ _ s _=>s
 | _=>(default:Scope)
noncomputable abbrev Mu:Expr→Pos
 | .Lambda _ _ _ p=>p
 | _=>⟨0,0,0,0⟩
noncomputable abbrev aeM:Expr→List Expr
 | .Call _ a _ _=>a
 | _=>[]
noncomputable abbrev abP:List Stmt→Expr
 | [.Return (some e) _]=>e
 | _=>.Name "x" ⟨0,0,0,0⟩
section
variable {P:Program} {w:World} {K:PySem.W.Frag} {mg:Str→Option Value} {base:Heap} {f:Addr} {fd:FuncData} {TB:Hp→Prop}
noncomputable abbrev cJ:Stmt:=top 24
theorem DR:aW ["marks"] ["marks"] (aF cJ):=⟨rfl,rfl,rfl,by decide +kernel,rfl,by decide +kernel,by decide +kernel⟩
noncomputable abbrev yJ:Expr:=lamOf (abP (iZ cJ))
theorem Z5:Mr "number" "marks" (Vz yJ):=⟨rfl,rfl,rfl,by decide,rfl,rfl,by decide +kernel,by decide +kernel⟩
theorem abQ {X:Cx} {A:Around} {qual:Str} {f c c':Addr} {s:Shared} {H:Hp}:∃t,PE (cxL X A ["number","marks"] qual (Vz yJ) f (.ref c') [("marks",c)] s H) (ac4 yJ) t∧
  ∀(i:Nat) (am:Addr) (ms:List Pt) (q:Pt) (H:Hp) (Q:VK),cu H am ms→ms[i]?=some q→(∀p,H p=none→Q (.ref p) (upd H p (.tup [.int q.x,.int (-q.y)])))→t [some (.int (i:Nat)),some (.ref am)] H Q:=by
 refine ⟨_,tX (aj (bA cQ (bA bB (pv 1) (pv 0) (fun _ _=>rfl)) aG (fun _ _=>rfl)) (aj (o8 jj (bA cQ (bA bB (pv 1) (pv 0) (fun _ _=>rfl)) aG (fun _ _=>rfl))) ak)),?_⟩
 intro i am ms q H Q ⟨as,hl,hp⟩ hq k
 obtain ⟨ax,hax,px⟩:=bc hp hq
 have i1:oO (as.map V.ref) (i:Int)=some (.ref ax):=at_of (j:=i) (by omega) (by rw [List.getElem?_map,hax];rfl)
 open_ks with [gj,px.iff]
 exact ⟨_,b7.of hl,_,i1,ax,rfl,q,px,_,b7.of hl,_,i1,ax,rfl,q,px,by decide,k⟩
theorem Z6 {X:Cx} {a:Expr} {ta:TA} {p pos:Pos} (hg:Gl X "range") (hm:X.mg "range" = none) (ha:PA X [a] ta) (hs:starEach [a] X.env=[(false,eval a X.env)]:=by rfl) :
  PE X (.Call (.Name "range" p) [a] [] pos) (fun σ H Q=>ta σ H fun vs H1=>∃n:Nat,vs=[.int n]∧∀r,H1 r=none→Q (.ref r) (upd H1 r (.rng 0 n))):=by
 intro pins s σ H Q I h
 refine wpAny_Call_Name_kw (tV I hg hm boot_range (PyProof.Rows.callWith_type1 (fW (ha pos pins s σ H _ I h) fun us s1 ⟨vs,H1,I1,r1,q1⟩=>?_) hs rfl))
 obtain ⟨n,e,q⟩:=q1
 subst e
 cases r1 with
 | cons r rr=>
  cases rr
  obtain ⟨t,rfl⟩:=r
  refine call_range_1 ?_
  exact ⟨.ref _,upd H1 s1.heap.objs.size (.rng 0 n),I1.laid (t':=s1.toks+1+1) (fun b u e=>Heap.get?_push_of_some _ e) (Nat.le_refl _) ⟨_,_,_,Heap.get?_push_size _ rfl⟩,rfl,q _ (I1.hok.fresh (Nat.le_refl _))⟩
noncomputable abbrev wI:Str := "rays_from_west" ++ ".<locals>." ++ "<lambda>"
theorem DW {Pa:Addr} (t1:∀H,TB H→uK Pa (Mu yJ) wI H) (t2:∀H H',TB H→KT H H'→uK Pa (Mu yJ) wI H'→TB H') (hbl:QQ mg base)
  (F:cI K "rays_from_west" "rays_from_west" cJ f fd) (hcc:∃cc,fd.code=.ref cc∧PySem.W.codeHdIn K cc Pa=true) (T:Txt mg):cz P w K mg base fH 8 f fd ["marks"] (Sv TB):=by
 obtain ⟨oc,od,kV,doc,pm,an,cdv,ct,osl,rfl,lk,hcd⟩:=F.ex
 obtain ⟨cc,ecc,hhd⟩:=hcc
 have ecc:cdv=.ref cc:=ecc
 subst ecc
 refine adx lk hcd DR (fun vs H Q E h=>?_) fun A outer s H vs Q E hr hsp=>?_
 ·obtain ⟨am,ms,rfl,_⟩:=h
  rfl
 ·obtain ⟨am,ms,rfl,hm,jM,j4,tb,k⟩:=hsp
  have pe:PE (J2 fH P w K mg base ["marks"] "rays_from_west" (aF cJ) f (.ref cc) A outer s H E).nox (abP (iZ cJ)) (fun σ H0 Q0=>σ=[some (.ref am)]∧H0=H∧Q0=Q):=by
   rintro pins s1 σ H0 Q0 I ⟨rfl,rfl,rfl⟩
   have harg:PA (J2 fH P w K mg base ["marks"] "rays_from_west" (aF cJ) f (.ref cc) A outer s H0 E).nox (aeM (abP (iZ cJ))) _:=aj (Z6 rfl T.vI (aj (bF aZ (by rfl) T.cZ PySem.boot_len (aj (pv 0) ak)) ak)) ak
   refine wpAny_Call_Name_kw (tV I rfl T.abn boot_sorted ?_)
   refine callWith_kw (fW (harg _ pins s1 _ H0 (fun vs H1=>∃r,vs=[.ref r]∧H0 r=none∧H1=upd H0 r (.rng 0 ms.length)) I ?_) ?_)
   ·obtain ⟨as,hl,hp⟩:=hm
    open_ks with []
    exact ⟨_,.inl (b7.of hl),ms.length,by rw [List.length_map,bC hp],fun r hr=>⟨hr,rfl⟩⟩
   ·rintro us s2 ⟨vs,H1,I1,rv,r,rfl,hrn,rfl⟩
    obtain ⟨u0,rfl,ru⟩:=vals1 rv
    obtain rfl:u0=Value.ref r:=ru
    have sm0:aK H0 (upd H0 r (.rng 0 ms.length)):=aK.new hrn
    refine kws_cons (abO (y := "marks") (c:=s.heap.objs.size+1) (qual:=wI) I1 rfl rfl rfl hhd rfl hbl ((t1 _ tb).same sm0) fun fL c' ctv oc vs t h' tk H' hk kt ahU hc' hd hv I2=>kws_nil ?_)
    show wpAny _ _ (call (.builtin "sorted") [.ref r] [(Str.ofString "key",.ref fL)]) _ _ _
    have hr':H' r=some (.rng 0 ms.length):=kt.kp _ _ aA (by intro _ z;cases z)
    obtain ⟨t0,u1,v0,hrr⟩:=I2.hok r _ hr'
    have hm':cu H' am ms:=(hm.same sm0).kt kt
    have hA:=hr.in1.in1
    refine Xm (fun ps' s' H2 i q u hmem I' sm hq ru=>?_) I2 List.mem_cons_self hrr hr.hd jM j4 fun R H'' p s' hR sm hpn ahV J=>?_
    ·obtain ⟨tt,hpe,hrd⟩:=abQ (X:=(J2 fH P w K mg base ["marks"] "rays_from_west" (aF cJ) f (.ref cc) A outer s H0 E).nox) (A:=(J2 fH P w K mg base ["marks"] "rays_from_west" (aF cJ) f (.ref cc) A outer s H0 E).nox.A.in1.in1) (qual:=wI) (f:=fL) (c:=s.heap.objs.size+1) (c':=c') (s:=s') (H:=H2)
     obtain ⟨m,hn,hl⟩:=I'.loc
     obtain ⟨uy,ry,hlook⟩:=hl 0 "marks" (.ref am) rfl rfl (Or.inr (Or.inl rfl))
     have hcell:s'.heap.IsCell (s.heap.objs.size+1) (some uy):=by
      rcases hlook with ⟨z,_⟩ | ⟨_,c2,e2,hc2⟩
      ·exact absurd (show some NameKind.cell=some NameKind.local from z) (by decide)
      ·have:some (s.heap.objs.size+1)=some c2:=e2
       cases this
       exact hc2
     refine abK I' I'.ok.frames hA Z5 (I'.pin _ (List.mem_append_right _ hmem)).1 ⟨c',oc,vs,t,rfl,(I'.hok c' _ (sm _ _ hc')).1,hd,hv⟩ rfl hcell ry ru (I'.wK "marks" _ rfl) hpe ?_
     exact hrd i am ms q H2 _ (hm'.same sm) hq fun p hp=>⟨⟨p,rfl,aA⟩,aK.new hp⟩
    ·have hpr:p≠r:=fun z=>by rw [z,hr']at hpn;cases hpn
     have hp0:H0 p=none:=by have:=kt.free p hpn;rw [aJ hpr]at this;exact this
     have sm2:aK H'' (upd H'' p (.lst (lB R))):=aK.new ahV
     have kt2:KT H0 (upd H'' p (.lst (lB R))):=⟨fun b o e n=>sm2 _ _ (sm _ _ (kt.kp _ _ (sm0 _ _ e) n)),fun b e=>sm0.free (kt.free b (sm.free (sm2.free e)))⟩
     exact ⟨.ref p,_,DQ J,rfl,k _ p R hp0 aA hR kt2 (t2 _ _ tb kt2 ((ahU.same sm).same sm2))⟩
  exact ⟨_,(aB (aH pe)).nox,rfl,rfl,rfl⟩
end
theorem Z7:typeLookup (.type "list_reverseiterator") "__len__" = pure none:=by rw [typeLookup_type,builtinLookup_eq_fast];kernel_rfl
theorem abR:typeLookup (.type "list_reverseiterator") "__length_hint__" = pure (some (.builtin "list_reverseiterator.__length_hint__")):=by rw [typeLookup_type,builtinLookup_eq_fast];kernel_rfl
section
variable {prog:Program} {w:World} {A:Around} {E:Value→Shared→Prop} {s:Shared} {R:Result→Shared→Prop} {I:Addr} {fp wr:List Addr} {G:Array GenState→Array GenState→Prop} {n:Nat} {P:Nat→Value→Prop} {St:Nat→Shared→Prop}
theorem Xn (W:WalksS prog w A.in1 I fp wr G n P St) (hT:∀i s,St i s→s.TypeIs (.ref I) "list_reverseiterator") (S:Addr) (res:Value) (c₀:Nat) (hst:St 0 s) (hSf:S∉fp) (hI:I∈fp)
  (hS:s.heap.get? S=some { cls:=.type "list",data:=.seq #[] c₀ })
  (hR:∀s' acc' c',Moved (S::wr) G s s'→s'.heap.get? S=some { cls:=.type "list",dict:=none,data:=.seq acc' c',slots:=#[] }→ItemsOf P acc' n→R (.ok (.ret res)) s') (hn:n≤sizeLine) :
  wpAny (model prog w) A.in1 (Builtin.List.listExtendWith (.ref S) (.ref I) res)
   (fun fin s'=>match fin with | .done f=>R (.ok f) s' | .again c'=>c'.quiet=true∧codeAny (model prog w) A c' R s') (fun e s'=>R (.error e) s') s:=by
 have hSI:S≠I:=fun e=>hSf (e▸hI)
 have h1:Builtin.List.listSameRef (.ref S) (.ref I)=false:=by simp [Builtin.List.listSameRef,hSI]
 unfold Builtin.List.listExtendWith
 refine wpAny_bind (wpAny_typeOf (hT 0 _ hst) ?_)
 rw [if_neg (by rw [h1];decide)]
 refine wpAny_bind (W.self 0 _ _ _ hst ?_)
 refine wpAny_bind (wpAny_holding ?_)
 unfold Builtin.List.listLengthHint
 refine wpAny_bind (wpAny_specialOf (hT 0 _ hst) Z7 ?_)
 show wpAny _ A.in1 (specialOf (Value.ref I) (Str.ofString "__length_hint__") >>= _) _ _ _
 refine wpAny_bind (wpAny_specialOf (hT 0 _ hst) abR ?_)
 (generalize hid:("list_reverseiterator.__length_hint__" : String)=id0;(fail_if_success (clear hid id0));wp_delta;rw [show splitId id0=some ("list_reverseiterator","__length_hint__") from by subst hid;decide +kernel];subst hid)
 refine wpAny_bind (wpAny_isInstance (b:=true) (hT 0 _ hst) (by rw [isSubtype_type];kernel_rfl) ?_)
 refine wpAny_pure ?_
 rw [if_neg (by decide)]
 exact wpAny_pure ⟨plainId_quiet F.plain_extend_loop _,codeAny_extend_loopS W hn _ hSf _ n 0 _ _ _ rfl (Nat.zero_le _) hst hS (ItemsOf.nil P) fun s' acc' c' hm hS' hacc=>hR s' acc' c' hm hS' hacc⟩
theorem OD {Q:Value→Shared→Prop} (W:WalksS prog w A.in1.in1 I fp wr G n P St) (hT:∀i s,St i s→s.TypeIs (.ref I) "list_reverseiterator") (hst:St 0 s) (hfp:∀b∈fp,b<s.heap.objs.size) (hI:I∈fp)
  (hQ:∀s' acc' c',Moved (s.heap.objs.size::wr) G { s with heap:=s.heap.push { cls:=.type "list",data:=.seq #[] } } s'→
   s'.heap.get? s.heap.objs.size=some { cls:=.type "list",dict:=none,data:=.seq acc' c',slots:=#[] }→ItemsOf P acc' n→Q (.ref s.heap.objs.size) s') (hn:n≤sizeLine) :
  wpAny (model prog w) A (call (.type "list") [.ref I]) Q E s:=by
 have hSf:s.heap.objs.size∉fp:=fun hm=>Nat.lt_irrefl _ (hfp _ hm)
 refine callType_codes (Q₁:=fun obj s₁=>obj=.ref s.heap.objs.size∧s₁={ s with heap:=s.heap.push { cls:=.type "list",data:=.seq #[] } }) F.called_list (F.typeCall_list_1 _) F.entry_list_init
  (code_list_new _ ⟨rfl,rfl⟩) fun obj s₁ h₁=>?_
 obtain ⟨rfl,rfl⟩:=h₁
 have hS:(s.heap.push { cls:=.type "list",data:=.seq #[] }).get? s.heap.objs.size=some { cls:=.type "list",data:=.seq #[] }:=Heap.get?_push_size _ rfl
 refine ⟨⟨_,hS,rfl⟩,F.args_list_init_2 _ _,?_⟩
 have hst₁:=W.frame 0 s (s.heap.push { cls:=.type "list",data:=.seq #[] }) s.toks hst (Nat.le_refl _) fun b _ o e=>Heap.get?_push_of_some _ e
 show wpAny _ A.in1.in1 (do let old ←Builtin.List.listItems (.ref s.heap.objs.size);Builtin.List.listUpdate (.ref s.heap.objs.size) (fun _=>#[]);letGo old.toList.reverse;Builtin.List.listExtendWith (.ref s.heap.objs.size) (.ref I) .none) _ _ _
 refine wpAny_bind ?_
 unfold Builtin.List.listItems
 refine wpAny_bind (wpAny_seqItems hS rfl (wpAny_pure ?_))
 show wpAny _ A.in1.in1 (updateSeq s.heap.objs.size (fun _=>#[]) >>= fun _=>letGo (#[]:Array Value).toList.reverse >>= fun _=>Builtin.List.listExtendWith (.ref s.heap.objs.size) (.ref I) .none) _ _ _
 refine wpAny_bind (wpAny_updateSeq hS rfl ?_)
 have hS₂:=Heap.get?_update_self (Obj.mapSeq (fun _=>(#[]:Array Value))) hS rfl
 have oth:∀b o,b≠s.heap.objs.size→(s.heap.push { cls:=.type "list",data:=.seq #[] }).get? b=some o→((s.heap.push { cls:=.type "list",data:=.seq #[] }).update s.heap.objs.size (Obj.mapSeq (fun _=>(#[]:Array Value)))).get? b=some o:=
  fun b o hb e=>(Heap.get?_update_other _ _ (Ne.symm hb)).trans e
 refine wpAny_bind (wpAny_letGo ?_)
 refine Xn (A:=A.in1) (R:=wants (fun r s₂=>r=.none∧Q (.ref s.heap.objs.size) s₂) E) W hT s.heap.objs.size .none _ (W.frame 0 _ _ s.toks hst₁ (Nat.le_refl _) fun b hb o e=>oth b o (fun h=>hSf (h▸hb)) e) hSf hI hS₂ (fun s' acc' c' hm hS' hacc=>⟨rfl,hQ s' acc' c' ?_ hS' hacc⟩) hn
 exact Moved.trans W.gtrans ((Moved.refl W.grefl).then_heap (Nat.le_refl _) fun b o hb e=>oth b o (fun h=>hb (h▸List.mem_cons_self)) e) hm
end
theorem boot_list:bootBuiltins "list" = some (.type "list"):=by decide +kernel
theorem Mv:bootBuiltins "reversed" = some (.type "reversed"):=by decide +kernel
theorem VB:∀{xs:List V} {us:List Value},Vals xs us→Vals xs.reverse us.reverse
 | _,_,.nil=>.nil
 | _,_,.cons r t=>by rw [List.reverse_cons,List.reverse_cons];exact (VB t).append (.cons r .nil)
theorem ac5 {its:List Value} {acc:Array Value} (h:ItemsOf (fun i v=>its.toArray[its.toArray.size-1-i]?=some v) acc its.toArray.size):acc.toList=its.reverse:=by
 obtain ⟨h1,h2⟩:=h
 apply List.ext_getElem?
 intro j
 by_cases hj:j<its.length
 ·have hja:j<acc.size:=by rw [h1,List.size_toArray];exact hj
  have e1:acc.toList[j]?=some acc[j]:=by rw [Array.getElem?_toList];exact Array.getElem?_eq_getElem hja
  have:=h2 j acc[j] (Array.getElem?_eq_getElem hja)
  rw [e1,List.getElem?_reverse hj,←this]
  simp
 ·rw [List.getElem?_eq_none (by rw [Array.length_toList,h1,List.size_toArray];omega),List.getElem?_eq_none (by rw [List.length_reverse];omega)]
noncomputable def adI (K:PySem.W.Frag) (te:TE):TE:=fun σ H Q=>te σ H fun x H1=>∃a xs,x=.ref a∧b7 K H1 a xs∧∀l,H1 l=none→Q (.ref l) (upd H1 l (.lst xs.reverse))
theorem VD {X:Cx} {e:Expr} {te:TE} {p p2 p3 pos:Pos} (hg:Gl X "list") (hm:X.mg "list" = none) (hg2:Gl X "reversed") (hm2:X.mg "reversed" = none) (hE:PE X e te) (hc:X.calm=true:=by rfl)
  (hs:starEach [e] X.env=[(false,eval e X.env)]:=by rfl):PE X (.Call (.Name "list" p) [.Call (.Name "reversed" p2) [e] [] p3] [] pos) (adI X.K te):=by
 intro pins s σ H Q I h
 have hh:=I.ok.hd hc
 refine wpAny_Call_Name_kw (tV I hg hm boot_list (PyProof.Rows.callWith_type1 ?_ rfl rfl))
 refine Calls.spliced_cons ?_
 refine wpAny_Call_Name_kw (tV I hg2 hm2 Mv (PyProof.Rows.callWith_type1 ?_ hs rfl))
 rw [hs]
 show wpAny _ _ (spliced ((false,eval e X.env)::backTo p3 [])) _ _ s
 refine Calls.spliced_cons (fW (hE pins s σ H _ I h) ?_)
 rintro u0 s1 ⟨x,H1,I1,rv,a,xs,rfl,hsq,q⟩
 obtain rfl:u0=Value.ref a:=rv
 refine Calls.spliced_nil ?_
 obtain ⟨its,hv,hl,hz⟩:=I1.list hsq
 have lz:=hv.length
 refine call_reversed_list hl.isList (Calls.spliced_nil ?_)
 have I2:=I1.kept (t':=s1.toks) (h':=s1.heap.push (revObj a ((its.toArray.size:Int)-1))) fun b u e=>Heap.get?_push_of_some _ e
 have hal:a<s1.heap.objs.size:=by obtain ⟨o,ho,_⟩:=hl.isList;exact Heap.lt_size ho
 have hne:a≠s1.heap.objs.size:=Nat.ne_of_lt hal
 have hsz:(s1.heap.push (revObj a ((its.toArray.size:Int)-1))).objs.size=s1.heap.objs.size+1:=size_push' ..
 refine OD (s:={ s1 with heap:=s1.heap.push (revObj a ((its.toArray.size:Int)-1)) }) (Walks.listRev (A:=X.A.in1.in1) hh s1.heap.objs.size a hne its.toArray).toS (fun i s' st=>st.2.1.typeIs) ⟨Nat.zero_le _,⟨_,Heap.get?_push_size _ rfl,rfl,?_⟩,?_⟩ (fun b hb=>?_) List.mem_cons_self (fun s' acc c' hmv hS' hacc=>?_) ?_
 ·show Data.fields _=_
  simp
 ·obtain ⟨o,ho,r⟩:=hl.isList
  exact ⟨o,Heap.get?_push_of_some _ ho,r⟩
 ·show b<(s1.heap.push _).objs.size
  rw [hsz]
  rcases List.mem_cons.1 hb with rfl | hb
  ·exact Nat.lt_succ_self _
  ·rw [List.mem_singleton.1 hb];exact Nat.lt_succ_of_lt hal
 ·have f0:s1.heap.objs.size≤(s1.heap.push (revObj a ((its.toArray.size:Int)-1))).objs.size:=by rw [hsz];exact Nat.le_succ _
  have lt1:∀b o,s1.heap.get? b=some o→b≠s1.heap.objs.size:=fun b o e=>Nat.ne_of_lt (Heap.lt_size e)
  have I3:=I2.turned (it:=s1.heap.objs.size) (h':=s'.heap) (t':=s'.toks) (fun b o hb e=>hmv.heap b o (fun hm=>by
   rcases List.mem_cons.1 hm with z | z
   ·exact absurd (Heap.lt_size e) (by rw [z];exact Nat.lt_irrefl _)
   ·exact hb (List.mem_singleton.1 z)) (Heap.get?_push_of_some _ e)) (I1.hok.fresh (Nat.le_refl _)) (Nat.ne_of_gt I1.lt) (.inr I1.sz) (fun x c e=>by
    obtain ⟨v,o,ho,_⟩:=I1.cell x c e
    exact lt1 c o ho) (fun p hp=>lt1 _ _ (I1.pin p hp).1)
  have hSn:H1 (s1.heap.push (revObj a ((its.toArray.size:Int)-1))).objs.size=none:=I1.hok.fresh f0
  have I4:=I3.qp (pins':=((s1.heap.push (revObj a ((its.toArray.size:Int)-1))).objs.size,{ cls:=.type "list",dict:=none,data:=.seq acc c',slots:=#[] })::pins) fun p hp=>by
   rcases List.mem_cons.1 hp with rfl | hp
   ·exact ⟨hS',hSn,Nat.ne_of_gt (Nat.lt_of_lt_of_le I1.lt f0),I1.Za f0,fun v z=>nomatch z⟩
   ·exact I3.pin p (List.mem_append_right _ hp)
  rw [Moved.eq_with hmv]
  have hacc':=ac5 hacc
  have I5:=adopt (t':=s'.toks) (h':=s'.heap) (u:=.lst xs.reverse) I4 ⟨Nat.le_trans I1.sz f0,fun p hp=>Nat.ne_of_lt (Nat.lt_of_lt_of_le (Heap.lt_size (I1.pin p hp).1) f0)⟩ (fun c u _ e=>e) hS' ⟨by rw [List.length_reverse];exact hz,acc.toList,c',by rw [hacc'];exact VB hv,by rw [hS']⟩
  exact ⟨.ref _,_,I5,rfl,q _ hSn⟩
 ·rw [List.size_toArray,←lz];exact hz
theorem Mw {α β:Type} {F:α→β→Prop}:∀{l:List α} {m:List β},Paired F l m→Paired F l.reverse m.reverse
 | _,_,.nil=>.nil
 | _,_,.cons r t=>by rw [List.reverse_cons,List.reverse_cons];exact Fe (Mw t) r
section
variable {P:Program} {w:World} {K:PySem.W.Frag} {mg:Str→Option Value} {base:Heap} {f:Addr} {fd:FuncData} {CC CR CN CT:Addr} {TB:Hp→Prop}
noncomputable abbrev oH:Stmt:=top 86
theorem tO:aW ["chart","reader","t"] ["chart","reader"] (aF oH):=⟨rfl,rfl,rfl,by decide +kernel,rfl,by decide +kernel,by decide +kernel⟩
theorem DX (st:za TB) (RC:ni K CC) (F:cI K "answer_reverse" "answer_reverse" oH f fd) (T:Txt mg) (aX:Met P w K mg base CR "number" 1 ["self"] (bJ K CR)) (aL:Met P w K mg base CC "has_track" 1 ["self","t"] (bR CC)) (cM:ik P w K mg base "made_from_tracks" 2 ["chart","places"] (Dq K CC CR TB)):cz P w K mg base fH 11 f fd ["chart","reader"] (f9 K CC CR TB rQ):=by
 obtain ⟨_,_,aP,aQ,aU,aV⟩:=aX;obtain ⟨_,_,bf,bh,bj,bu⟩:=aL;obtain ⟨_,_,dO,dR,dU,dW⟩:=cM
 refine F.ok tO (fun vs H Q E h=>?_) (fun cdv A outer s H vs Q E hr h=>?_)
 ·obtain ⟨c,r,a,q,s,xs,k,zs,cl,n,rfl,_⟩:=h
  rfl
 ·obtain ⟨c,r,a,q,s,xs,k,zs,cl,n,rfl,D,hrd,g⟩:=h
  obtain ⟨t,rest,hdrop,rfl,rfl⟩:=Ln hrd
  obtain ⟨Vb,hr0⟩:=id D.reader
  refine ⟨_,(ao (aY (i:=2) tO.nd rfl (Or.inl rfl) (b8 (pv 1) aQ aU aP (hr.mono (by decide)) aV .nil aO)) (ao (cC (eV (cP (fU (pv 0) bh bj bf (hr.mono (by decide)) bu .nil aO (aj (pv 2) ak)))) (aB (aH (bL (aj (bN rfl T.di) ak)))) bH) (aB (aH (aM dO (hr.mono (by decide)) rfl dR dU dW .nil aO (aj (pv 0) (aj (VD rfl T.aep rfl T.Kd (bA bB (bG (pv 0) rfl) (pv 2) (fun _ _=>rfl))) ak))))))),?_⟩
  open_ks with [iY,hr0,HO.ins.injEq,bT]
  refine D.number st hdrop fun H1 D1 hd1 Xi=>?_
  obtain ⟨dc,lm,lt,gA,hc,nq⟩:=id D1.chart
  have cV:=hc.ins
  open_ks with [cV,HO.ins.injEq,dq]
  refine ⟨c,q,t,s,rfl,D1.chart,?_⟩
  rw [fP]
  cases ht:Vbreab.trackAt s t with
  | none=>
   have e0:Vbreab.step s (.reverse t)=(s,[-2]):=cH ht
   open_ks with [Option.isSome_none]
   exact ⟨by decide,bW st D1 e0 rfl g⟩
  | some tr=>
   have e1:Vbreab.step s (.reverse t)=Vbreab.added s tr.reverse:=cG ht
   obtain ⟨ap,ia,hap,_⟩:=hc.track ht
   have tok:=D1.ok.tracks tr (du ht)
   obtain ⟨as,rZ,Hc⟩:=id hap
   have la:as.length=tr.length:=bC Hc
   open_ks with [Option.isSome_some,adI,gh,cV,HO.ins.injEq,RC.cl,RC.tracks,RC.marks,cD,eF,gj]
   refine ⟨_,b7.of hc.lst,_,ia,ap,rfl,_,b7.of rZ,fun l hl=>?_⟩
   have s2:aK H1 (upd H1 l (.lst (as.map V.ref).reverse)):=aK.new hl
   obtain ⟨YJ,Lw⟩:=lC D1 hl s2
   have aeI:cu (upd H1 l (.lst (as.map V.ref).reverse)) l tr.reverse:=⟨as.reverse,by rw [aA,List.map_reverse],bM (Mw Hc) fun b _ p hp=>hp.same s2⟩
   refine ⟨c,r,a,q,s,xs,_,zs,l,_,rfl,D1.same st s2,aeI,YJ,Lw,?_,?_,Ow tok.clear,fun H5 p5 n5 h5 D5=>?_⟩
   ·intro p hp
    exact tok.near p (List.mem_reverse.1 hp)
   ·rw [List.length_reverse];exact tok.two
   ·rw [←e1]at h5 D5
    exact g H5 p5 n5 h5 D5
end
open az (Aff bZ dB places)
noncomputable def uL (v:Pt):List Aff:=[⟨-1,0,1+v.x⟩,⟨1,0,1-v.x⟩,⟨0,-1,1+v.y⟩,⟨0,1,1-v.y⟩]
theorem Z8 {a v:Pt} (h:a≠v):1≤((uL v).map fun f=>dB f a v).sum:=by
 have own:∀f∈uL v,f.pos v=true:=by
  intro f hf
  simp only [uL,List.mem_cons,List.not_mem_nil,or_false]at hf
  rcases hf with rfl | rfl | rfl | rfl<;>simp [Aff.pos,Aff.val]<;>omega
 have some:∃f∈uL v,f.pos a=false:=by
  have:a.x<v.x∨v.x<a.x∨a.y<v.y∨v.y<a.y:=by
   rcases Int.lt_trichotomy a.x v.x with h1 | h1 | h1
   ·exact .inl h1
   ·rcases Int.lt_trichotomy a.y v.y with h2 | h2 | h2
    ·exact .inr (.inr (.inl h2))
    ·exfalso;apply h;cases a;cases v;simp_all
    ·exact .inr (.inr (.inr h2))
   ·exact .inr (.inl h1)
  rcases this with h1 | h1 | h1 | h1
  ·exact ⟨⟨1,0,1-v.x⟩,by simp [uL],by simp [Aff.pos,Aff.val];omega⟩
  ·exact ⟨⟨-1,0,1+v.x⟩,by simp [uL],by simp [Aff.pos,Aff.val];omega⟩
  ·exact ⟨⟨0,1,1-v.y⟩,by simp [uL],by simp [Aff.pos,Aff.val];omega⟩
  ·exact ⟨⟨0,-1,1+v.y⟩,by simp [uL],by simp [Aff.pos,Aff.val];omega⟩
 obtain ⟨f,hf,hn⟩:=some
 have one:dB f a v=1:=by unfold dB;rw [hn,own f hf];rfl
 have:∀(l:List Aff),f∈l→1≤(l.map fun f=>dB f a v).sum:=by
  intro l
  induction l with
  | nil=>intro h;simp at h
  | cons x l ih=>
   intro h
   rw [List.map_cons,List.sum_cons]
   rcases List.mem_cons.1 h with rfl | h
   ·omega
   ·have:=ih h;omega
 exact this _ hf
noncomputable def vf (ms:List Pt):List Aff:=ms.flatMap uL
theorem abS {ms:List Pt} {a v:Pt} (hv:v∈ms) (h:a≠v):1≤((vf ms).map fun f=>dB f a v).sum:=by
 unfold vf
 induction ms with
 | nil=>simp at hv
 | cons x l ih=>
  rw [List.flatMap_cons,List.map_append,List.sum_append]
  rcases List.mem_cons.1 hv with rfl | hv
  ·have:=Z8 h;omega
  ·have:=ih hv;omega
theorem sum_add {α:Type} (g h:α→Nat):∀l:List α,(l.map fun x=>g x+h x).sum=(l.map g).sum+(l.map h).sum
 | []=>rfl
 | x::l=>by simp only [List.map_cons,List.sum_cons,sum_add g h l];omega
theorem VF {ms:List Pt}:∀(l:List Node),az.qj az.Good l→az.qj az.jP l→(∀n∈l,az.NodeOk ms n)→l.length-2≤((vf ms).map fun f=>bZ f (places l)).sum
 | [],_,_,_=>by simp
 | [_],_,_,_=>by simp
 | [_,_],_,_,_=>by simp
 | u::v::w::r,hg,hh,hok=>by
  have ih:=VF (v::w::r) hg.2 hh.2 (fun n hn=>hok n (List.mem_cons_of_mem _ hn))
  have hv:v.at_∈ms:=(hok v (by simp)).mem hh.1.1
  have hne:=(hg.1 hh.1.1).1
  have one:=abS hv hne
  have e:∀f,bZ f (places (u::v::w::r))=dB f u.at_ v.at_+bZ f (places (v::w::r)):=fun f=>rfl
  simp only [e]
  rw [sum_add (fun f=>dB f u.at_ v.at_) (fun f=>bZ f (places (v::w::r)))]
  simp only [List.length_cons]at ih ⊢
  omega
theorem Sy (ms:List Pt):(vf ms).length=4*ms.length:=by
 unfold vf
 induction ms with
 | nil=>rfl
 | cons x l ih=>rw [List.flatMap_cons,List.length_append,ih,List.length_cons];simp [uL];omega
theorem VG {ms tr:List Pt} (jM:az.bK ms) (j4:ms.length≤16) (tok:gC ms tr):az.qj az.Good (Vbreab.stringOf ms tr)∧∀f,bZ f (places (Vbreab.stringOf ms tr))≤199:=by
 obtain ⟨I0,E0⟩:=Aq jM j4 tok
 have key:∀(m:Nat) (sl:List Node) (n e:Nat),e*1000+(sl.length-n)≤m→az.Inv ms sl n→az.vh ms e sl→(∀f,bZ f (places sl)≤199)→az.qj az.Good (Vbreab.pull ms e sl)∧∀f,bZ f (places (Vbreab.pull ms e sl))≤199:=by
  intro m
  induction m with
  | zero=>
   intro sl n e hm I E
   have:=rE E
   omega
  | succ m ih=>
   intro sl n e hm I E hf
   have Il:=I.len
   by_cases hlt:n+1<sl.length
   ·obtain ⟨Z,u,v,w',r,e0,hZ⟩:=CP sl Il.1 hlt
    cases hh:Vbreab.held u v w' with
    | true=>exact ih sl (n+1) e (by omega) (az.JC I e0 hZ hh) E hf
    | false=>
     obtain ⟨I',hp',Tn,hrel,hz0,hr0⟩:=az.JG jM I e0 hZ hh
     obtain ⟨E',Fy⟩:=E.step hp'
     have e1:=rE E
     rw [Fy]
     have S:=az.oM (first:=(sl.headD ⟨⟨0,0⟩,none,0⟩).at_) jM sl _ _ I.ok (by
      intro x hx
      cases sl with
      | nil=>simp at hx
      | cons y l=>simp at hx;simp [hx]) hp'
     refine ih _ _ _ ?_ I' E' (fun f=>Nat.le_trans (S.bZ f) (hf f))
     have c1:(az.bD ms u.at_ v.at_ w'.at_).length≤17:=by
      unfold az.bD
      rw [List.length_map]
      exact Nat.le_trans (yW _ _ _ _) (by omega)
     have l1:(Z++(Vbreab.released ms (Z.getLast?.getD u) u v w' r.head?++r)).length≤sl.length+17:=by
      rw [hrel,e0]
      simp only [List.length_append,List.length_cons,List.length_nil]
      omega
     omega
   ·have hend:sl.length≤n+1:=by omega
    rw [az.Jt (az.Q7 I hend) e]
    exact ⟨I.good,hf⟩
 refine key _ _ _ _ (Nat.le_refl _) I0 E0 fun f=>?_
 refine Nat.le_trans (az.vm f _) ?_
 have:(places (List.map (fun p=>({ at_:=p,mark:=none,k:=0 }:Node)) tr)).length=tr.length:=by unfold places;rw [List.length_map,List.length_map]
 rw [this]
 have:=tok.most
 omega
theorem Xo {ms tr:List Pt} (jM:az.bK ms) (j4:ms.length≤16) (tok:gC ms tr):(Vbreab.stringOf ms tr).length≤12738:=by
 obtain ⟨hg,hf⟩:=VG jM j4 tok
 have sr:=Bd jM j4 tok
 have h1:=VF (Vbreab.stringOf ms tr) hg sr.held sr.ok
 have h2:=az.zO (fun f=>bZ f (places (Vbreab.stringOf ms tr))) 199 (vf ms) fun f _=>hf f
 rw [Sy]at h2
 have h3:4*ms.length*199≤4*16*199:=Nat.mul_le_mul_right 199 (Nat.mul_le_mul_left 4 j4)
 omega
theorem VH (l:List Pt):(Vbreab.told l).length=1+2*l.length:=by
 unfold Vbreab.told
 rw [List.length_cons]
 have:(l.flatMap fun p=>[p.x,p.y]).length=2*l.length:=by
  induction l with
  | nil=>rfl
  | cons x l ih=>rw [List.flatMap_cons,List.length_append,ih,List.length_cons];simp;omega
 omega
theorem lg {s:State} {t:Int} {g:List Pt→State×Vbreab.Ans} {n:Nat} (hn:1≤n) (h:∀tr,Vbreab.trackAt s t=some tr→(g tr).2.length≤n):(Vbreab.onTrack s t g).2.length≤n:=by
 cases ht:Vbreab.trackAt s t with
 | none=>rw [cH ht];simpa using hn
 | some tr=>rw [cG ht];exact h tr ht
theorem zb (s:State) (p:List Pt):(Vbreab.added s p).2.length≤100000:=by
 unfold Vbreab.added
 split
 ·simp
 ·split<;>simp
theorem Hf (s:State) (t:Int) (p:List Pt):(Vbreab.changed s t p).2.length≤100000:=by
 unfold Vbreab.changed
 split
 ·simp
 ·split<;>simp
noncomputable def adJ:Vbreab.Call→Prop
 | .sails _ l=>l.length≤60
 | _=>True
theorem Mx:∀(C:List Vbreab.Element) (l:List (Touch×Nat)),(Vbreab.follow C l).length≤C.length
 | [],_=>by simp [Vbreab.follow]
 | e::r,l=>by
  unfold Vbreab.follow
  split
  ·simp
  ·simp only [List.length_cons];exact Nat.succ_le_succ (Mx r _)
theorem ac6 {s:State} (ok:jZ s) (cl:Vbreab.Call) (hr:adJ cl):(Vbreab.step s cl).2.length≤100000:=by
 have tk:∀{t tr},Vbreab.trackAt s t=some tr→gC s.marks tr:=fun h=>ok.tracks _ (du h)
 cases cl with
 | begin_=>simp [Vbreab.step]
 | mark x y=>
  rw [QF]
  split
  ·simp
  ·split
   ·simp
   ·split
    ·simp
    ·split<;>simp
 | track l=>
  show (match Vbreab.pointsOf l with | none=>(s,[-1]) | some p=>if p.length<2 then (s,[-1]) else Vbreab.added s p).2.length≤_
  split
  ·simp
  ·split
   ·simp
   ·exact zb _ _
 | touch l=>
  show (match Vbreab.pointsOf l with | none=>(s,[-1]) | some p=>if p.length<2 then (s,[-1]) else match Vbreab.touching s.marks p with | none=>(s,[0]) | some x=>(s,[1,(x.1:Int),(x.2:Int)])).2.length≤_
  split
  ·simp
  ·split
   ·simp
   ·split<;>simp
 | more t l=>
  rw [QG]
  split
  ·simp
  ·exact lg (by decide) fun tr _=>Hf _ _ _
 | put t i x y=>
  rw [Vy]
  split
  ·simp
  ·refine lg (by decide) fun tr _=>?_
   try dsimp only
   split
   ·simp
   ·exact Hf _ _ _
 | points t=>exact lg (by decide) fun tr h=>by dsimp only;rw [VH];have:=(tk h).most;omega
 | word t=>exact lg (by decide) fun tr h=>by dsimp only [Vbreab.counted];rw [List.length_cons];have:=u9 ok.marks ok.few (tk h).most;omega
 | reduced t=>exact lg (by decide) fun tr h=>by dsimp only [Vbreab.counted];rw [List.length_cons];have:=u9 ok.marks ok.few (tk h).most;have h2:=vZ (Vbreab.wordOf s.marks tr);unfold Vbreab.reducedOf;omega
 | string t=>
  refine lg (by decide) fun tr h=>?_
  try dsimp only
  rw [az.zE,List.length_cons]
  have sr:=Bd ok.marks ok.few (tk h)
  have sl:=Xo ok.marks ok.few (tk h)
  have tl:=az.zU _ sr.held
  have fl:∀l:List (Pt×Touch),(l.flatMap fun x=>[x.1.x,x.1.y,(x.2.mark:Int),x.2.side,(x.2.halves:Int),if x.2.just=true then 1 else 0]).length=6*l.length:=by
   intro l
   induction l with
   | nil=>rfl
   | cons x l ih=>rw [List.flatMap_cons,List.length_append,ih,List.length_cons];simp;omega
  rw [fl]
  omega
 | alike t u=>
  refine lg (by decide) fun tr _=>lg (by decide) fun us _=>?_
  try dsimp only
  split<;>simp
 | sails t l=>
  show (match Vbreab.courseOf s l with
   | none=>(s,[-1])
   | some e=>Vbreab.onTrack s t fun p=>(s,(if (Vbreab.sails s.marks e p).length=e.length then 1 else 0)::Vbreab.counted ((Vbreab.sails s.marks e p).map fun (n:Nat)=>(n:Int)))).2.length≤_
  have hl:l.length≤60:=hr
  split
  ·simp
  ·rename_i e he
   refine lg (by decide) fun tr _=>?_
   dsimp only [Vbreab.counted]
   rw [List.length_cons,List.length_cons,List.length_map]
   have h1:(Vbreab.sails s.marks e tr).length≤e.length:=Mx _ _
   rw [Li]at he
   cases hc:tK s.marks.length l with
   | none=>rw [hc]at he;cases he
   | some rs=>
    rw [hc]at he
    cases he
    have:=(Lz hc hl).1
    rw [List.length_map]at h1
    omega
 | wind t m=>
  show (if Vbreab.within m 0 ((s.marks.length:Int)-1)=false then (s,[-1]) else _).2.length≤_
  split
  ·simp
  ·refine lg (by decide) fun tr _=>?_
   try dsimp only
   split<;>simp
 | reverse t=>exact lg (by decide) fun tr _=>zb _ _
 | join t u=>
  refine lg (by decide) fun tr _=>lg (by decide) fun us _=>?_
  try dsimp only
  split
  ·simp
  ·exact zb _ _
 | part t i j=>
  refine lg (by decide) fun tr _=>?_
  try dsimp only
  split
  ·simp
  ·exact zb _ _
 | measure t l=>
  show (match Vbreab.ratesOf l with
   | none=>(s,[-1])
   | some rs=>Vbreab.onTrack s t fun p=>(s,[0,Vbreab.measure rs p,Vbreab.measure rs ((Vbreab.stringOf s.marks p).map fun n:Node=>n.at_)])).2.length≤_
  split
  ·simp
  ·exact lg (by decide) fun tr _=>by simp
 | marks=>
  show (Vbreab.told s.marks).length≤_
  rw [VH]
  have:=ok.few
  omega
noncomputable abbrev Rdr:=List Int→Option (Vbreab.Call×Nat)
noncomputable def rds:List Rdr:=[yp,Dg,yq,yr,Dh,Lk,uY,Di,rP,uZ,yt,yu,Dj,rQ,Dk,Dl,rR,yw]
theorem call_of {sh:Int→Option (Nat×Nat)} {p:Int} {r:List Int} {c:List (List Int)} {t:List Int} (h:PyFlat.call sh (p::r)=some (c,t)) :
  ∃n k xs,sh p=some (n,k)∧n≤r.length∧PyFlat.rows k (r.drop n)=some (xs,t)∧c=(p::r.take n)::xs:=by
 simp only [PyFlat.call]at h
 cases hs:sh p with
 | none=>rw [hs]at h;cases h
 | some nk=>
  obtain ⟨n,k⟩:=nk
  rw [hs]at h
  dsimp only at h
  split at h
  ·cases h
  ·cases hr:PyFlat.rows k (r.drop n) with
   | none=>rw [hr]at h;cases h
   | some xt=>
    obtain ⟨xs,t'⟩:=xt
    rw [hr]at h
    simp only [Option.some.injEq,Prod.mk.injEq]at h
    obtain ⟨h1,h2⟩:=h
    subst h2
    exact ⟨n,k,xs,rfl,by omega,hr,h1.symm⟩
theorem gQ {l:List Int} {xs:List (List Int)} {t:List Int} (h:PyFlat.rows 0 l=some (xs,t)):xs=[]∧t=l:=by
 simp only [PyFlat.rows,Option.some.injEq,Prod.mk.injEq]at h
 exact ⟨h.1.symm,h.2.symm⟩
theorem yK {l:List Int} {xs:List (List Int)} {t:List Int} (h:PyFlat.rows 1 l=some (xs,t)):∃m l',l=m::l'∧0≤m∧m.toNat≤l'.length∧xs=[l'.take m.toNat]∧t=l'.drop m.toNat:=by
 cases l with
 | nil=>simp [PyFlat.rows,PyFlat.row]at h
 | cons m l'=>
  simp only [PyFlat.rows,PyFlat.row]at h
  split at h
  ·cases h
  ·rename_i x s hx
   split at hx
   ·rename_i hc
    simp only [Option.some.injEq,Prod.mk.injEq]at hx h
    obtain ⟨h1,h2⟩:=hx
    obtain ⟨h3,h4⟩:=h
    subst h1 h2 h4 h3
    exact ⟨m,l',rfl,hc.1,hc.2,rfl,rfl⟩
   ·cases hx
theorem abT {p:Int} {n k:Nat} (h:PyVbreab.shape p=some (n,k)) :
  (p=0∧n=0∧k=0)∨(p=1∧n=2∧k=0)∨(p=2∧n=0∧k=1)∨(p=3∧n=0∧k=1)∨(p=4∧n=1∧k=1)∨(p=5∧n=4∧k=0)∨(p=6∧n=1∧k=0)∨(p=7∧n=1∧k=0)∨(p=8∧n=1∧k=0)∨(p=9∧n=1∧k=0)∨
  (p=10∧n=2∧k=0)∨(p=11∧n=1∧k=1)∨(p=12∧n=2∧k=0)∨(p=13∧n=1∧k=0)∨(p=14∧n=2∧k=0)∨(p=15∧n=3∧k=0)∨(p=16∧n=1∧k=1)∨(p=17∧n=0∧k=0):=by
 unfold PyVbreab.shape at h
 by_cases h0:p=0
 ·rw [if_pos h0]at h;simp only [Option.some.injEq,Prod.mk.injEq]at h;exact (.inl ⟨h0,h.1.symm,h.2.symm⟩)
 rw [if_neg h0]at h
 by_cases h1:p=1
 ·rw [if_pos h1]at h;simp only [Option.some.injEq,Prod.mk.injEq]at h;exact (.inr (.inl ⟨h1,h.1.symm,h.2.symm⟩))
 rw [if_neg h1]at h
 by_cases h2:p=2
 ·rw [if_pos h2]at h;simp only [Option.some.injEq,Prod.mk.injEq]at h;exact (.inr (.inr (.inl ⟨h2,h.1.symm,h.2.symm⟩)))
 rw [if_neg h2]at h
 by_cases h3:p=3
 ·rw [if_pos h3]at h;simp only [Option.some.injEq,Prod.mk.injEq]at h;exact (.inr (.inr (.inr (.inl ⟨h3,h.1.symm,h.2.symm⟩))))
 rw [if_neg h3]at h
 by_cases h4:p=4
 ·rw [if_pos h4]at h;simp only [Option.some.injEq,Prod.mk.injEq]at h;exact (.inr (.inr (.inr (.inr (.inl ⟨h4,h.1.symm,h.2.symm⟩)))))
 rw [if_neg h4]at h
 by_cases h5:p=5
 ·rw [if_pos h5]at h;simp only [Option.some.injEq,Prod.mk.injEq]at h;exact (.inr (.inr (.inr (.inr (.inr (.inl ⟨h5,h.1.symm,h.2.symm⟩))))))
 rw [if_neg h5]at h
 by_cases h6:p=6
 ·rw [if_pos h6]at h;simp only [Option.some.injEq,Prod.mk.injEq]at h;exact (.inr (.inr (.inr (.inr (.inr (.inr (.inl ⟨h6,h.1.symm,h.2.symm⟩)))))))
 rw [if_neg h6]at h
 by_cases h7:p=7
 ·rw [if_pos h7]at h;simp only [Option.some.injEq,Prod.mk.injEq]at h;exact (.inr (.inr (.inr (.inr (.inr (.inr (.inr (.inl ⟨h7,h.1.symm,h.2.symm⟩))))))))
 rw [if_neg h7]at h
 by_cases h8:p=8
 ·rw [if_pos h8]at h;simp only [Option.some.injEq,Prod.mk.injEq]at h;exact (.inr (.inr (.inr (.inr (.inr (.inr (.inr (.inr (.inl ⟨h8,h.1.symm,h.2.symm⟩)))))))))
 rw [if_neg h8]at h
 by_cases h9:p=9
 ·rw [if_pos h9]at h;simp only [Option.some.injEq,Prod.mk.injEq]at h;exact (.inr (.inr (.inr (.inr (.inr (.inr (.inr (.inr (.inr (.inl ⟨h9,h.1.symm,h.2.symm⟩))))))))))
 rw [if_neg h9]at h
 by_cases h10:p=10
 ·rw [if_pos h10]at h;simp only [Option.some.injEq,Prod.mk.injEq]at h;exact (.inr (.inr (.inr (.inr (.inr (.inr (.inr (.inr (.inr (.inr (.inl ⟨h10,h.1.symm,h.2.symm⟩)))))))))))
 rw [if_neg h10]at h
 by_cases h11:p=11
 ·rw [if_pos h11]at h;simp only [Option.some.injEq,Prod.mk.injEq]at h;exact (.inr (.inr (.inr (.inr (.inr (.inr (.inr (.inr (.inr (.inr (.inr (.inl ⟨h11,h.1.symm,h.2.symm⟩))))))))))))
 rw [if_neg h11]at h
 by_cases h12:p=12
 ·rw [if_pos h12]at h;simp only [Option.some.injEq,Prod.mk.injEq]at h;exact (.inr (.inr (.inr (.inr (.inr (.inr (.inr (.inr (.inr (.inr (.inr (.inr (.inl ⟨h12,h.1.symm,h.2.symm⟩)))))))))))))
 rw [if_neg h12]at h
 by_cases h13:p=13
 ·rw [if_pos h13]at h;simp only [Option.some.injEq,Prod.mk.injEq]at h;exact (.inr (.inr (.inr (.inr (.inr (.inr (.inr (.inr (.inr (.inr (.inr (.inr (.inr (.inl ⟨h13,h.1.symm,h.2.symm⟩))))))))))))))
 rw [if_neg h13]at h
 by_cases h14:p=14
 ·rw [if_pos h14]at h;simp only [Option.some.injEq,Prod.mk.injEq]at h;exact (.inr (.inr (.inr (.inr (.inr (.inr (.inr (.inr (.inr (.inr (.inr (.inr (.inr (.inr (.inl ⟨h14,h.1.symm,h.2.symm⟩)))))))))))))))
 rw [if_neg h14]at h
 by_cases h15:p=15
 ·rw [if_pos h15]at h;simp only [Option.some.injEq,Prod.mk.injEq]at h;exact (.inr (.inr (.inr (.inr (.inr (.inr (.inr (.inr (.inr (.inr (.inr (.inr (.inr (.inr (.inr (.inl ⟨h15,h.1.symm,h.2.symm⟩))))))))))))))))
 rw [if_neg h15]at h
 by_cases j4:p=16
 ·rw [if_pos j4]at h;simp only [Option.some.injEq,Prod.mk.injEq]at h;exact (.inr (.inr (.inr (.inr (.inr (.inr (.inr (.inr (.inr (.inr (.inr (.inr (.inr (.inr (.inr (.inr (.inl ⟨j4,h.1.symm,h.2.symm⟩)))))))))))))))))
 rw [if_neg j4]at h
 by_cases h17:p=17
 ·rw [if_pos h17]at h;simp only [Option.some.injEq,Prod.mk.injEq]at h;exact (.inr (.inr (.inr (.inr (.inr (.inr (.inr (.inr (.inr (.inr (.inr (.inr (.inr (.inr (.inr (.inr (.inr ⟨h17,h.1.symm,h.2.symm⟩)))))))))))))))))
 rw [if_neg h17]at h
 cases h
theorem VJ {r:List Int} (h:1≤r.length):∃x t,r=x::t:=by
 match r,h with
 | x::t,_=>exact ⟨x,t,rfl⟩
theorem ac7 {r:List Int} (h:2≤r.length):∃x y t,r=x::y::t:=by
 match r,h with
 | x::y::t,_=>exact ⟨x,y,t,rfl⟩
theorem ahW {r:List Int} (h:3≤r.length):∃x y z t,r=x::y::z::t:=by
 match r,h with
 | x::y::z::t,_=>exact ⟨x,y,z,t,rfl⟩
theorem ahX {r:List Int} (h:4≤r.length):∃x y z w t,r=x::y::z::w::t:=by
 match r,h with
 | x::y::z::w::t,_=>exact ⟨x,y,z,w,t,rfl⟩
theorem VL {l:List Int} {m:Nat} (h:VbreabNeutral.row (l.take m)=true) (hm:m≤l.length):m≤60:=by
 unfold VbreabNeutral.row at h
 rw [Bool.and_eq_true,decide_eq_true_eq,List.length_take]at h
 omega
noncomputable def Rds (p:Int) (r:List Int) (c:List (List Int)) (t:List Int):Prop:=∃(i:Nat) (rd:Rdr) (cl:Vbreab.Call) (n:Nat),p=(i:Int)∧rds[i]?=some rd∧rd r=some (cl,n)∧VbreabNeutral.callOf c=some cl∧r.drop n=t∧adJ cl∧PyVbreab.whole c=c
theorem abU {f:List Int→Vbreab.Call} {m:Int} {l:List Int} (h0:0≤m) (h1:m.toNat≤l.length) (h2:m.toNat≤60):rdL f (m::l)=some (f (l.take m.toNat),1+m.toNat):=by
 simp only [rdL];rw [if_pos ⟨h0,h1,h2⟩]
theorem SJ {f:Int→List Int→Vbreab.Call} {x m:Int} {l:List Int} (h0:0≤m) (h1:m.toNat≤l.length) (h2:m.toNat≤60):Xc f (x::m::l)=some (f x (l.take m.toNat),2+m.toNat):=by
 simp only [Xc];rw [if_pos ⟨h0,h1,h2⟩]
theorem adK {m:Int} {l:List Int} {n:Nat}:(m::l).drop (1+n)=l.drop n:=by rw [Nat.add_comm];rfl
theorem abV {x m:Int} {l:List Int} {n:Nat}:(x::m::l).drop (2+n)=l.drop n:=by rw [Nat.add_comm];rfl
theorem ac8 {p:Int} {r:List Int} {c:List (List Int)} {t:List Int} (h:PyFlat.call PyVbreab.shape (p::r)=some (c,t)) (ha:VbreabNeutral.asked1 c=true):Rds p r c t:=by
 obtain ⟨n,k,xs,hs,hn,hr,rfl⟩:=call_of h
 rcases abT hs with ⟨rfl,rfl,rfl⟩ | ⟨rfl,rfl,rfl⟩ | ⟨rfl,rfl,rfl⟩ | ⟨rfl,rfl,rfl⟩ | ⟨rfl,rfl,rfl⟩ | ⟨rfl,rfl,rfl⟩ | ⟨rfl,rfl,rfl⟩ | ⟨rfl,rfl,rfl⟩ | ⟨rfl,rfl,rfl⟩ | ⟨rfl,rfl,rfl⟩ | ⟨rfl,rfl,rfl⟩ | ⟨rfl,rfl,rfl⟩ | ⟨rfl,rfl,rfl⟩ | ⟨rfl,rfl,rfl⟩ | ⟨rfl,rfl,rfl⟩ | ⟨rfl,rfl,rfl⟩ | ⟨rfl,rfl,rfl⟩ | ⟨rfl,rfl,rfl⟩
 ·obtain ⟨rfl,rfl⟩:=gQ hr
  exact ⟨0,yp,.begin_,0,rfl,rfl,rfl,rfl,rfl,trivial,rfl⟩
 ·obtain ⟨rfl,rfl⟩:=gQ hr
  obtain ⟨x,y,t,rfl⟩:=ac7 hn
  exact ⟨1,Dg,.mark x y,2,rfl,rfl,rfl,rfl,rfl,trivial,rfl⟩
 ·obtain ⟨m,l,hl,h0,h1,rfl,rfl⟩:=yK hr
  obtain rfl:r=m::l:=hl
  exact ⟨2,yq,.track (l.take m.toNat),1+m.toNat,rfl,rfl,abU h0 h1 (VL ha h1),rfl,adK,trivial,rfl⟩
 ·obtain ⟨m,l,hl,h0,h1,rfl,rfl⟩:=yK hr
  obtain rfl:r=m::l:=hl
  exact ⟨3,yr,.touch (l.take m.toNat),1+m.toNat,rfl,rfl,abU h0 h1 (VL ha h1),rfl,adK,trivial,rfl⟩
 ·obtain ⟨x,t',rfl⟩:=VJ hn
  obtain ⟨m,l,hl,h0,h1,rfl,rfl⟩:=yK hr
  obtain rfl:t'=m::l:=hl
  have h2:=VL (Bool.and_eq_true_iff.1 (show (VbreabNeutral.whole60 x&&VbreabNeutral.row (l.take m.toNat))=true from ha)).2 h1
  exact ⟨4,Dh,.more x (l.take m.toNat),2+m.toNat,rfl,rfl,SJ h0 h1 h2,rfl,abV,trivial,rfl⟩
 ·obtain ⟨rfl,rfl⟩:=gQ hr
  obtain ⟨x,y,z,w,t,rfl⟩:=ahX hn
  exact ⟨5,Lk,.put x y z w,4,rfl,rfl,rfl,rfl,rfl,trivial,rfl⟩
 ·obtain ⟨rfl,rfl⟩:=gQ hr
  obtain ⟨x,t,rfl⟩:=VJ hn
  exact ⟨6,uY,.points x,1,rfl,rfl,rfl,rfl,rfl,trivial,rfl⟩
 ·obtain ⟨rfl,rfl⟩:=gQ hr
  obtain ⟨x,t,rfl⟩:=VJ hn
  exact ⟨7,Di,.word x,1,rfl,rfl,rfl,rfl,rfl,trivial,rfl⟩
 ·obtain ⟨rfl,rfl⟩:=gQ hr
  obtain ⟨x,t,rfl⟩:=VJ hn
  exact ⟨8,rP,.reduced x,1,rfl,rfl,rfl,rfl,rfl,trivial,rfl⟩
 ·obtain ⟨rfl,rfl⟩:=gQ hr
  obtain ⟨x,t,rfl⟩:=VJ hn
  exact ⟨9,uZ,.string x,1,rfl,rfl,rfl,rfl,rfl,trivial,rfl⟩
 ·obtain ⟨rfl,rfl⟩:=gQ hr
  obtain ⟨x,y,t,rfl⟩:=ac7 hn
  exact ⟨10,yt,.alike x y,2,rfl,rfl,rfl,rfl,rfl,trivial,rfl⟩
 ·obtain ⟨x,t',rfl⟩:=VJ hn
  obtain ⟨m,l,hl,h0,h1,rfl,rfl⟩:=yK hr
  obtain rfl:t'=m::l:=hl
  have h2:=VL (Bool.and_eq_true_iff.1 (show (VbreabNeutral.whole60 x&&VbreabNeutral.row (l.take m.toNat))=true from ha)).2 h1
  exact ⟨11,yu,.sails x (l.take m.toNat),2+m.toNat,rfl,rfl,SJ h0 h1 h2,rfl,abV,by show (l.take m.toNat).length≤60;rw [List.length_take];omega,rfl⟩
 ·obtain ⟨rfl,rfl⟩:=gQ hr
  obtain ⟨x,y,t,rfl⟩:=ac7 hn
  exact ⟨12,Dj,.wind x y,2,rfl,rfl,rfl,rfl,rfl,trivial,rfl⟩
 ·obtain ⟨rfl,rfl⟩:=gQ hr
  obtain ⟨x,t,rfl⟩:=VJ hn
  exact ⟨13,rQ,.reverse x,1,rfl,rfl,rfl,rfl,rfl,trivial,rfl⟩
 ·obtain ⟨rfl,rfl⟩:=gQ hr
  obtain ⟨x,y,t,rfl⟩:=ac7 hn
  exact ⟨14,Dk,.join x y,2,rfl,rfl,rfl,rfl,rfl,trivial,rfl⟩
 ·obtain ⟨rfl,rfl⟩:=gQ hr
  obtain ⟨x,y,z,t,rfl⟩:=ahW hn
  exact ⟨15,Dl,.part x y z,3,rfl,rfl,rfl,rfl,rfl,trivial,rfl⟩
 ·obtain ⟨x,t',rfl⟩:=VJ hn
  obtain ⟨m,l,hl,h0,h1,rfl,rfl⟩:=yK hr
  obtain rfl:t'=m::l:=hl
  have h2:=VL (Bool.and_eq_true_iff.1 (show (VbreabNeutral.whole60 x&&VbreabNeutral.row (l.take m.toNat))=true from ha)).2 h1
  exact ⟨16,rR,.measure x (l.take m.toNat),2+m.toNat,rfl,rfl,SJ h0 h1 h2,rfl,abV,trivial,rfl⟩
 ·obtain ⟨rfl,rfl⟩:=gQ hr
  exact ⟨17,yw,.marks,0,rfl,rfl,rfl,rfl,rfl,trivial,rfl⟩
structure Left (l:List Int) (cs:List (List (List Int))):Prop where
 ex:∃f,PyFlat.calls PyVbreab.shape f l=some cs
 ok:∀c∈cs,VbreabNeutral.asked1 c=true
theorem Left.nil {cs:List (List (List Int))} (h:Left [] cs):cs=[]:=by
 obtain ⟨f,hf⟩:=h.ex
 cases f<;>(simp only [PyFlat.calls,Option.some.injEq]at hf;exact hf.symm)
theorem Left.cons {p:Int} {r:List Int} {cs:List (List (List Int))} (h:Left (p::r) cs):∃c t cs',cs=c::cs'∧Rds p r c t∧Left t cs':=by
 obtain ⟨f,hf⟩:=h.ex
 cases f with
 | zero=>simp [PyFlat.calls]at hf
 | succ f=>
  simp only [PyFlat.calls]at hf
  split at hf
  ·cases hf
  ·rename_i c t hc
   split at hf
   ·cases hf
   ·rename_i cs' hcs
    simp only [Option.some.injEq]at hf
    subst hf
    exact ⟨c,t,cs',rfl,ac8 hc (h.ok c List.mem_cons_self),⟨f,hcs⟩,fun x hx=>h.ok x (List.mem_cons_of_mem _ hx)⟩
noncomputable def aeP (X:Cx) (i:Nat) (t:TA):TE:=fun σ H Q=>∃f k fd ps sp,σ[i]?=some (some (.ref f))∧cz X.prog X.w X.K X.mg X.base fH k f fd ps sp∧lN k X.A∧PySem.W.keepIn X.K (.ref f)=true∧Binds X.K fd ps []∧t σ H fun vs H1=>sp (vs++[]) H1 Q E0
theorem abW {X:Cx} (i:Nat) {x:Str} {p pos:Pos} {e:Expr} {es:List Expr} {t:TA} (ha:PA X (e::es) t) (hN:X.N[i]?=some x:=by rfl) (hv:Vis X.env.scope x:=by first | exact Or.inl rfl | exact Or.inr (Or.inl rfl) | exact Or.inr (Or.inr rfl))
  (hd:(x == ("__debug__" : Str))=false:=by decide) (hcd:(x == ("__classdict__" : Str))=false:=by decide)
  (he:starEach (e::es) X.env=(false,eval e X.env)::starEach es X.env:=by rfl) (hpl:(backTo pos (starEach es X.env)).any (·.1)=false:=by rfl) :
  PE X (.Call (.Name x p) (e::es) [] pos) (aeP X i t):=by
 intro pins s σ H Q I ⟨f,k,fd,ps,sp,hσ,F,hr,hk,hb,h⟩
 refine wpAny_Call_Name_kw (fW (aaQ hN hv hd hcd pins s σ H (fun v H'=>v=.ref f∧H'=H) I ⟨_,hσ,rfl,rfl⟩) ?_)
 rintro u s1 ⟨v,H1,I1,rv,rfl,rfl⟩
 obtain rfl:u=Value.ref f:=rv
 refine PySem.W.callWith_K (h₀:=X.base) I1.ok.mod.kin hk (fW (ha pos pins s1 σ H1 _ I1 h) fun us s2 ⟨vs,H2,I2,r,q⟩=>⟨I2.Tt,?_⟩) he hpl
 exact Rk F hr hb .nil aO I2 r q
noncomputable def zc (P:Program) (w:World):List DictEntry→Prop
 | []=>True
 | e::r=>(∃i t,e.key=Value.int i t∧e.hash=(intKind P w).hash i)∧zc P w r
theorem zc.all {P:Program} {w:World}:∀{l:List DictEntry},zc P w l→∀e∈l,∃k,(intKind P w).is k e.key=true∧e.hash=(intKind P w).hash k
 | [],_,e,he=>by simp at he
 | x::l,h,e,he=>by
  rcases List.mem_cons.1 he with rfl | he
  ·obtain ⟨i,t,h1,h2⟩:=h.1
   exact ⟨i,by rw [h1];exact intKind_is _ _ _ _,h2⟩
  ·exact zc.all h.2 e he
noncomputable def KGet (P:Program) (w:World) (K:PySem.W.Frag) (a:Addr) (i:Int) (f:Addr):Prop:=∃es n,K.lookup a=some ⟨.type "dict",none,.dict es n,#[]⟩∧zc P w es.toList∧findBy (intKind P w).is es i=some (.ref f)
noncomputable def adL (X:Cx) (td ty:TE):TE:=fun σ H Q=>td σ H fun x H1=>ty σ H1 fun y H2=>∃a i f,x=.ref a∧y=.int i∧KGet X.prog X.w X.K a i f∧Q (.ref f) H2
theorem ac9 {X:Cx} {o i:Expr} {td ty:TE} {pos:Pos} (ho:PE X o td) (hi:PE X i ty) (hs:afO i):PE X (.Subscript o i pos) (adL X td ty):=by
 intro pins s σ H Q I h
 refine acE PySem.F.slot_dict_getitem.lookup hs (fW (ho pins s σ H _ I h) fun u s1 ⟨x,H1,I1,rx,q1⟩=>fW (hi pins s1 σ H1 _ I1 q1) fun iv s2 ⟨y,H2,I2,ry,a,z,f,ex,ey,⟨es,n,hl,hk,hf⟩,q2⟩=>?_)
 subst ex
 subst ey
 obtain rfl:u=Value.ref a:=rx
 obtain ⟨t,rfl⟩:=ry
 have hm:s2.heap.MapOf (intKind X.prog X.w) a (fun k=>findBy (intKind X.prog X.w).is es k):=⟨_,es,n,I2.Tt _ _ hl,⟨rfl,rfl,rfl⟩,rfl,fun e he=>hk.all e (by simpa using he),fun _=>rfl⟩
 exact ⟨hm.typeIs,wpAny_getItem_of (intKind_is _ _ z t) hm hf ⟨.ref f,H2,I2.tok _,rfl,q2⟩⟩
section
variable {P:Program} {w:World} {K:PySem.W.Frag} {mg:Str→Option Value} {base:Heap} {f:Addr} {fd:FuncData} {CC CR CN CT:Addr} {TB:Hp→Prop}
theorem cF.tell (st:za TB) {H:Hp} {c r a q:Addr} {s:State} {xs:List Int} {k:Nat} {zs:List V} (zs':List V) (D:cF K CC CR TB H c r a q s xs k zs):cF K CC CR TB (upd H q (.lst zs')) c r a q s xs k zs':=by
 obtain ⟨dx,lm,lt,gA,hc,n1,n2,n3⟩:=D.chart
 obtain ⟨dr,hr⟩:=D.reader
 obtain ⟨o,hcl⟩:=D.calls
 have nq:∀b u,H b=some u→(∀l,u≠.lst l)→b≠q:=fun b u hb hu z=>by rw [z,D.told]at hb;cases hb;exact hu _ rfl
 have kp:∀b u,H b=some u→b≠q→upd H q (.lst zs') b=some u:=fun b u hb hn=>by rw [aJ hn];exact hb
 have kpo:∀b u,H b=some u→(∀l,u≠.lst l)→upd H q (.lst zs') b=some u:=fun b u hb hu=>kp b u hb (nq b u hb hu)
 have pt:∀b p,cB H b p→cB (upd H q (.lst zs')) b p:=fun b p hb=>kpo _ _ hb (by intro _ z;cases z)
 have Zx:∀b ps,cu H b ps→b≠q→cu (upd H q (.lst zs')) b ps:=fun b ps ⟨as,g1,g2⟩ hn=>⟨as,kp _ _ g1 hn,bM g2 fun b _ p hp=>pt b p hp⟩
 refine ⟨⟨dx,lm,lt,gA,⟨kpo _ _ hc.ins (by intro _ z;cases z),Zx _ _ hc.marks (Ne.symm n1),kp _ _ hc.lst (Ne.symm n2),bM hc.tracks fun b hb ps hp=>Zx b ps hp (fun z=>n3 (z▸hb)),hc.ne,hc.nm,hc.nt⟩,n1,n2,n3⟩,⟨dr,kpo _ _ hr (by intro _ z;cases z)⟩,⟨o,kpo _ _ hcl (by intro _ z;cases z)⟩,D.ok,aA,st _ _ D.tab fun b u hb h1 _=>kpo b u hb h1⟩
inductive sU (TB:Hp→Prop) (vs:List V) (H:Hp) (Q:VK) (E:XK):Prop where
 | mk (a:Addr) (xs:List Int) (o:Obj) (_:vs=[.ref a]) (_:H a=some (.G4 o (.lst (xs.map V.int)))) (_:PyVbreab.answers_asked xs=true) (_:TB H) (_:∀H' q,H' q=some (.lst ((PyVbreab.answers xs).map V.int))→Q (.ref q) H'):sU TB vs H Q E
noncomputable def adM (K:PySem.W.Frag) (CC CR:Addr) (TB:Hp→Prop) (a c r q:Addr) (xs:List Int) (m:Nat) (σ:L2.St) (H:Hp):Prop:=∃(k:Nat) (s:State) (zs:List Int) (cs:List (List (List Int))) (v4 v5:Option V),
 σ=[some (.ref a),some (.ref c),some (.ref r),some (.ref q),v4,v5]∧m=cs.length∧cF K CC CR TB H c r a q s xs k (zs.map V.int)∧Left (xs.drop k) cs∧PyVbreab.answers xs=zs++PyFlat.told (PyFlat.played VbreabNeutral.step s cs)∧zs.length+cs.length*100001≤10000100
theorem VM {s:State} {c:List (List Int)} {cs:List (List (List Int))} {cl:Vbreab.Call} (h:VbreabNeutral.callOf c=some cl) :
  PyFlat.told (PyFlat.played VbreabNeutral.step s (c::cs))=((Vbreab.step s cl).2.length:Int)::(Vbreab.step s cl).2++PyFlat.told (PyFlat.played VbreabNeutral.step (Vbreab.step s cl).1 cs):=by
 have e:VbreabNeutral.step s c=Vbreab.step s cl:=by unfold VbreabNeutral.step;rw [h]
 show PyFlat.told ((VbreabNeutral.step s c).2::PyFlat.played VbreabNeutral.step (VbreabNeutral.step s c).1 cs)=_
 rw [e];rfl
theorem Z9 {α:Type} {c:Prop} [inst:Decidable c] {t:c→α} {e:¬c→α} {x:α} (ht:∀h,t h=x) (he:∀h,e h=x):dite c t e=x:=by
 by_cases h:c
 ·rw [dif_pos h];exact ht h
 ·rw [dif_neg h];exact he h
theorem abX (c:List (List Int)):PyVbreab.whole c=c:=by
 rcases c with _ | ⟨_ | ⟨k,r⟩,t⟩
 ·rfl
 ·rfl
 ·delta PyVbreab.whole PyVbreab.whole.match_1
  dsimp only [PyVbreab.whole._sparseCasesOn_1]
  iterate 18
   refine Z9 (fun h=>?_) (fun _=>?_)
   ·subst h
    rcases r with _ | ⟨_,_ | ⟨_,_ | ⟨_,_ | ⟨_,_ | _⟩⟩⟩⟩<;>first | rfl | (rcases t with _ | ⟨_,_ | _⟩<;>rfl)
  rfl
theorem Xp {xs:List Int} (h:PyVbreab.answers_asked xs=true):∃cs,Left xs cs∧cs.length≤100∧PyVbreab.answers xs=PyFlat.told (PyFlat.played VbreabNeutral.step VbreabNeutral.start cs):=by
 unfold PyVbreab.answers_asked at h
 unfold PyVbreab.answers
 cases hc:PyVbreab.calls xs with
 | none=>rw [hc]at h;cases h
 | some cs'=>
  rw [hc]at h
  unfold PyVbreab.calls at hc
  cases hf:PyFlat.calls PyVbreab.shape xs.length xs with
  | none=>rw [hf]at hc;cases hc
  | some cs=>
   rw [hf]at hc
   have e:cs.map PyVbreab.whole=cs:=by
    have:PyVbreab.whole=id:=funext abX
    rw [this,List.map_id]
   simp only [Option.some.injEq]at hc
   rw [e]at hc
   subst hc
   simp only [Bool.and_eq_true,PyFlat.atMost,decide_eq_true_eq,VbreabNeutral.asked,List.all_eq_true]at h
   exact ⟨cs,⟨⟨_,hf⟩,fun c hc=>h.2.1 c hc⟩,h.1,rfl⟩
noncomputable abbrev zf:Stmt:=top 92
theorem oJ:aW ["calls","chart","reader","told","act","answer"] ["calls"] (aF zf):=⟨rfl,rfl,rfl,by decide +kernel,rfl,by decide +kernel,by decide +kernel⟩
theorem Xq (st:za TB) (RC:ni K CC) (RR:Zw K CR) {dC:Addr} (hC:mg "CALLS" = some (.ref dC)) (acts:∀(i:Nat) (rd:Rdr),rds[i]?=some rd→∃f fd,KGet P w K dC (i:Int) f∧cz P w K mg base fH 11 f fd ["chart","reader"] (f9 K CC CR TB rd)∧PySem.W.keepIn K (.ref f)=true∧Binds K fd ["chart","reader"] []) (F:cI K "answers" "answers" zf f fd) (T:Txt mg) (SM:Mak P w K mg base "Chart" CC 1 ["self"] (uc CC)) (My:Mak P w K mg base "Reader" CR 1 ["self","calls"] (qZ CR)) (Br:Met P w K mg base CR "at_end" 1 ["self"] (m9 K CR)) (aX:Met P w K mg base CR "number" 1 ["self"] (bJ K CR)):cz P w K mg base fH 12 f fd ["calls"] (sU TB):=by
 obtain ⟨_,_,aaa,aab,aac,aad⟩:=SM;obtain ⟨_,_,Xr,Xu,Xv,Xw⟩:=My;obtain ⟨_,_,SN,SQ,SX,S5⟩:=Br;obtain ⟨_,_,aP,aQ,aU,aV⟩:=aX
 refine F.ok oJ (fun vs H Q E h=>?_) (fun cdv A outer s H vs Q E hr h=>?_)
 ·obtain ⟨a,xs,o,rfl,_⟩:=h
  rfl
 ·obtain ⟨a,xs,o,rfl,ha,aeQ,tb,g⟩:=h
  refine ⟨_,(ao (aY (i:=1) oJ.nd rfl (Or.inl rfl) (aa5 aac aaa (hr.mono (by decide)) rfl aab aad .nil aO)) (ao (aY (i:=2) oJ.nd rfl (Or.inl rfl) (Ce Xv Xr (hr.mono (by decide)) rfl Xu Xw .nil aO (aj (pv 0) ak))) (ao (aY (i:=3) oJ.nd rfl (Or.inl rfl) (bL ak)) (ao (JT PassesOwn.never (eV (cP (b8 (pv 2) SQ SX SN (hr.mono (by decide)) S5 .nil aO))) (ao (aY (i:=4) oJ.nd rfl (Or.inl rfl) (ac9 (X5 (v:=.ref dC) rfl hC rfl) (b8 (pv 2) aQ aU aP (hr.mono (by decide)) aV .nil aO) (fun _ _=>rfl))) (ao (aY (i:=5) oJ.nd rfl (Or.inl rfl) (abW 4 (aj (pv 1) (aj (pv 2) ak)))) (ao (gU (uR PySem.F.plainAttrs_list PySem.F.slot_list_append PySem.F.type_list_append jB (pv 3) (aj (bF aZ (by rfl) T.cZ PySem.boot_len (aj (pv 5) ak)) ak))) (aB (gU (uR PySem.F.plainAttrs_list PySem.F.slot_list_extend PySem.F.type_list_extend Es (pv 3) (aj (pv 5) ak)))))))) (aB (aH (pv 3))))))),?_⟩
  open_ks with [J1]
  obtain ⟨cs,hleft,hlen,ahY⟩:=Xp aeQ
  intro x dx hx hdx ndx
  have sx:aK H (upd (upd H dx (.own x)) x (.ins CC dx [])):=(aK.new hdx).trans (aK.new (by rw [aJ (fun z=>ndx z.symm)];exact hx))
  refine ⟨x,dx,rfl,aA,fun H1 dc lm lt hch Xi=>⟨rfl,fun r dr hr0 hdr ndr=>?_⟩⟩
  have s1:aK H H1:=fun b o hb=>Xi b o (sx b o hb) (bw hb hx)
  have sr:aK H1 (upd (upd H1 dr (.own r)) r (.ins CR dr [])):=(aK.new hdr).trans (aK.new (by rw [aJ (fun z=>ndr z.symm)];exact hr0))
  refine ⟨r,a,dr,rfl,aA,fun H2 hrd kp2=>⟨rfl,fun q hq=>?_⟩⟩
  have s2:aK H1 H2:=fun b o hb=>kp2 b o (sr b o hb) (bw hb hr0)
  have s3:aK H2 (upd H2 q (.lst [])):=aK.new hq
  have s13:=s1.trans (s2.trans s3)
  obtain ⟨dr2,ahZ⟩:=id hrd
  obtain ⟨mas,hlm,_⟩:=id hch.marks
  have D0:cF K CC CR TB (upd H2 q (.lst [])) x r a q Vbreab.start xs 0 (([]:List Int).map V.int):=
   ⟨⟨dc,lm,lt,[],hch.kt (KT.of_same (s2.trans s3)),Ne.symm (bw (s2 _ _ hlm) hq),Ne.symm (bw (s2 _ _ hch.lst) hq),by simp⟩,⟨dr2,s3 _ _ ahZ⟩,⟨o,s13 _ _ ha⟩,zK,aA,st _ _ tb fun b u hb _ _=>s13 b u hb⟩
  unfold Rh
  refine ⟨adM K CC CR TB a x r q xs,⟨cs.length,0,Vbreab.start,[],cs,none,none,rfl,rfl,D0,by rw [List.drop_zero];exact hleft,ahY,by simp;omega⟩,?_⟩
  rintro m σ H3 ⟨k,s',zs,cs',v4,v5,rfl,rfl,D,hl3,abY,hb3⟩
  obtain ⟨dr',hr'⟩:=id D.reader
  open_ks with [iY,hr',HO.ins.injEq,ZV]
  refine ⟨r,a,k,_,rfl,D.reader,D.seq,?_⟩
  rw [List.length_map]
  by_cases hke:xs.length≤k
  ·rw [decide_eq_true hke]
   open_ks with []
   rw [List.drop_eq_nil_of_le hke]at hl3
   rw [hl3.nil]at abY
   have ez:PyVbreab.answers xs=zs:=by rw [abY];exact List.append_nil _
   exact g H3 q (by rw [ez];exact D.told)
  ·rw [decide_eq_false hke]
   open_ks with []
   obtain ⟨p,rest,hdrop⟩:∃p rest,xs.drop k=p::rest:=by
    cases hd:xs.drop k with
    | nil=>rw [List.drop_eq_nil_iff]at hd;exact absurd hd hke
    | cons p rest=>exact ⟨p,rest,rfl⟩
   rw [hdrop]at hl3
   obtain ⟨cc,t,cs2,rfl,⟨i,rd,cl,n,rfl,ah0,hrd,hcall,htd,hrow,_⟩,hl4⟩:=hl3.cons
   obtain ⟨fz,fdz,hget,Fz,kz,bz⟩:=acts i rd ah0
   refine ⟨fun σ' H'=>∃m',m'<(cc::cs2).length∧adM K CC CR TB a x r q xs m' σ' H',fun _ _ z=>z,?_⟩
   unfold adL
   open_ks with [iY,hr',HO.ins.injEq,bT]
   refine D.number st hdrop fun H4 D4 hd4 kp4=>?_
   refine ⟨_,rfl,fz,hget,?_⟩
   rw [←hd4]at hrd
   refine ⟨fz,11,fdz,_,_,rfl,Fz,hr,kz,bz,?_⟩
   open_ks with []
   refine ⟨x,r,a,q,s',xs,k+1,zs.map V.int,cl,n,rfl,D4,hrd,fun H5 pa npq h5 D5=>?_⟩
   have al:=ac6 D4.ok cl hrow
   have cl1:(cc::cs2).length=cs2.length+1:=rfl
   rw [cl1]at hb3
   have hl5:zs.length+1+(Vbreab.step s' cl).2.length≤10000100:=by omega
   have adN:=D5.told
   have ty:=Yw (K:=K) adN
   open_ks with [tBM,qu,ty]
   refine ⟨_,.inl (b7.of h5),?_⟩
   rw [List.length_map]
   refine ⟨_,adN,?_,?_⟩
   ·rw [List.length_map]
    exact Nat.lt_of_le_of_lt (show zs.length≤10000100 by omega) (by decide)
   have D6:=D5.tell st (zs.map V.int++[V.int ((Vbreab.step s' cl).2.length:Int)])
   have h6:upd H5 q (.lst (zs.map V.int++[V.int ((Vbreab.step s' cl).2.length:Int)])) pa=some (.lst ((Vbreab.step s' cl).2.map V.int)):=by rw [aJ npq];exact h5
   have adO:=D6.told
   have ty6:=Yw (K:=K) adO
   open_ks with [tBM,Jd,ty6]
   have D7:=D6.tell st ((zs.map V.int++[V.int ((Vbreab.step s' cl).2.length:Int)])++(Vbreab.step s' cl).2.map V.int)
   have em:(zs++((Vbreab.step s' cl).2.length:Int)::(Vbreab.step s' cl).2).map V.int=(zs.map V.int++[V.int ((Vbreab.step s' cl).2.length:Int)])++(Vbreab.step s' cl).2.map V.int:=by simp
   refine ⟨_,adO,_,h6,?_,cs2.length,by omega,k+1+n,(Vbreab.step s' cl).1,zs++((Vbreab.step s' cl).2.length:Int)::(Vbreab.step s' cl).2,cs2,_,_,rfl,rfl,by rw [em];exact D7,?_,?_,?_⟩
   ·rw [List.length_append,List.length_map,List.length_map]
    exact Nat.le_trans (show zs.length+1+(Vbreab.step s' cl).2.length≤10000100 from hl5) (by decide)
   ·rw [←List.drop_drop,hd4,htd];exact hl4
   ·rw [abY,VM hcall];simp
   ·rw [List.length_append,List.length_cons]
    omega
end
end Ts
namespace Ts
open PySem PySem.Spec PyProof.Rows L2
open Vbreab (Pt State Node Touch)
structure Facts (K:PySem.W.Frag) (mg:Str→Option Value) (CC CR CN CT:Addr):Prop where
 T:Txt mg
 RC:ni K CC
 RR:Zw K CR
 RN:RJ K CN
 RT:acS K CT
 ada:mg "Chart" = some (.ref CC)
 abZ:mg "Reader" = some (.ref CR)
 aeR:mg "Node" = some (.ref CN)
 adb:mg "Touch" = some (.ref CT)
 Xx:∃f fd,cI K "in_range" "in_range" zZ f fd∧mg "in_range" = some (.ref f)
 aeS:∃f fd,cI K "turn" "turn" WM f fd∧mg "turn" = some (.ref f)
 aae:∃f fd,cI K "lies_on" "lies_on" Ff f fd∧mg "lies_on" = some (.ref f)
 OJ:∃f fd,cI K "__init__" "Reader.__init__" tZ f fd∧Mk K CR f
 Im:∃f fd,cI K "at_end" "Reader.at_end" pF f fd∧Meth K CR "at_end" f
 Io:∃f fd,cI K "number" "Reader.number" pG f fd∧Meth K CR "number" f
 S6:∃f fd,cI K "row" "Reader.row" vL f fd∧Meth K CR "row" f
 S7:∃f fd,cI K "pairs_told" "pairs_told" qw f fd∧mg "pairs_told" = some (.ref f)
 S8:∃f fd,cI K "__init__" "Chart.__init__" vM f fd∧Mk K CC f
 S9:∃f fd,cI K "wipe" "Chart.wipe" vN f fd∧Meth K CC "wipe" f
 DY:∃f fd,cI K "has_track" "Chart.has_track" lO f fd∧Meth K CC "has_track" f
 Gn:∃f fd,cI K "new_mark" "Chart.new_mark" nj f fd∧Meth K CC "new_mark" f
 Ea:∃f fd,cI K "new_track" "Chart.new_track" lU f fd∧Meth K CC "new_track" f
 O1:∃f fd,cI K "places_told" "places_told" oU f fd∧mg "places_told" = some (.ref f)
 O2:∃f fd,cI K "first_touch" "first_touch" ue f fd∧mg "first_touch" = some (.ref f)
 Gp:∃f fd,cI K "in_second_half" "in_second_half" nA f fd∧mg "in_second_half" = some (.ref f)
 O3:∃f fd,cI K "seen_sooner" "seen_sooner" uf f fd∧mg "seen_sooner" = some (.ref f)
 Gq:∃f fd,cI K "same_direction" "same_direction" nF f fd∧mg "same_direction" = some (.ref f)
 Tc:∃f fd,cI K "half_turns" "half_turns" vO f fd∧mg "half_turns" = some (.ref f)
 VN:∃f fd,cI K "turn_past" "turn_past" xM f fd∧mg "turn_past" = some (.ref f)
 VP:∃f fd,cI K "laps_past" "laps_past" xN f fd∧mg "laps_past" = some (.ref f)
 Eb:∃f fd,cI K "passes_eastward" "passes_eastward" mF f fd∧mg "passes_eastward" = some (.ref f)
 Mz:∃f fd,cI K "ray_crossing" "ray_crossing" rn f fd∧mg "ray_crossing" = some (.ref f)
 Ec:∃f fd,cI K "marks_in_corner" "marks_in_corner" jb f fd∧mg "marks_in_corner" = some (.ref f)
 O4:∃f fd,cI K "next_caught" "next_caught" uh f fd∧mg "next_caught" = some (.ref f)
 MF:∃f fd,cI K "caught_marks" "caught_marks" rA f fd∧mg "caught_marks" = some (.ref f)
 VR:∃f fd,cI K "__init__" "Node.__init__" xP f fd∧Mk K CN f
 Td:∃f fd,cI K "__init__" "Touch.__init__" vU f fd∧Mk K CT f
 aaf:∃f fd,cI K "turn_at" "turn_at" Fl f fd∧mg "turn_at" = some (.ref f)
 aag:∃f fd,cI K "is_held" "is_held" Fo f fd∧mg "is_held" = some (.ref f)
 Xy:∃f fd,cI K "touch_at" "touch_at" Ao f fd∧mg "touch_at" = some (.ref f)
 ab0:∃f fd,cI K "turned" "turned" KD f fd∧mg "turned" = some (.ref f)
 O5:∃f fd,cI K "nodes_along" "nodes_along" oW f fd∧mg "nodes_along" = some (.ref f)
 Gr:∃f fd,cI K "drawn_straight" "drawn_straight" nQ f fd∧mg "drawn_straight" = some (.ref f)
 Te:∃f fd,cI K "taut_nodes" "taut_nodes" qz f fd∧mg "taut_nodes" = some (.ref f)
 Ip:∃f fd,cI K "string_places" "string_places" jY f fd∧mg "string_places" = some (.ref f)
 Gs:∃f fd,cI K "string_touches" "string_touches" jE f fd∧mg "string_touches" = some (.ref f)
 VV:∃f fd,cI K "in_bounds" "in_bounds" yg f fd∧mg "in_bounds" = some (.ref f)
 Tf:∃f fd,cI K "rates_told" "rates_told" qC f fd∧mg "rates_told" = some (.ref f)
 Tg:∃f fd,cI K "way_counts" "way_counts" qD f fd∧mg "way_counts" = some (.ref f)
 Th:∃f fd,cI K "measure_of" "measure_of" qF f fd∧mg "measure_of" = some (.ref f)
 aah:∃f fd,cI K "winding" "winding" yX f fd∧mg "winding" = some (.ref f)
 MJ:∃f fd,cI K "reduced_word" "reduced_word" rK f fd∧mg "reduced_word" = some (.ref f)
 Ir:∃f fd,cI K "piece_letters" "piece_letters" iz f fd∧mg "piece_letters" = some (.ref f)
 O6:∃f fd,cI K "names_marks" "names_marks" uA f fd∧mg "names_marks" = some (.ref f)
 O7:∃f fd,cI K "course_told" "course_told" oY f fd∧mg "course_told" = some (.ref f)
 O8:∃f fd,cI K "marks_named" "marks_named" oZ f fd∧mg "marks_named" = some (.ref f)
 ade:∃f fd,cI K "meets" "meets" R7 f fd∧mg "meets" = some (.ref f)
 Iu:∃f fd,cI K "taken_touches" "taken_touches" pQ f fd∧mg "taken_touches" = some (.ref f)
 Gu:∃f fd,cI K "sailed_touches" "sailed_touches" nZ f fd∧mg "sailed_touches" = some (.ref f)
 MK:∃f fd,cI K "answer_begin" "answer_begin" rT f fd∧mg "answer_begin" = some (.ref f)
 Gv:∃f fd,cI K "counted_places" "counted_places" n6 f fd∧mg "counted_places" = some (.ref f)
 Iv:∃f fd,cI K "answer_points" "answer_points" pU f fd∧mg "answer_points" = some (.ref f)
 MN:∃f fd,cI K "answer_marks" "answer_marks" rW f fd∧mg "answer_marks" = some (.ref f)
 Iw:∃f fd,cI K "answer_string" "answer_string" pW f fd∧mg "answer_string" = some (.ref f)
 Xz:∃f fd,cI K "has_room" "has_room" Bc f fd∧mg "has_room" = some (.ref f)
 Bs:∃f fd,cI K "made_from_tracks" "made_from_tracks" kZ f fd∧mg "made_from_tracks" = some (.ref f)
 O9:∃f fd,cI K "answer_join" "answer_join" uD f fd∧mg "answer_join" = some (.ref f)
 Pb:∃f fd,cI K "answer_part" "answer_part" uE f fd∧mg "answer_part" = some (.ref f)
 Pg:∃f fd,cI K "answer_wind" "answer_wind" uF f fd∧mg "answer_wind" = some (.ref f)
 Gw:∃f fd,cI K "answer_measure" "answer_measure" oh f fd∧mg "answer_measure" = some (.ref f)
 MP:∃f fd,cI K "answer_sails" "answer_sails" su f fd∧mg "answer_sails" = some (.ref f)
 MT:∃f fd,cI K "answer_touch" "answer_touch" sE f fd∧mg "answer_touch" = some (.ref f)
 M3:∃f fd,cI K "answer_track" "answer_track" sG f fd∧mg "answer_track" = some (.ref f)
 Ph:∃f fd,cI K "answer_mark" "answer_mark" uH f fd∧mg "answer_mark" = some (.ref f)
 XC:∃f fd,cI K "lengthen" "lengthen" Bj f fd∧mg "lengthen" = some (.ref f)
 Pj:∃f fd,cI K "answer_more" "answer_more" uI f fd∧mg "answer_more" = some (.ref f)
 Ti:∃f fd,cI K "answer_put" "answer_put" wF f fd∧mg "answer_put" = some (.ref f)
 Gx:∃f fd,cI K "rays_from_west" "rays_from_west" cJ f fd∧mg "rays_from_west" = some (.ref f)
 aai:∃f fd,cI K "word_of" "word_of" Gh f fd∧mg "word_of" = some (.ref f)
 Ed:∃f fd,cI K "reduced_letters" "reduced_letters" mR f fd∧mg "reduced_letters" = some (.ref f)
 Pk:∃f fd,cI K "answer_word" "answer_word" uJ f fd∧mg "answer_word" = some (.ref f)
 Gy:∃f fd,cI K "answer_reduced" "answer_reduced" oG f fd∧mg "answer_reduced" = some (.ref f)
 M4:∃f fd,cI K "answer_alike" "answer_alike" sS f fd∧mg "answer_alike" = some (.ref f)
 Gz:∃f fd,cI K "answer_reverse" "answer_reverse" oH f fd∧mg "answer_reverse" = some (.ref f)
 aaj:∃f fd,cI K "answers" "answers" zf f fd∧mg "answers" = some (.ref f)
section
variable {P:Program} {w:World} {K:PySem.W.Frag} {mg:Str→Option Value} {base:Heap} {f:Addr} {fd:FuncData} {CC CR CN CT:Addr} {TB:Hp→Prop}
theorem aeT {us:List Value} (h:us.length=1):∃a,us=[a]:=by
 match us,h with
 | [a],_=>exact ⟨a,rfl⟩
theorem aeU {us:List Value} (h:us.length=2):∃a b,us=[a,b]:=by
 match us,h with
 | [a,b],_=>exact ⟨a,b,rfl⟩
theorem aeV {us:List Value} (h:us.length=3):∃a b c,us=[a,b,c]:=by
 match us,h with
 | [a,b,c],_=>exact ⟨a,b,c,rfl⟩
theorem aeW {us:List Value} (h:us.length=4):∃a b c d,us=[a,b,c,d]:=by
 match us,h with
 | [a,b,c,d],_=>exact ⟨a,b,c,d,rfl⟩
theorem aeX {us:List Value} (h:us.length=5):∃a b c d e,us=[a,b,c,d,e]:=by
 match us,h with
 | [a,b,c,d,e],_=>exact ⟨a,b,c,d,e,rfl⟩
theorem aeY {us:List Value} (h:us.length=6):∃a b c d e f,us=[a,b,c,d,e,f]:=by
 match us,h with
 | [a,b,c,d,e,f],_=>exact ⟨a,b,c,d,e,f,rfl⟩
theorem bO (P:Program) (w:World) (base:Heap) {x:Str} {st:Stmt} {k:Nat} {ps:List Str} {sp:Sp} (H:∃f fd,cI K x x st f fd∧mg x=some (.ref f)) (ok:∀f fd,cI K x x st f fd→mg x=some (.ref f)→cz P w K mg base fH k f fd ps sp)
  (hb:∀(kV doc pm:Value) (an:Option Addr) (cdv ct:Value) (us:List Value),us.length=ps.length→bindArgs (PySem.W.fnOf x x (oR st) (iZ st) (aF st) .none kV doc pm an cdv ct) ⟨us,[]⟩=pure (ps.zip us):=by (intro _ _ _ _ _ _ us hl;first | (obtain ⟨_,rfl⟩:=aeT hl;rfl) | (obtain ⟨_,_,rfl⟩:=aeU hl;rfl) | (obtain ⟨_,_,_,rfl⟩:=aeV hl;rfl) | (obtain ⟨_,_,_,_,rfl⟩:=aeW hl;rfl) | (obtain ⟨_,_,_,_,_,rfl⟩:=aeX hl;rfl) | (obtain ⟨_,_,_,_,_,_,rfl⟩:=aeY hl;rfl))):ik P w K mg base x k ps sp:=by
 obtain ⟨f,fd,F,m⟩:=H
 exact ⟨f,fd,ok f fd F m,m,F.kp,F.binds hb⟩
theorem Bt (P:Program) (w:World) (base:Heap) {C:Addr} {x q:Str} {st:Stmt} {k:Nat} {ps:List Str} {sp:Sp} (H:∃f fd,cI K x q st f fd∧Meth K C x f) (cl:Uq K C) (ok:∀f fd,cI K x q st f fd→cz P w K mg base fH k f fd ps sp)
  (hb:∀(kV doc pm:Value) (an:Option Addr) (cdv ct:Value) (us:List Value),us.length=ps.length→bindArgs (PySem.W.fnOf x q (oR st) (iZ st) (aF st) .none kV doc pm an cdv ct) ⟨us,[]⟩=pure (ps.zip us):=by (intro _ _ _ _ _ _ us hl;first | (obtain ⟨_,rfl⟩:=aeT hl;rfl) | (obtain ⟨_,_,rfl⟩:=aeU hl;rfl) | (obtain ⟨_,_,_,rfl⟩:=aeV hl;rfl) | (obtain ⟨_,_,_,_,rfl⟩:=aeW hl;rfl) | (obtain ⟨_,_,_,_,_,rfl⟩:=aeX hl;rfl) | (obtain ⟨_,_,_,_,_,_,rfl⟩:=aeY hl;rfl))):Met P w K mg base C x k ps sp:=by
 obtain ⟨f,fd,F,m⟩:=H
 exact ⟨f,fd,ok f fd F,cl,m,F.binds hb⟩
theorem Tj (P:Program) (w:World) (base:Heap) {C:Addr} {n q:Str} {st:Stmt} {k:Nat} {ps:List Str} {sp:Sp} (H:∃f fd,cI K "__init__" q st f fd∧Mk K C f) (hn:mg n=some (.ref C)) (ok:∀f fd,cI K "__init__" q st f fd→cz P w K mg base fH k f fd ps sp)
  (hb:∀(kV doc pm:Value) (an:Option Addr) (cdv ct:Value) (us:List Value),us.length=ps.length→bindArgs (PySem.W.fnOf "__init__" q (oR st) (iZ st) (aF st) .none kV doc pm an cdv ct) ⟨us,[]⟩=pure (ps.zip us):=by (intro _ _ _ _ _ _ us hl;first | (obtain ⟨_,rfl⟩:=aeT hl;rfl) | (obtain ⟨_,_,rfl⟩:=aeU hl;rfl) | (obtain ⟨_,_,_,rfl⟩:=aeV hl;rfl) | (obtain ⟨_,_,_,_,rfl⟩:=aeW hl;rfl) | (obtain ⟨_,_,_,_,_,rfl⟩:=aeX hl;rfl) | (obtain ⟨_,_,_,_,_,_,rfl⟩:=aeY hl;rfl))):Mak P w K mg base n C k ps sp:=by
 obtain ⟨f,fd,F,m⟩:=H
 exact ⟨f,fd,ok f fd F,hn,m,F.binds hb⟩
noncomputable abbrev adP (P:Program) (w:World) (K:PySem.W.Frag) (mg:Str→Option Value) (base:Heap) (CC CR:Addr) (TB:Hp→Prop) (dC:Addr) (i:Nat) (rd:Rdr):Prop:=∃f fd,KGet P w K dC (i:Int) f∧cz P w K mg base fH 11 f fd ["chart","reader"] (f9 K CC CR TB rd)∧PySem.W.keepIn K (.ref f)=true∧Binds K fd ["chart","reader"] []
theorem iW {dC:Addr} {x:Str} {i:Nat} {rd:Rdr} (c:ik P w K mg base x 11 ["chart","reader"] (f9 K CC CR TB rd)) (k:∃f,mg x=some (.ref f)∧KGet P w K dC i f):adP P w K mg base CC CR TB dC i rd:=by
 obtain ⟨f,fd,F,m,kp,b⟩:=c
 obtain ⟨g,e,kg⟩:=k
 have:=m.symm.trans e
 cases this
 exact ⟨f,fd,kg,F,kp,b⟩
theorem ab1 {p:Nat→Rdr→Prop} (h0:p 0 yp) (h1:p 1 Dg) (h2:p 2 yq) (h3:p 3 yr) (h4:p 4 Dh) (h5:p 5 Lk) (h6:p 6 uY) (h7:p 7 Di) (h8:p 8 rP) (h9:p 9 uZ) (h10:p 10 yt) (h11:p 11 yu) (h12:p 12 Dj) (h13:p 13 rQ) (h14:p 14 Dk) (h15:p 15 Dl) (j4:p 16 rR) (h17:p 17 yw):∀(i:Nat) (rd:Rdr),rds[i]?=some rd→p i rd:=by
 intro i rd h
 match i,h with
 | 0,h=>cases (show some yp=some rd from h);exact h0
 | 1,h=>cases (show some Dg=some rd from h);exact h1
 | 2,h=>cases (show some yq=some rd from h);exact h2
 | 3,h=>cases (show some yr=some rd from h);exact h3
 | 4,h=>cases (show some Dh=some rd from h);exact h4
 | 5,h=>cases (show some Lk=some rd from h);exact h5
 | 6,h=>cases (show some uY=some rd from h);exact h6
 | 7,h=>cases (show some Di=some rd from h);exact h7
 | 8,h=>cases (show some rP=some rd from h);exact h8
 | 9,h=>cases (show some uZ=some rd from h);exact h9
 | 10,h=>cases (show some yt=some rd from h);exact h10
 | 11,h=>cases (show some yu=some rd from h);exact h11
 | 12,h=>cases (show some Dj=some rd from h);exact h12
 | 13,h=>cases (show some rQ=some rd from h);exact h13
 | 14,h=>cases (show some Dk=some rd from h);exact h14
 | 15,h=>cases (show some Dl=some rd from h);exact h15
 | 16,h=>cases (show some rR=some rd from h);exact j4
 | 17,h=>cases (show some yw=some rd from h);exact h17
 | n+18,h=>simp [rds]at h
theorem aeZ {Pa dC:Addr} (X:Facts K mg CC CR CN CT) (st:za TB) (t1:∀H,TB H→uK Pa (Mu yJ) wI H) (t2:∀H H',TB H→KT H H'→uK Pa (Mu yJ) wI H'→TB H') (hbl:QQ mg base)
  (hcc:∀f fd,cI K "rays_from_west" "rays_from_west" cJ f fd→mg "rays_from_west" = some (.ref f)→∃cc,fd.code=.ref cc∧PySem.W.codeHdIn K cc Pa=true)
  (hC:mg "CALLS" = some (.ref dC)) (hK:(∃f,mg "answer_begin" = some (.ref f)∧KGet P w K dC 0 f)∧(∃f,mg "answer_mark" = some (.ref f)∧KGet P w K dC 1 f)∧(∃f,mg "answer_track" = some (.ref f)∧KGet P w K dC 2 f)∧(∃f,mg "answer_touch" = some (.ref f)∧KGet P w K dC 3 f)∧(∃f,mg "answer_more" = some (.ref f)∧KGet P w K dC 4 f)∧(∃f,mg "answer_put" = some (.ref f)∧KGet P w K dC 5 f)∧(∃f,mg "answer_points" = some (.ref f)∧KGet P w K dC 6 f)∧(∃f,mg "answer_word" = some (.ref f)∧KGet P w K dC 7 f)∧(∃f,mg "answer_reduced" = some (.ref f)∧KGet P w K dC 8 f)∧(∃f,mg "answer_string" = some (.ref f)∧KGet P w K dC 9 f)∧(∃f,mg "answer_alike" = some (.ref f)∧KGet P w K dC 10 f)∧(∃f,mg "answer_sails" = some (.ref f)∧KGet P w K dC 11 f)∧(∃f,mg "answer_wind" = some (.ref f)∧KGet P w K dC 12 f)∧(∃f,mg "answer_reverse" = some (.ref f)∧KGet P w K dC 13 f)∧(∃f,mg "answer_join" = some (.ref f)∧KGet P w K dC 14 f)∧(∃f,mg "answer_part" = some (.ref f)∧KGet P w K dC 15 f)∧(∃f,mg "answer_measure" = some (.ref f)∧KGet P w K dC 16 f)∧(∃f,mg "answer_marks" = some (.ref f)∧KGet P w K dC 17 f))
  (aak:cI K "answers" "answers" zf f fd):cz P w K mg base fH 12 f fd ["calls"] (sU TB):=by
 have gY:=bO P w base X.Xx fun f fd F m=>U4 F X.T
 have eX:=bO P w base X.aeS fun f fd F m=>acM F X.T
 have qK:=bO P w base X.aae fun f fd F m=>WN F X.T eX
 have My:=Tj P w base X.OJ X.abZ fun f fd F=>Kg (C:=CR) F X.T X.RR
 have Br:=Bt P w base X.Im X.RR.cl fun f fd F=>Fi (C:=CR) F X.T X.RR
 have aX:=Bt P w base X.Io X.RR.cl fun f fd F=>Fj (C:=CR) F X.T X.RR
 have ie:=Bt P w base X.S6 X.RR.cl fun f fd F=>Nv (C:=CR) F X.T X.RR aX
 have fj:=bO P w base X.S7 fun f fd F m=>Ny F X.T
 have SM:=Tj P w base X.S8 X.ada fun f fd F=>NB (C:=CC) F X.T X.RC
 have Lq:=Bt P w base X.S9 X.RC.cl fun f fd F=>NP (C:=CC) F X.T X.RC
 have aL:=Bt P w base X.DY X.RC.cl fun f fd F=>z8 (C:=CC) F X.T X.RC
 have wz:=Bt P w base X.Gn X.RC.cl fun f fd F=>Cr (C:=CC) F X.T X.RC
 have iU:=Bt P w base X.Ea X.RC.cl fun f fd F=>Ab (C:=CC) F X.T X.RC
 have dF:=bO P w base X.O1 fun f fd F m=>Kh F X.T gY fj
 have dG:=bO P w base X.O2 fun f fd F m=>Km F X.T qK
 have nD:=bO P w base X.Gp fun f fd F m=>Cw F X.T
 have iR:=bO P w base X.O3 fun f fd F m=>Kr F X.T nD eX
 have nG:=bO P w base X.Gq fun f fd F m=>Cy F X.T eX
 have vQ:=bO P w base X.Tc fun f fd F m=>NT F X.T iR eX nG
 have xQ:=bO P w base X.VN fun f fd F m=>RB F X.T vQ
 have yd:=bO P w base X.VP fun f fd F m=>RD F X.T iR
 have dX:=bO P w base X.Eb fun f fd F m=>Ak F X.T eX
 have gM:=bO P w base X.Mz fun f fd F m=>Hs F X.T dX
 have mG:=bO P w base X.Ec fun f fd F m=>Al F X.T eX
 have uo:=bO P w base X.O4 fun f fd F m=>Kz F X.T qK eX
 have rD:=bO P w base X.MF fun f fd F m=>Ht F X.T mG uo
 have vW:=Tj P w base X.VR X.aeR fun f fd F=>RL (CN:=CN) F X.T X.RN
 have RM:=Tj P w base X.Td X.adb fun f fd F=>N5 (CT:=CT) F X.T X.RT
 have qL:=bO P w base X.aaf fun f fd F m=>WY (CN:=CN) X.RN F X.T xQ
 have Fx:=bO P w base X.aag fun f fd F m=>W2 (CN:=CN) X.RN F X.T qL
 have Ay:=bO P w base X.Xy fun f fd F m=>U8 (CN:=CN) (CT:=CT) X.RN F X.T qL RM
 have KN:=bO P w base X.ab0 fun f fd F m=>ZJ (CN:=CN) X.RN F X.T gM vW
 have ur:=bO P w base X.O5 fun f fd F m=>KH (CN:=CN) F X.T yd vW
 have nR:=bO P w base X.Gr fun f fd F m=>CK (CN:=CN) X.RN F X.T eX rD ur KN
 have jD:=bO P w base X.Te fun f fd F m=>Oh (CN:=CN) F X.T vW Fx nR
 have qb:=bO P w base X.Ip fun f fd F m=>FN X.RN F X.T jD
 have fD:=bO P w base X.Gs fun f fd F m=>CV (CT:=CT) X.RN F X.T jD Ay
 have yh:=bO P w base X.VV fun f fd F m=>R5 F X.T
 have wu:=bO P w base X.Tf fun f fd F m=>Oj F X.T fj yh
 have vY:=bO P w base X.Tg fun f fd F m=>Ot F X.T
 have wy:=bO P w base X.Th fun f fd F m=>Ou F X.T vY
 have Gf:=bO P w base X.aah fun f fd F m=>W7 F X.T gM
 have sJ:=bO P w base X.MJ fun f fd F m=>Hz F X.T
 have qi:=bO P w base X.Ir fun f fd F m=>FP F X.T dX
 have uB:=bO P w base X.O6 fun f fd F m=>Ld F X.T
 have uG:=bO P w base X.O7 fun f fd F m=>Lf F X.T fj uB
 have uC:=bO P w base X.O8 fun f fd F m=>Lg F X.T
 have R9:=bO P w base X.ade fun f fd F m=>aby (CT:=CT) X.RT F X.T
 have pR:=bO P w base X.Iu fun f fd F m=>FT (CT:=CT) F X.T R9
 have oA:=bO P w base X.Gu fun f fd F m=>CZ F X.T uC fD pR
 have M5:=bO P w base X.MK fun f fd F m=>HW (CC:=CC) (CR:=CR) (TB:=TB) st F X.T Lq
 have fG:=bO P w base X.Gv fun f fd F m=>Dm F X.T
 have Iz:=bO P w base X.Iv fun f fd F m=>Gd (CC:=CC) (CR:=CR) (TB:=TB) st X.RC F X.T aX aL fG
 have M6:=bO P w base X.MN fun f fd F m=>HY (CC:=CC) (CR:=CR) (TB:=TB) st X.RC F X.T fG
 have IK:=bO P w base X.Iw fun f fd F m=>Ge (CC:=CC) (CR:=CR) (TB:=TB) st X.RC X.RT F X.T aX aL fD
 have n8:=bO P w base X.Xz fun f fd F m=>Vo (CC:=CC) X.RC F X.T
 have cM:=bO P w base X.Bs fun f fd F m=>zx (CC:=CC) (CR:=CR) (TB:=TB) st F X.T n8 iU
 have Pn:=bO P w base X.O9 fun f fd F m=>Ls (CC:=CC) (CR:=CR) (TB:=TB) st X.RC F X.T aX aL cM
 have Pq:=bO P w base X.Pb fun f fd F m=>Lx (CC:=CC) (CR:=CR) (TB:=TB) st X.RC F X.T aX aL cM
 have Pr:=bO P w base X.Pg fun f fd F m=>Ly (CC:=CC) (CR:=CR) (TB:=TB) st X.RC F X.T aX aL Gf
 have GC:=bO P w base X.Gw fun f fd F m=>Dr (CC:=CC) (CR:=CR) (TB:=TB) st X.RC F X.T aX ie wu aL wy qb
 have M7:=bO P w base X.MP fun f fd F m=>Ia (CC:=CC) (CR:=CR) (TB:=TB) st X.RC F X.T aX ie uG aL oA
 have M8:=bO P w base X.MT fun f fd F m=>Ii (CC:=CC) (CR:=CR) (TB:=TB) st X.RC F X.T ie dF dG
 have M9:=bO P w base X.M3 fun f fd F m=>Ij (CC:=CC) (CR:=CR) (TB:=TB) st X.RC F X.T ie dF n8 dG iU
 have Pu:=bO P w base X.Ph fun f fd F m=>Mg (CC:=CC) (CR:=CR) (TB:=TB) st X.RC F X.T aX gY wz
 have oE:=bO P w base X.XC fun f fd F m=>Vx (CC:=CC) (CR:=CR) (TB:=TB) st X.RC F X.T dG
 have Px:=bO P w base X.Pj fun f fd F m=>Mm (CC:=CC) (CR:=CR) (TB:=TB) st X.RC F X.T aX ie dF aL oE
 have Tp:=bO P w base X.Ti fun f fd F m=>Ox (CC:=CC) (CR:=CR) (TB:=TB) st X.RC F X.T aX gY aL oE
 have oF:=bO P w base X.Gx fun f fd F m=>DW (TB:=TB) t1 t2 hbl F (hcc f fd F m) X.T
 have qM:=bO P w base X.aai fun f fd F m=>Xl (TB:=TB) st F X.T oF qi
 have dZ:=bO P w base X.Ed fun f fd F m=>Bq (CC:=CC) (TB:=TB) st X.RC F X.T qM sJ
 have Py:=bO P w base X.Pk fun f fd F m=>Mq (CC:=CC) (CR:=CR) (TB:=TB) st X.RC F X.T aX aL qM
 have GD:=bO P w base X.Gy fun f fd F m=>DN (CC:=CC) (CR:=CR) (TB:=TB) st X.RC F X.T aX aL dZ
 have Nb:=bO P w base X.M4 fun f fd F m=>Ik (CC:=CC) (CR:=CR) (TB:=TB) st X.RC F X.T aX aL dZ
 have GF:=bO P w base X.Gz fun f fd F m=>DX (CC:=CC) (CR:=CR) (TB:=TB) st X.RC F X.T aX aL cM
 have acts:=ab1 (p:=adP P w K mg base CC CR TB dC) (iW M5 hK.1) (iW Pu hK.2.1) (iW M9 hK.2.2.1) (iW M8 hK.2.2.2.1) (iW Px hK.2.2.2.2.1) (iW Tp hK.2.2.2.2.2.1) (iW Iz hK.2.2.2.2.2.2.1) (iW Py hK.2.2.2.2.2.2.2.1) (iW GD hK.2.2.2.2.2.2.2.2.1) (iW IK hK.2.2.2.2.2.2.2.2.2.1) (iW Nb hK.2.2.2.2.2.2.2.2.2.2.1) (iW M7 hK.2.2.2.2.2.2.2.2.2.2.2.1) (iW Pr hK.2.2.2.2.2.2.2.2.2.2.2.2.1) (iW GF hK.2.2.2.2.2.2.2.2.2.2.2.2.2.1) (iW Pn hK.2.2.2.2.2.2.2.2.2.2.2.2.2.2.1) (iW Pq hK.2.2.2.2.2.2.2.2.2.2.2.2.2.2.2.1) (iW GC hK.2.2.2.2.2.2.2.2.2.2.2.2.2.2.2.2.1) (iW M6 hK.2.2.2.2.2.2.2.2.2.2.2.2.2.2.2.2.2)
 exact Xq st X.RC X.RR hC acts aak X.T SM My Br aX
end
open PySem.W (WData WellAll Codec OpenSpec)
noncomputable abbrev ae0 (Pa:Addr):Hp→Prop:=fun H=>uK Pa (Mu yJ) wI H
theorem ae1 (Pa:Addr):za (ae0 Pa):=by
 rintro H H' ⟨ps,h1,h2,h3⟩ k
 refine ⟨ps,k _ _ h1 (by intro _ z;cases z) (by intro _ _ _ z;cases z),h2,h3.imp id ?_⟩
 rintro ⟨c',oc,vs,t,a,b,c⟩
 exact ⟨c',oc,vs,t,a,k _ _ b (by intro _ z;cases z) (by intro _ _ _ z;cases z),c⟩
noncomputable def Tq (K:PySem.W.Frag):Prop:=∀a o,K.lookup a=some o→o.cls≠.type "list"
theorem QR:∀{K:PySem.W.Frag} {a:Addr} {o:Obj},K.lookup a=some o→(a,o)∈K
 | [],_,_,h=>by simp [List.lookup]at h
 | (b,u)::K,a,o,h=>by
  rw [List.lookup_cons]at h
  split at h
  ·rename_i e
   have e':a=b:=by simpa using e
   cases h
   rw [e'];exact List.mem_cons_self
  ·exact List.mem_cons_of_mem _ (QR h)
theorem XD {K:PySem.W.Frag} (h:(K.all fun p=>!(p.2.cls == .type "list"))=true):Tq K:=by
 intro a o e hc
 have:=List.all_eq_true.1 h (a,o) (QR e)
 simp [hc]at this
theorem adf {P:Program} {w:World} {K:PySem.W.Frag} {mg mb:Str→Option Value} {fa cc Pa:Addr} {fd:FuncData} {s1:Shared} {vals:List Value} {ns:List Int} {cl:Str→Option Addr}
  (KX:K.In s1.heap) (hns:s1.heap.Ns mainGlobals mg) (hb:s1.heap.Ns builtinsNs mb) (hbb:∀x:Str,x ≠ "__name__" → mb x=bootBuiltins x) (hlim:s1.heap.NoLimit) (hg:s1.gens=#[])
  (hwl:WellAll w.params s1.heap vals [.list (ns.map WData.int)]) (hwt:∀d∈[WData.list (ns.map WData.int)],d.weight≤1048576)
  (hbm:QQ mg s1.heap) (htab:s1.heap.TableAt cc Pa #[]) (hPK:K.lookup Pa=none) (hst:Pa≠cStatics) (hNL:Tq K) (aeQ:PyVbreab.answers_asked ns=true)
  (F:∀base:Heap,K.In base→base.Ns mainGlobals mg→QQ mg base→cz P w K mg base fH 12 fa fd ["calls"] (sU (ae0 Pa))) (hbind:∀(s:Shared) (us:List Value),us.length=1→BindsTo s fd ⟨us,[]⟩ ((["calls"]:List Str).zip us)) :
  codeAny (model P w) callerA (.call (.ref fa) ⟨vals,[]⟩) (fun r s'=>∃u as,r=.ok (.ret u)∧PySem.W.ReadsW [] cl s'.heap u (.list ((PyVbreab.answers ns).map WData.int)) as∧OldK s1.heap s'.heap∧s'.os=s1.os∧AllBare s'.gens) s1:=by
 have hpi:∀l:List Int,Rp (l.map WData.int)=true:=fun l=>by
  induction l with
  | nil=>rfl
  | cons x l ih=>exact Bool.and_eq_true_iff.2 ⟨rfl,ih⟩
 have hpl:Rp [WData.list (ns.map WData.int)]=true:=Bool.and_eq_true_iff.2 ⟨hpi ns,rfl⟩
 obtain ⟨A,ho,ar⟩:=Cp _ vals hwl hpl hwt
 have hO:ady (sW K s1.heap A):=Zt ar
 have hok:zg P w (sW K s1.heap A) s1.heap:=acH ar
 have hS:=Rq KX ar _ vals hwl hpl ho
 have hV:=uU ho
 have hK:∀b u,sW K s1.heap A b=some u→K.lookup b=none:=fun b u q=>(Jg ar q).1
 have noO:∀{b:Addr} {o:Obj},s1.heap.get? b=some o→(∀vs n,o.data≠.seq vs n)→sW K s1.heap A b=none:=fun {b o} e d=>by
  cases q:sW K s1.heap A b with
  | none=>rfl
  | some u=>
   obtain ⟨_,vs,_,_,⟨e2,_⟩ | ⟨e2,_⟩⟩:=Jg ar q
   ·rw [e2]at e;cases e;exact absurd rfl (d _ _)
   ·rw [e2]at e;cases e;exact absurd rfl (d _ _)
 have hPn:sW K s1.heap A Pa=none:=noO htab.2 (fun _ _ z=>nomatch z)
 have hb2:∃bm o,mg "__builtins__" = some (.ref bm)∧bm≠builtinsNs∧s1.heap.get? bm=some o∧o.cls=.type "module" ∧ o.dict=some builtinsNs∧o.data=.plain∧sW K s1.heap A bm=none:=by
  obtain ⟨bm,o,a1,a2,a3,a4,a5,a6⟩:=hbm
  exact ⟨bm,o,a1,a2,a3,a4,a5,a6,noO a3 (fun _ _ z=>by rw [a6]at z;cases z)⟩
 have noD:∀{b:Addr} {o:Obj} {es:Array DictEntry} {ep:Nat},s1.heap.get? b=some o→o.data=.dict es ep→sW K s1.heap A b=none:=fun {b o es ep} e d=>noO e (fun _ _ z=>by rw [d]at z;cases z)
 generalize sW K s1.heap A=H0 at hO hok hS hK hPn hb2 noD
 obtain ⟨bm,ob,a1,a2,a3,a4,a5,a6,a7⟩:=hb2
 have neP:∀b u,H0 b=some u→upd H0 Pa (.Ja #[]) b=some u:=fun b u e=>by rw [aJ (bw e hPn)];exact e
 have ah3:zg P w (upd H0 Pa (.Ja #[])) s1.heap:=fun b u e=>by
  by_cases hbP:b=Pa
  ·subst hbP;rw [aA]at e;cases e;exact htab.2
  ·rw [aJ hbP]at e
   exact (hok b u e).stay (fun _ _ _ q=>q) (fun c q=>neP _ _ q) (fun c xs q=>neP _ _ q)
 have nP:∀{b:Addr} {o:Obj},s1.heap.get? b=some o→(∀vs,o.data≠.fields vs)→b≠Pa:=fun {b o} e d z=>by rw [z,htab.2]at e;cases e;exact d _ rfl
 have Tr:∀{b:Addr} {o:Obj},s1.heap.get? b=some o→H0 b=none→b≠Pa→(Np s1.heap (upd H0 Pa (.Ja #[]))).get? b=some o:=fun e n h=>aaL e (by rw [aJ h];exact n)
 have nsK:∀{b:Addr} {m:Str→Option Value},s1.heap.Ns b m→(Np s1.heap (upd H0 Pa (.Ja #[]))).Ns b m:=fun {b m} ⟨o,es,ep,e,d,r⟩=>⟨o,es,ep,Tr e (noD e d) (nP e (fun _ z=>by rw [d]at z;cases z)),d,r⟩
 have nK:∀b o,K.lookup b=some o→H0 b=none∧b≠Pa:=fun b o e=>by
  refine ⟨?_,fun z=>by rw [z,hPK]at e;cases e⟩
  cases q:H0 b with
  | none=>rfl
  | some u=>rw [hK b u q]at e;cases e
 have hKb:K.In (Np s1.heap (upd H0 Pa (.Ja #[]))):=fun b o e=>Tr (KX b o e) (nK b o e).1 (nK b o e).2
 have hM:Mod K mg (Np s1.heap (upd H0 Pa (.Ja #[]))):=⟨hKb,nsK hns,⟨mb,nsK hb,hbb⟩,let ⟨mc,h1,h2⟩:=hlim;⟨mc,nsK h1,h2⟩⟩
 have hbl:QQ mg (Np s1.heap (upd H0 Pa (.Ja #[]))):=⟨bm,ob,a1,a2,Tr a3 a7 (nP a3 (fun _ z=>by rw [a6]at z;cases z)),a4,a5,a6⟩
 have e0:Ws P w K mg (Np s1.heap (upd H0 Pa (.Ja #[]))) callerA [] s1 (upd H0 Pa (.Ja #[])):=⟨rfl,hM,fun b o e=>aci e,Nat.le_of_eq (Y9 _ _),trivial,fun b hb=>absurd (show b∈([]:List Addr) from hb) (by simp),ah3,.of_eq hg⟩
 have hl:vals.length=1:=by rw [tE hwl];rfl
 have hr:lN 12 callerA:=⟨rfl,by decide,by decide⟩
 have hsp:sU (ae0 Pa) (vals.map toV) (upd H0 Pa (.Ja #[])) (fun v H'=>∃q,v=.ref q∧H' q=some (.lst ((PyVbreab.answers ns).map V.int))) fun _ _ _=>False:=by
  generalize vals.map toV=xs at hS
  cases hS with
  | cons h1 h2=>
   cases h2
   cases h1 with
   | lst hs ha=>
    have e:=L2.Yp ns _ ha
    subst e
    rename_i a
    have ae2:∃o,H0 a=some (.G4 o (.lst (ns.map V.int))):=by
     rcases hs with (hs | ⟨o,hs⟩) | ⟨o,its,n,hk,hc,_⟩
     ·rcases hO a with z | ⟨o,u,z⟩
      ·rw [z]at hs;cases hs
      ·rw [z]at hs;cases hs
     ·exact ⟨o,hs⟩
     ·exact absurd hc (hNL a o hk)
    obtain ⟨o,ae2⟩:=ae2
    exact ⟨a,ns,o,rfl,neP _ _ ae2,aeQ,⟨#[],aA,trivial,.inl rfl⟩,fun H' q hq=>⟨q,rfl,hq⟩⟩
 refine codeAny_mono ((F _ hKb (nsK hns) hbl).run callerA [] s1 (upd H0 Pa (.Ja #[])) ⟨vals,[]⟩ vals (vals.map toV) _ _ hr e0 (hbind s1 vals hl) hV hsp) fun r s' x=>?_
 cases r with
 | error e=>exact (show False from x).elim
 | ok fl=>
  cases fl with
  | next=>exact False.elim x
  | brk=>exact False.elim x
  | cont=>exact False.elim x
  | ret u=>
   obtain ⟨v,H',os,bare,un,hok',r',q0,rfl,hq⟩:=x
   have kept:∀b o,b≠Pa→s1.heap.get? b=some o→s'.heap.get? b=some o:=fun b o hbP e=>by
    cases q2:H0 b with
    | none=>exact un.keep b o e (by rw [aJ hbP];exact q2) (by intro z;exact absurd (show b∈([]:List Addr) from z) (by simp)) (by simp)
    | some u2=>
     rcases hO b with z | ⟨ob,u3,z⟩
     ·rw [q2]at z;cases z
     ·have z2:=un.Rf b ob _ (neP _ _ z)
      obtain ⟨e1,_⟩:=hok b _ z
      obtain ⟨e2,_⟩:=hok' b _ z2
      rw [e]at e1
      cases e1
      exact e2
   have KX':K.In s'.heap:=fun b o e=>kept b o (nK b o e).2 (KX b o e)
   obtain ⟨more,htb⟩:=un.Rg Pa #[] aA
   have ah4:s'.heap.get? Pa=some { cls:=.none,data:=.fields (#[]++more) }:=hok' Pa _ htb
   obtain ⟨⟨oc,vs,c1,c2,c3,c4⟩,_⟩:=id htab
   have htab':s'.heap.TableAt cc Pa (#[]++more):=⟨⟨oc,vs,kept _ _ (fun z=>by rw [z,htab.2]at c1;cases c1;cases c2) c1,c2,c3,c4⟩,ah4⟩
   obtain ⟨as,hrd⟩:=Dw.reads (R:=[]) (cl:=cl) hok' KX' (.list ((PyVbreab.answers ns).map WData.int)) (.ref q0) u (.lst (b7.of hq) (Yo _)) r'
   exact ⟨u,as,rfl,hrd,OldK.step_table (OldK.of_keep fun _ _ e=>e) htab htab htab' (fun b o hb e=>kept b o hb e) hst,os,bare⟩
noncomputable def Ready (P:Program) (w:World) (K:PySem.W.Frag) (mg:Str→Option Value):Prop:=∃(CC CR CN CT dC fr cc Pa:Addr) (fdr:FuncData) (oc:Value) (od:Option Addr) (osl:Array (Option Value)),Facts K mg CC CR CN CT∧mg "CALLS" = some (.ref dC)∧((∃f,mg "answer_begin" = some (.ref f)∧KGet P w K dC 0 f)∧(∃f,mg "answer_mark" = some (.ref f)∧KGet P w K dC 1 f)∧(∃f,mg "answer_track" = some (.ref f)∧KGet P w K dC 2 f)∧(∃f,mg "answer_touch" = some (.ref f)∧KGet P w K dC 3 f)∧(∃f,mg "answer_more" = some (.ref f)∧KGet P w K dC 4 f)∧(∃f,mg "answer_put" = some (.ref f)∧KGet P w K dC 5 f)∧(∃f,mg "answer_points" = some (.ref f)∧KGet P w K dC 6 f)∧(∃f,mg "answer_word" = some (.ref f)∧KGet P w K dC 7 f)∧(∃f,mg "answer_reduced" = some (.ref f)∧KGet P w K dC 8 f)∧(∃f,mg "answer_string" = some (.ref f)∧KGet P w K dC 9 f)∧(∃f,mg "answer_alike" = some (.ref f)∧KGet P w K dC 10 f)∧(∃f,mg "answer_sails" = some (.ref f)∧KGet P w K dC 11 f)∧(∃f,mg "answer_wind" = some (.ref f)∧KGet P w K dC 12 f)∧(∃f,mg "answer_reverse" = some (.ref f)∧KGet P w K dC 13 f)∧(∃f,mg "answer_join" = some (.ref f)∧KGet P w K dC 14 f)∧(∃f,mg "answer_part" = some (.ref f)∧KGet P w K dC 15 f)∧(∃f,mg "answer_measure" = some (.ref f)∧KGet P w K dC 16 f)∧(∃f,mg "answer_marks" = some (.ref f)∧KGet P w K dC 17 f))∧
 mg "rays_from_west" = some (.ref fr)∧K.lookup fr=some ⟨oc,od,.func fdr,osl⟩∧fdr.code=.ref cc∧PySem.W.codeHdIn K cc Pa=true∧K.lookup Pa=none∧Tq K
theorem adg {q:Program} {loose:List Str} {XP:(Str→Option Value)→Heap→Prop} {YP:World→Heap→Prop} {d:DefRec} {K:Params→PySem.W.Frag}
  (agm:PySem.Challenge.rw_tautstrings_s01_answers.wellSaid=true) (hdn:d.name = "answers") (hrec:∃d',(recsOf q).find? (fun e=>e.name == ("rays_from_west" : Str))=some d')
  (hY:∀(w:World) (h:Heap),YP w h→(K w.params).In h)
  (FX:∀(w:World) (mg:Str→Option Value) (h:Heap),(K w.params).In h→h.Ns mainGlobals mg→Ready PySem.Challenge.rw_tautstrings_s01_answers.prog w (K w.params) mg) :
  PySem.W.WalkOS q loose XP YP PySem.Challenge.rw_tautstrings_s01_answers d [] (fun f vs=>PySem.call f vs):=by
 intro w Nf s1 mg mb G Y fa o pm cd doc dV kV ho hd hcd hD hmg hg args vals as hpre hlay hrd hwl hlo
 obtain ⟨a,e1,e2⟩:=PySem.W.os_pre_some hpre
 obtain ⟨e3,hwi⟩:=Codec.encAll_of_decAll _ args a e1
 subst e3
 have KX:=hY w _ Y
 rw [hdn]at hmg
 obtain ⟨CC,CR,CN,CT,dC,fr,cc,Pa,fdr,oc,od,osl,X,hC,hK,hmr,hlr,hcr,hhd,hPn,hNL⟩:=FX w mg _ KX G.T.g
 obtain ⟨fA,fdA,FA,mA⟩:=X.aaj
 have efa:=mA.symm.trans hmg
 cases efa
 obtain ⟨d',hf⟩:=hrec
 have hn:d'.name=("rays_from_west" : Str):=beq_iff_eq.mp (List.find?_some (p:=fun e:DefRec=>e.name == ("rays_from_west" : Str)) hf)
 obtain ⟨a',o',fd',c,P',h1,h2,h3,h4,h5,h6⟩:=G.T.tab d' (List.mem_of_find?_eq_some hf)
 rw [hn,hmr]at h1
 cases h1
 rw [KX _ _ hlr]at h2
 cases h2
 cases h3
 rw [hcr]at h4
 cases h4
 obtain ⟨o2,vs2,_,_,_,_,_,_,_,g1,g2,g3,g4,_⟩:=PySem.W.codeHd_of_K KX hhd
 obtain ⟨⟨o3,vs3,i1,i2,i3,i4⟩,i5⟩:=id h6
 rw [g1]at i1
 cases i1
 rw [g3]at i3
 cases i3
 rw [g4]at i4
 cases i4
 have hst:Pa≠cStatics:=fun z=>by
  obtain ⟨_,⟨oc,_,_,j1,j2,_⟩,_⟩:=G.T.nodigits
  rw [←z,h6.2]at j1;cases j1;cases j2
 refine PySem.W.enter_call (codeAny_mono (adf (P:=PySem.Challenge.rw_tautstrings_s01_answers.prog) (w:=w) (K:=K w.params) (mg:=mg) (mb:=mb) (fa:=fa) (cc:=cc) (Pa:=Pa) (fd:=fdA) (ns:=a.1) (cl:=classAt Nf.heap) KX G.T.g G.T.b G.T.builtins G.T.nolimit hg hwl (J6 hlay) G.T.bmain h6 hPn hst hNL e2
  (fun base kb nb hbl=>aeZ X (ae1 Pa) (fun _ h=>h) (fun _ _ _ _ h=>h) hbl (fun f fd F hm=>?_) hC hK FA) (fun s us hu=>?_)) fun r' s' hq=>?_)
 ·have ef:=hm.symm.trans hmr
  cases ef
  obtain ⟨oc2,od2,kV2,ah5,pm2,an2,ah6,ct2,ah7,efd,lk2,_⟩:=F.ex
  rw [hlr]at lk2
  cases lk2
  exact ⟨cc,hcr,hhd⟩
 ·have hb:=FA.binds (ps:=["calls"]) fun _ _ _ _ _ _ us hl=>match us,hl with | [_],_=>rfl
  obtain ⟨oc2,od2,kV2,ah5,pm2,an2,ah6,ct2,ah7,efd,lk2,_⟩:=FA.ex
  subst efd
  match us,hu with
  | [_],_=>exact .of_eq rfl
 ·obtain ⟨u,as',rfl,h1,h2,h3,h4⟩:=hq
  exact ⟨.inl ⟨u,_,as',rfl,fun _=>rfl,h1,(OpenSpec.post_iff agm hwi _ _).mpr rfl,fun z=>Bool.noConfusion (show false=true from z)⟩,h2,h3,h4⟩
section
variable {K:PySem.W.Frag} {h:Heap} {mg:Str→Option Value}
theorem ae4 {x:Str} {st:Stmt} {f:Addr} {oc:Value} {od an:Option Addr} {osl:Array (Option Value)} {kV doc pm cdv ct:Value} (X:K.In h) (G:h.Ns mainGlobals mg) (a:PySem.W.nsIn K mainGlobals x=some (some (.ref f)))
  (l:K.lookup f=some ⟨oc,od,.func (PySem.W.fnOf x x (oR st) (iZ st) (aF st) .none kV doc pm an cdv ct),osl⟩) (c:PySem.W.codeIn K cdv x=true) (k:PySem.W.keepIn K (.ref f)=true):∃f fd,cI K x x st f fd∧mg x=some (.ref f):=
 ⟨_,_,Wz l c k,PySem.W.mg_of X G a⟩
theorem adh {C:Addr} {m q:Str} {st:Stmt} {f:Addr} {oc:Value} {od an:Option Addr} {osl:Array (Option Value)} {kV doc pm cdv ct:Value} (a:PySem.W.findIn K (.ref C) m=some (some (.ref f))) (i:PySem.W.isFn K (.ref f)=true)
  (l:K.lookup f=some ⟨oc,od,.func (PySem.W.fnOf m q (oR st) (iZ st) (aF st) .none kV doc pm an cdv ct),osl⟩) (c:PySem.W.codeIn K cdv q=true) (k:PySem.W.keepIn K (.ref f)=true):∃f fd,cI K m q st f fd∧Meth K C m f:=
 ⟨_,_,Wz l c k,⟨a,i,k⟩⟩
theorem adi {C:Addr} {q:Str} {st:Stmt} {f:Addr} {oc:Value} {od an:Option Addr} {osl:Array (Option Value)} {kV doc pm cdv ct:Value} (mk:PySem.W.makesIn K C=true) (a:PySem.W.findIn K (.ref C) "__init__" = some (some (.ref f))) (i:PySem.W.isFn K (.ref f)=true)
  (l:K.lookup f=some ⟨oc,od,.func (PySem.W.fnOf "__init__" q (oR st) (iZ st) (aF st) .none kV doc pm an cdv ct),osl⟩) (c:PySem.W.codeIn K cdv q=true) (k:PySem.W.keepIn K (.ref f)=true) (kc:PySem.W.keepIn K (.ref C)=true):∃f fd,cI K "__init__" q st f fd∧Mk K C f:=
 ⟨_,_,Wz l c k,⟨mk,a,i,kc⟩⟩
theorem int_at {x:Str} {i:Int} {t:Tok} (X:K.In h) (G:h.Ns mainGlobals mg) (a:PySem.W.nsIn K mainGlobals x=some (some (.int i t))):∃t,mg x=some (.int i t):=⟨t,PySem.W.mg_of X G a⟩
theorem adk {P:Program} {w:World} {dC:Addr} {es:Array DictEntry} {n:Nat} {x:Str} {i:Int} {f:Addr} (X:K.In h) (G:h.Ns mainGlobals mg) (a:PySem.W.nsIn K mainGlobals x=some (some (.ref f))) (l:K.lookup dC=some ⟨.type "dict",none,.dict es n,#[]⟩) (hk:zc P w es.toList)
  (hf:findBy (intKind P w).is es i=some (.ref f)):∃f,mg x=some (.ref f)∧KGet P w K dC i f:=⟨f,PySem.W.mg_of X G a,es,n,l,hk,hf⟩
end
end Ts
namespace Ts
open PySem PySem.Spec PyProof.Rows L2
open PySem.W (WData WellAll Codec OpenSpec)
theorem ab2 {P:Program} {w:World} {K:PySem.W.Frag} {h:Heap} {mg:Str→Option Value} {CC CR CN CT dC fr cc Pa:Addr} {fdr:FuncData} {oc:Value} {od cod:Option Addr} {osl csl:Array (Option Value)} {cvs:Array Value} (X:K.In h) (G:h.Ns mainGlobals mg)
  (aC:PySem.W.nsIn K mainGlobals "Chart" = some (some (.ref CC))) (aR:PySem.W.nsIn K mainGlobals "Reader" = some (some (.ref CR))) (aN:PySem.W.nsIn K mainGlobals "Node" = some (some (.ref CN))) (aT:PySem.W.nsIn K mainGlobals "Touch" = some (some (.ref CT)))
  (aD:PySem.W.nsIn K mainGlobals "CALLS" = some (some (.ref dC))) (ar:PySem.W.nsIn K mainGlobals "rays_from_west" = some (some (.ref fr))) (lr:K.lookup fr=some ⟨oc,od,.func fdr,osl⟩) (cr:fdr.code=.ref cc) (lc:K.lookup cc=some ⟨.type "code",cod,.fields cvs,csl⟩) (c11:cvs[11]?=some (.ref Pa))
  (hd:PySem.W.codeHdIn K cc Pa=true) (pn:K.lookup Pa=none) (nl:(K.all fun p=>!(p.2.cls == .type "list"))=true)
  (FX:mg "Chart" = some (.ref CC)→mg "Reader" = some (.ref CR)→mg "Node" = some (.ref CN)→mg "Touch" = some (.ref CT)→Facts K mg CC CR CN CT)
  (hK:(∃f,mg "answer_begin" = some (.ref f)∧KGet P w K dC 0 f)∧(∃f,mg "answer_mark" = some (.ref f)∧KGet P w K dC 1 f)∧(∃f,mg "answer_track" = some (.ref f)∧KGet P w K dC 2 f)∧(∃f,mg "answer_touch" = some (.ref f)∧KGet P w K dC 3 f)∧(∃f,mg "answer_more" = some (.ref f)∧KGet P w K dC 4 f)∧(∃f,mg "answer_put" = some (.ref f)∧KGet P w K dC 5 f)∧(∃f,mg "answer_points" = some (.ref f)∧KGet P w K dC 6 f)∧(∃f,mg "answer_word" = some (.ref f)∧KGet P w K dC 7 f)∧(∃f,mg "answer_reduced" = some (.ref f)∧KGet P w K dC 8 f)∧(∃f,mg "answer_string" = some (.ref f)∧KGet P w K dC 9 f)∧(∃f,mg "answer_alike" = some (.ref f)∧KGet P w K dC 10 f)∧(∃f,mg "answer_sails" = some (.ref f)∧KGet P w K dC 11 f)∧(∃f,mg "answer_wind" = some (.ref f)∧KGet P w K dC 12 f)∧(∃f,mg "answer_reverse" = some (.ref f)∧KGet P w K dC 13 f)∧(∃f,mg "answer_join" = some (.ref f)∧KGet P w K dC 14 f)∧(∃f,mg "answer_part" = some (.ref f)∧KGet P w K dC 15 f)∧(∃f,mg "answer_measure" = some (.ref f)∧KGet P w K dC 16 f)∧(∃f,mg "answer_marks" = some (.ref f)∧KGet P w K dC 17 f)):Ready P w K mg:=
 ⟨CC,CR,CN,CT,dC,fr,cc,Pa,fdr,oc,od,osl,FX (PySem.W.mg_of X G aC) (PySem.W.mg_of X G aR) (PySem.W.mg_of X G aN) (PySem.W.mg_of X G aT),PySem.W.mg_of X G aD,hK,PySem.W.mg_of X G ar,lr,cr,hd,pn,XD nl⟩
end Ts
open PySem PySem.W PyProof.Rows
set_option maxRecDepth 100000 in
set_option maxHeartbeats 0 in
theorem PySem.Challenge.cw_tautstrings_s01_answers_holds : PySem.Challenge.rw_tautstrings_s01_answers.Holds := by
 w_on
 refine holds_os (q:=Hd.Q0) (loose:=Hd.L0) (Xt:=Hd.X0) (XP:=XL Hd.Q0 []) (Yf:=Hook.obs (kHook Hd.GJ.heap_1 Hd.as0 Hd.e0)) (Ya:=Hook.val (kHook Hd.GJ.heap_1 Hd.as0 Hd.e0)) (YP:=Hook.says (kHook Hd.GJ.heap_1 Hd.as0 Hd.e0)) (N:=7422)
  Hd.afq (Hook.of _) (Hook.keeps _) (fun s e=>xl_of s (Bool.and_eq_true_iff.mp e).1) XL.keeps (by rfl) (by rfl) (by rfl) (fun s e=>recFacts_of (Bool.and_eq_true_iff.mp e).2) os_shapes (by decide +kernel) (by decide +kernel) ⟨rfl,rfl,rfl,rfl,rfl,by decide +kernel⟩ ⟨[.list [.int 17]],by decide +kernel,by decide +kernel⟩ ?_
 k_fillS
 refine Ts.adg (by decide +kernel) rfl ⟨_,rfl⟩ (fun w h Y=>PySem.W.kIn_of Y) ?F
 intro w mg h KX G
 refine' Ts.ab2 KX G ?aC ?aR ?aN ?aT ?aD ?ar ?lr ?cr ?lc ?c11 ?hd ?pn ?nl ?FX ?hK
 (case aC=>k_is);(case aR=>k_is);(case aN=>k_is);(case aT=>k_is);(case aD=>k_is);(case ar=>k_is);(case lr=>k_is);(case cr=>rfl);(case lc=>k_is);(case c11=>rfl);(case hd=>kernel_rfl);(case pn=>kernel_rfl);(case nl=>kernel_rfl)
 case FX=>
  intro n1 n2 n3 n4
  refine' ⟨?T,?RC,?RR,?RN,?RT,n1,n2,n3,n4,?_,?_,?_,?_,?_,?_,?_,?_,?_,?_,?_,?_,?_,?_,?_,?_,?_,?_,?_,?_,?_,?_,?_,?_,?_,?_,?_,?_,?_,?_,?_,?_,?_,?_,?_,?_,?_,?_,?_,?_,?_,?_,?_,?_,?_,?_,?_,?_,?_,?_,?_,?_,?_,?_,?_,?_,?_,?_,?_,?_,?_,?_,?_,?_,?_,?_,?_,?_,?_,?_,?_,?_,?_,?_,?_,?_⟩
  case T=>
   refine' ⟨?_,?_,?_,?_,?_,?_,?_,?_,?_,?_,?_,?_,?_,?_,?_,?_,?_,?_,?_,?_,?_,?_,?_,?_⟩
   all_goals first | exact PySem.W.mg_none_of KX G (by k_is) | (refine' Ts.int_at KX G ?a;(case a=>k_is))
  case RC=>exact ⟨⟨by k_is,by k_is,by k_is,by k_is⟩,(by show PySem.W.findIn _ (.ref _) _=some none;k_is),(by show PySem.W.findIn _ (.ref _) _=some none;k_is)⟩
  case RR=>exact ⟨⟨by k_is,by k_is,by k_is,by k_is⟩,(by show PySem.W.findIn _ (.ref _) _=some none;k_is),(by show PySem.W.findIn _ (.ref _) _=some none;k_is)⟩
  case RN=>exact ⟨⟨by k_is,by k_is,by k_is,by k_is⟩,(by show PySem.W.findIn _ (.ref _) _=some none;k_is),(by show PySem.W.findIn _ (.ref _) _=some none;k_is),(by show PySem.W.findIn _ (.ref _) _=some none;k_is)⟩
  case RT=>exact ⟨⟨by k_is,by k_is,by k_is,by k_is⟩,(by show PySem.W.findIn _ (.ref _) _=some none;k_is),(by show PySem.W.findIn _ (.ref _) _=some none;k_is),(by show PySem.W.findIn _ (.ref _) _=some none;k_is),(by show PySem.W.findIn _ (.ref _) _=some none;k_is),(by show PySem.W.findIn _ (.ref _) _=some none;k_is)⟩
  all_goals first
   | (refine' Ts.ae4 KX G ?a ?l ?c ?k;(case a=>k_is);(case l=>k_is);(case c=>k_is);(case k=>k_is))
   | (refine' Ts.adh ?a ?i ?l ?c ?k;(case a=>k_is);(case i=>k_is);(case l=>k_is);(case c=>k_is);(case k=>k_is))
   | (refine' Ts.adi ?mk ?a ?i ?l ?c ?k ?kc;(case mk=>k_is);(case a=>k_is);(case i=>k_is);(case l=>k_is);(case c=>k_is);(case k=>k_is);(case kc=>k_is))
 case hK=>
  refine' ⟨?_,?_,?_,?_,?_,?_,?_,?_,?_,?_,?_,?_,?_,?_,?_,?_,?_,?_⟩
  all_goals (refine' Ts.adk KX G ?a ?l ?k ?f;(case a=>k_is);(case l=>k_is);(case k=>exact ⟨⟨_,_,rfl,rfl⟩,⟨_,_,rfl,rfl⟩,⟨_,_,rfl,rfl⟩,⟨_,_,rfl,rfl⟩,⟨_,_,rfl,rfl⟩,⟨_,_,rfl,rfl⟩,⟨_,_,rfl,rfl⟩,⟨_,_,rfl,rfl⟩,⟨_,_,rfl,rfl⟩,⟨_,_,rfl,rfl⟩,⟨_,_,rfl,rfl⟩,⟨_,_,rfl,rfl⟩,⟨_,_,rfl,rfl⟩,⟨_,_,rfl,rfl⟩,⟨_,_,rfl,rfl⟩,⟨_,_,rfl,rfl⟩,⟨_,_,rfl,rfl⟩,⟨_,_,rfl,rfl⟩,trivial⟩);(case f=>rfl))
