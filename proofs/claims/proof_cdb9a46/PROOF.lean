import PyProof.Rows.All
import Wide.All
import OpenK.AllK
import Wide.FinOn
import PyProof.EqAt
import PyProof.EqKinds
import PyProof.TupleCall
import KE.BitLaws
import Open.SpecLaws
import KE.OsHead
import KE.OsGo
import KE.KDictOf
import KE.KDictLaws
import KE.KDictList
import KE.KDictSum
import PyProof.Rows.SetFrom
import PyProof.SetRoads
import PySem.Challenge.RW_settledatonce_s01_answers
import PyVbchak
set_option Elab.async false
set_option linter.all false
set_option maxRecDepth 100000
set_option maxHeartbeats 4000000
namespace Vb
open Vbchak
structure AccOk (a:Account):Prop where
 k1:1≤a.key
 k2:a.key≤1000000000
 h4:a.has.length=4
 l4:a.limits.length=4
 nd:a.row.Nodup
 lim:∀ q,q∈goods → -(limitOf a q:Int)≤hasOf a q
structure LegOk (s:State) (x:Leg):Prop where
 fr:∃ a,a∈s.accounts∧a.key=x.from_
 to:∃ a,a∈s.accounts∧a.key=x.to
 q1:1≤x.good
 q4:x.good≤4
structure GrpOk (s:State) (g:Group):Prop where
 k1:1≤g.key
 k2:g.key≤1000000000
 l8:g.legs.length≤8
 legs:∀ x,x∈g.legs→LegOk s x
structure Good (s:State):Prop where
 acc:∀ a,a∈s.accounts→AccOk a
 grp:∀ g,g∈s.groups→GrpOk s g
 an:(s.accounts.map (·.key)).Nodup
 gn:(s.groups.map (·.key)).Nodup
 a8:s.accounts.length≤8
 g24:s.groups.length≤24
 row:∀ a,a∈s.accounts→∀ k,k∈a.row↔∃ g,g∈s.groups∧g.key=k∧touches g a.key=true
theorem total_cons (x:Int) (l:List Int):total (x::l)=x + total l:=rfl
theorem total_nil:total []=0:=rfl
theorem total_append:∀ l r:List Int,total (l++r)=total l + total r
 | [],r=>by rw [List.nil_append,total_nil]; omega
 | x::l,r=>by rw [List.cons_append,total_cons,total_cons,total_append l r]; omega
theorem total_perm {l r:List Int} (h:l.Perm r):total l=total r:=by
 induction h with
 | nil=>rfl
 | cons x _ ih=>rw [total_cons,total_cons,ih]
 | swap x y l=>rw [total_cons,total_cons,total_cons,total_cons]; omega
 | trans _ _ h1 h2=>rw [h1,h2]
theorem total_filter {α:Type} (p:α→Bool) (f:α→Int):∀ l:List α,total ((l.filter p).map f)=total (l.map fun x=>if p x=true then f x else 0)
 | []=>rfl
 | x::l=>by
  rw [List.map_cons,total_cons,List.filter_cons]
  by_cases h:p x=true
  ·rw [if_pos h,if_pos h,List.map_cons,total_cons,total_filter p f l]
  ·rw [if_neg h,if_neg h,total_filter p f l]; omega
theorem total_congr {α:Type} {f g:α→Int}:∀ {l:List α},(∀ x,x∈l→f x=g x)→total (l.map f)=total (l.map g)
 | [],_=>rfl
 | x::l,h=>by
  rw [List.map_cons,List.map_cons,total_cons,total_cons,h x (List.mem_cons_self ..),total_congr fun y hy=>h y (List.mem_cons_of_mem _ hy)]
theorem total_zero {α:Type} {f:α→Int}:∀ {l:List α},(∀ x,x∈l→f x=0)→total (l.map f)=0
 | [],_=>rfl
 | x::l,h=>by
  rw [List.map_cons,total_cons,h x (List.mem_cons_self ..),total_zero fun y hy=>h y (List.mem_cons_of_mem _ hy)]; omega
theorem brings_none {g:Group} {a q:Nat} (h:touches g a=false):brings g a q=0:=by
 unfold brings
 refine total_zero fun x hx=>?_
 have h':=(List.any_eq_false.mp h) x hx
 have h1:¬ x.from_=a:=fun e=>h' (by simp [e])
 have h2:¬ x.to=a:=fun e=>h' (by simp [e])
 rw [if_neg h1,if_neg h2]
 split <;> rfl
theorem would_eq (s:State) (X:List Nat) (a:Account) (q:Nat):wouldHave s X a q=hasOf a q + total (s.groups.map fun g=>if X.contains g.key=true then brings g a.key q else 0):=by
 unfold wouldHave
 rw [total_filter]
theorem would_row {s:State} (G:Good s) {X Y:List Nat} {a:Account} (ha:a∈s.accounts) (h:∀ k,k∈a.row→(k∈X↔k∈Y)) (q:Nat):wouldHave s X a q=wouldHave s Y a q:=by
 rw [would_eq,would_eq]
 congr 1
 refine total_congr fun g hg=>?_
 by_cases t:touches g a.key=true
 ·have hk:=h g.key ((G.row a ha g.key).mpr ⟨g,hg,rfl,t⟩)
  by_cases hx:g.key∈X
  ·rw [if_pos (List.contains_iff_mem.mpr hx),if_pos (List.contains_iff_mem.mpr (hk.mp hx))]
  ·rw [if_neg (fun e=>hx (List.contains_iff_mem.mp e)),if_neg (fun e=>hx (hk.mpr (List.contains_iff_mem.mp e)))]
 ·rw [brings_none (by simpa using t)]
  split <;> split <;> rfl
theorem would_mem {s:State} {X Y:List Nat} (h:∀ k,k∈X↔k∈Y) (a:Account) (q:Nat):wouldHave s X a q=wouldHave s Y a q:=by
 rw [would_eq,would_eq]
 congr 1
 refine total_congr fun g hg=>?_
 by_cases hx:g.key∈X
 ·rw [if_pos (List.contains_iff_mem.mpr hx),if_pos (List.contains_iff_mem.mpr ((h _).mp hx))]
 ·rw [if_neg (fun e=>hx (List.contains_iff_mem.mp e)),if_neg (fun e=>hx ((h _).mpr (List.contains_iff_mem.mp e)))]
theorem would_nothing {s:State} (G:Good s) {X:List Nat} {a:Account} (ha:a∈s.accounts) (h:∀ k,k∈a.row→¬ k∈X) (q:Nat):wouldHave s X a q=hasOf a q:=by
 rw [would_row G (Y:=[]) ha (fun k hk=>⟨fun e=>absurd e (h k hk),fun e=>by cases e⟩),would_eq]
 rw [total_zero (fun g _=>by simp)]
 omega
theorem short_congr {s:State} {X Y:List Nat} {a:Account} (h:∀ q,wouldHave s X a q=wouldHave s Y a q):shortOf s X a=shortOf s Y a:=by
 unfold shortOf
 congr 1
 funext q
 rw [h q]
theorem short_mem {s:State} {X Y:List Nat} (h:∀ k,k∈X↔k∈Y) (a:Account):shortOf s X a=shortOf s Y a:=short_congr fun q=>would_mem h a q
theorem beg_mem {X row:List Nat} {k:Nat} (h:k∈beginning X row):k∈row∧k∈X:=by
 unfold beginning at h
 refine ⟨(List.takeWhile_sublist _).mem h,?_⟩
 exact List.contains_iff_mem.mp (List.all_eq_true.mp List.all_takeWhile k h)
theorem beg_prefix {X Y:List Nat} (h:∀ k,k∈X→k∈Y):∀ row,beginning X row <+: beginning Y row
 | []=>List.prefix_rfl
 | k::r=>by
  unfold beginning
  by_cases hx:k∈X
  ·rw [List.takeWhile_cons_of_pos (List.contains_iff_mem.mpr hx),List.takeWhile_cons_of_pos (List.contains_iff_mem.mpr (h k hx))]
   exact List.cons_prefix_cons.mpr ⟨rfl,beg_prefix h r⟩
  ·rw [List.takeWhile_cons_of_neg (fun e=>hx (List.contains_iff_mem.mp e))]
   exact List.nil_prefix
theorem beg_congr {X Y:List Nat} (h:∀ k,k∈X↔k∈Y) (row:List Nat):beginning X row=beginning Y row:=by
 unfold beginning
 congr 1
 funext k
 rw [Bool.eq_iff_iff,List.contains_iff_mem,List.contains_iff_mem]
 exact h k
def Clo (s:State) (X:List Nat):Prop:=∀ a,a∈s.accounts→∀ k,k∈a.row→k∈X→k∈beginning X a.row
theorem beg_filter:∀ {X row:List Nat},(∀ k,k∈row→k∈X→k∈beginning X row)→row.Nodup→beginning X row=row.filter fun k=>X.contains k
 | X,[],_,_=>rfl
 | X,k::r,h,nd=>by
  obtain ⟨n1,n2⟩:=List.nodup_cons.mp nd
  by_cases hx:k∈X
  ·have hc:X.contains k=true:=List.contains_iff_mem.mpr hx
   unfold beginning
   rw [List.takeWhile_cons_of_pos hc,List.filter_cons,if_pos hc]
   congr 1
   refine beg_filter (X:=X) (row:=r) (fun j hj hjx=>?_) n2
   have q:=h j (List.mem_cons_of_mem _ hj) hjx
   unfold beginning at q
   rw [List.takeWhile_cons_of_pos hc] at q
   rcases List.mem_cons.mp q with e | q
   ·exact absurd (e ▸ hj) n1
   ·exact q
  ·have hb:beginning X (k::r)=[]:=by
    unfold beginning
    exact List.takeWhile_cons_of_neg (fun e=>hx (List.contains_iff_mem.mp e))
   rw [hb,List.filter_cons,if_neg (fun e=>hx (List.contains_iff_mem.mp e))]
   symm
   rw [List.filter_eq_nil_iff]
   intro j hj e
   have q:=h j (List.mem_cons_of_mem _ hj) (List.contains_iff_mem.mp e)
   rw [hb] at q
   cases q
theorem cutOnce_sub {s:State} {X:List Nat} {k:Nat} (h:k∈cutOnce s X):k∈X:=(List.mem_filter.mp h).1
theorem cutOnce_mem {s:State} {X:List Nat} {k:Nat}:k∈cutOnce s X↔k∈X∧∀ a,a∈s.accounts→k∈a.row→k∈beginning X a.row:=by
 unfold cutOnce
 rw [List.mem_filter,List.all_eq_true]
 refine and_congr_right fun _=>forall_congr' fun a=>forall_congr' fun _=>?_
 simp only [Bool.or_eq_true,Bool.not_eq_true',List.contains_iff_mem]
 constructor
 ·intro h hr
  rcases h with h | h
  ·rw [← Bool.not_eq_true,List.contains_iff_mem] at h
   exact absurd hr h
  ·exact h
 ·intro h
  by_cases hr:k∈a.row
  ·exact .inr (h hr)
  ·refine .inl ?_
   rw [← Bool.not_eq_true,List.contains_iff_mem]
   exact hr
theorem cutOnce_len (s:State) (X:List Nat):(cutOnce s X).length≤X.length:=List.length_filter_le _ _
theorem cutOnce_eq {s:State} {X:List Nat} (h:(cutOnce s X).length=X.length):cutOnce s X=X:=by
 unfold cutOnce at h ⊢
 exact List.filter_eq_self.mpr (List.length_filter_eq_length_iff.mp h)
theorem clo_of {s:State} {X:List Nat} (h:cutOnce s X=X):Clo s X:=fun a ha k hk hx=>by
 rw [← h] at hx
 exact (cutOnce_mem.mp hx).2 a ha hk
theorem cut_sub {s:State}:∀ {n:Nat} {X:List Nat} {k:Nat},k∈cut s n X→k∈X
 | 0,X,k,h=>h
 | n + 1,X,k,h=>by
  unfold cut at h
  split at h
  ·exact h
  ·exact cutOnce_sub (cut_sub h)
theorem cut_clo {s:State}:∀ {n:Nat} {X:List Nat},X.length < n→Clo s (cut s n X)
 | n + 1,X,h=>by
  unfold cut
  split
  ·rename_i e
   exact clo_of (cutOnce_eq e)
  ·rename_i e
   have:=cutOnce_len s X
   exact cut_clo (by omega)
theorem closed_clo (s:State) (X:List Nat):Clo s (closed s X):=cut_clo (Nat.lt_succ_self _)
theorem closed_sub {s:State} {X:List Nat} {k:Nat} (h:k∈closed s X):k∈X:=cut_sub h
theorem cut_filter {s:State}:∀ (n:Nat) (X:List Nat),(cut s n X).Sublist X
 | 0,X=>List.Sublist.refl _
 | n + 1,X=>by
  unfold cut
  split
  ·exact List.Sublist.refl _
  ·exact (cut_filter n _).trans List.filter_sublist
theorem closed_sublist (s:State) (X:List Nat):(closed s X).Sublist X:=cut_filter _ _
theorem cut_fuel {s:State}:∀ {n m:Nat} {X:List Nat},X.length < n→X.length < m→cut s n X=cut s m X
 | n + 1,m + 1,X,h1,h2=>by
  unfold cut
  split
  ·rfl
  ·rename_i e
   have:=cutOnce_len s X
   exact cut_fuel (by omega) (by omega)
theorem closed_step (s:State) (X:List Nat):closed s X=if (cutOnce s X).length=X.length then X else closed s (cutOnce s X):=by
 unfold closed
 rw [cut]
 split
 ·rfl
 ·rename_i e
  have:=cutOnce_len s X
  exact cut_fuel (by omega) (by omega)
theorem cut_max {s:State} {Z:List Nat} (hz:Clo s Z):∀ {n:Nat} {X:List Nat},(∀ k,k∈Z→k∈X)→∀ k,k∈Z→k∈cut s n X
 | 0,X,h,k,hk=>h k hk
 | n + 1,X,h,k,hk=>by
  unfold cut
  split
  ·exact h k hk
  ·refine cut_max hz (fun j hj=>?_) k hk
   exact cutOnce_mem.mpr ⟨h j hj,fun a ha hr=>(beg_prefix h a.row).subset (hz a ha j hr hj)⟩
theorem closed_max {s:State} {Z X:List Nat} (hz:Clo s Z) (h:∀ k,k∈Z→k∈X):∀ k,k∈Z→k∈closed s X:=cut_max hz h
theorem prefix_last {l1 l2:List Nat} {c:Nat} (h:l1 <+: l2) (nd:l2.Nodup) (e:l2.getLast?=some c) (hc:c∈l1):l1=l2:=by
 obtain ⟨t,rfl⟩:=h
 cases t with
 | nil=>simp
 | cons x t =>
  exfalso
  rw [List.getLast?_append,List.getLast?_cons] at e
  have e':(x::t).getLast?=some c:=by
   rw [List.getLast?_cons]
   simpa using e
  have hm:c∈x::t:=List.mem_of_getLast? e'
  exact (List.nodup_append.mp nd).2.2 c hc c hm rfl
theorem beg_nodup {X row:List Nat} (h:row.Nodup):(beginning X row).Nodup:=h.sublist (List.takeWhile_sublist _)
theorem mem_culprits {s:State} {X:List Nat} {c:Nat}:c∈culprits s X↔∃ a,a∈s.accounts∧(shortOf s X a).isSome=true∧(beginning X a.row).getLast?=some c:=by
 unfold culprits
 rw [List.mem_filterMap]
 refine exists_congr fun a=>and_congr_right fun _=>?_
 constructor
 ·intro h
  split at h
  ·rename_i q
   exact ⟨q,h⟩
  ·cases h
 ·rintro ⟨h1,h2⟩
  rw [if_pos h1]
  exact h2
theorem culprit_in {s:State} {X:List Nat} {c:Nat} (h:c∈culprits s X):c∈X:=by
 obtain ⟨a,_,_,e⟩:=mem_culprits.mp h
 exact (beg_mem (List.mem_of_getLast? e)).2
theorem short_none_of {s:State} (G:Good s) {X:List Nat} {a:Account} (ha:a∈s.accounts) (h:∀ k,k∈a.row→¬ k∈X):shortOf s X a=none:=by
 unfold shortOf
 rw [List.find?_eq_none]
 intro q hq e
 have e:=of_decide_eq_true e
 rw [would_nothing G ha h] at e
 have:=(G.acc a ha).lim q hq
 omega
theorem short_some {s:State} (G:Good s) {X:List Nat} (hX:Clo s X) {a:Account} (ha:a∈s.accounts) (h:(shortOf s X a).isSome=true):∃ c,(beginning X a.row).getLast?=some c:=by
 cases e:(beginning X a.row).getLast? with
 | some c=>exact ⟨c,rfl⟩
 | none =>
  rw [List.getLast?_eq_none_iff] at e
  rw [short_none_of G ha (fun k hk hx=>by have q:=hX a ha k hk hx; rw [e] at q; cases q)] at h
  cases h
theorem no_culprits {s:State} (G:Good s) {X:List Nat} (hX:Clo s X) (h:culprits s X=[]):∀ a,a∈s.accounts→shortOf s X a=none:=fun a ha=>by
 cases e:shortOf s X a with
 | none=>rfl
 | some q =>
  obtain ⟨c,hc⟩:=short_some G hX ha (by rw [e]; rfl)
  have:c∈culprits s X:=mem_culprits.mpr ⟨a,ha,by rw [e]; rfl,hc⟩
  rw [h] at this
  cases this
structure Fit (s:State) (X:List Nat):Prop where
 clo:Clo s X
 ok:∀ a,a∈s.accounts→shortOf s X a=none
theorem fit_no_culprit {s:State} (G:Good s) {Z X:List Nat} (hZ:Fit s Z) (hX:Clo s X) (h:∀ k,k∈Z→k∈X) {c:Nat} (hc:c∈culprits s X):¬ c∈Z:=fun hz=>by
 obtain ⟨a,ha,hs,hl⟩:=mem_culprits.mp hc
 have hcr:=(beg_mem (List.mem_of_getLast? hl)).1
 have e:=prefix_last (beg_prefix h a.row) (beg_nodup (G.acc a ha).nd) hl (hZ.clo a ha c hcr hz)
 have q:=short_congr (s:=s) (X:=Z) (Y:=X) (a:=a) fun q=>would_row G ha (fun k hk=>⟨h k,fun hx=>by
  have:=hX a ha k hk hx
  rw [← e] at this
  exact (beg_mem this).2⟩) q
 rw [← q,hZ.ok a ha] at hs
 cases hs
theorem round_sub {s:State} {X:List Nat} {k:Nat} (h:k∈round s X):k∈X:=(List.mem_filter.mp (closed_sub h)).1
theorem round_clo (s:State) (X:List Nat):Clo s (round s X):=closed_clo _ _
theorem round_max {s:State} (G:Good s) {Z X:List Nat} (hZ:Fit s Z) (hX:Clo s X) (h:∀ k,k∈Z→k∈X):∀ k,k∈Z→k∈round s X:=by
 unfold round
 refine closed_max hZ.clo fun k hk=>List.mem_filter.mpr ⟨h k hk,?_⟩
 rw [Bool.not_eq_true',← Bool.not_eq_true,List.contains_iff_mem]
 exact fun hc=>fit_no_culprit G hZ hX h hc hk
theorem round_sublist (s:State) (X:List Nat):(round s X).Sublist X:=(closed_sublist _ _).trans List.filter_sublist
theorem round_len {s:State} {X:List Nat} (h:culprits s X≠[]):(round s X).length < X.length:=by
 obtain ⟨c,hc⟩:=List.exists_mem_of_ne_nil _ h
 have h1:(round s X).length≤(X.filter fun k=>!(culprits s X).contains k).length:=(closed_sublist _ _).length_le
 refine Nat.lt_of_le_of_lt h1 ?_
 refine List.length_filter_lt_length_iff_exists.mpr ⟨c,culprit_in hc,?_⟩
 simpa using hc
theorem rounds_sublist {s:State}:∀ (n:Nat) (X:List Nat),(rounds s n X).Sublist X
 | 0,X=>List.Sublist.refl _
 | n + 1,X=>by
  unfold rounds
  split
  ·exact List.Sublist.refl _
  ·exact (rounds_sublist n _).trans (round_sublist s X)
theorem rounds_max {s:State} (G:Good s) {Z:List Nat} (hZ:Fit s Z):∀ {n:Nat} {X:List Nat},Clo s X→(∀ k,k∈Z→k∈X)→∀ k,k∈Z→k∈rounds s n X
 | 0,X,_,h,k,hk=>h k hk
 | n + 1,X,hX,h,k,hk=>by
  unfold rounds
  split
  ·exact h k hk
  ·exact rounds_max G hZ (round_clo s X) (round_max G hZ hX h) k hk
theorem rounds_fit {s:State} (G:Good s):∀ {n:Nat} {X:List Nat},X.length < n→Clo s X→Fit s (rounds s n X)
 | n + 1,X,h,hX=>by
  unfold rounds
  split
  ·rename_i e
   exact ⟨hX,no_culprits G hX (List.isEmpty_iff.mp e)⟩
  ·rename_i e
   have:=round_len (s:=s) (X:=X) (fun q=>e (by rw [q]; rfl))
   exact rounds_fit G (by omega) (round_clo s X)
theorem rounds_fuel {s:State}:∀ {n m:Nat} {X:List Nat},X.length < n→X.length < m→rounds s n X=rounds s m X
 | n + 1,m + 1,X,h1,h2=>by
  unfold rounds
  split
  ·rfl
  ·rename_i e
   have:=round_len (s:=s) (X:=X) (fun q=>e (by rw [q]; rfl))
   exact rounds_fuel (by omega) (by omega)
def gw (s:State) (X:List Nat):List Nat:=rounds s (X.length + 1) (closed s X)
theorem gw_sublist (s:State) (X:List Nat):(gw s X).Sublist X:=(rounds_sublist _ _).trans (closed_sublist _ _)
theorem gw_fit {s:State} (G:Good s) (X:List Nat):Fit s (gw s X):=rounds_fit G (Nat.lt_succ_of_le (closed_sublist s X).length_le) (closed_clo s X)
theorem gw_max {s:State} (G:Good s) {Z X:List Nat} (hZ:Fit s Z) (h:∀ k,k∈Z→k∈X):∀ k,k∈Z→k∈gw s X :=
 rounds_max G hZ (closed_clo s X) (closed_max hZ.clo h)
def free (s:State):List Nat:=(s.groups.filter fun g=>!g.held).map fun g=>g.key
theorem ready_gw (s:State):ready s=gw s (free s):=by
 unfold ready gw unheld
 have h:(free s).length≤s.groups.length:=by
  unfold free
  rw [List.length_map]
  exact List.length_filter_le _ _
 have h2:=(closed_sublist s (free s)).length_le
 exact rounds_fuel (by show (closed s (free s)).length < _; omega) (by show (closed s (free s)).length < _; omega)
theorem mem_free {s:State} {k:Nat}:k∈free s↔∃ g,g∈s.groups∧g.key=k∧g.held=false:=by
 unfold free
 simp only [List.mem_map,List.mem_filter,Bool.not_eq_true']
 constructor
 ·rintro ⟨g,⟨h1,h2⟩,h3⟩
  exact ⟨g,h1,h3,h2⟩
 ·rintro ⟨g,h1,h3,h2⟩
  exact ⟨g,⟨h1,h2⟩,h3⟩
theorem ready_fit {s:State} (G:Good s):Fit s (ready s):=by
 rw [ready_gw]
 exact gw_fit G _
theorem ready_max {s:State} (G:Good s) {Z:List Nat} (hZ:Fit s Z) (h:∀ k,k∈Z→k∈free s):∀ k,k∈Z→k∈ready s:=by
 rw [ready_gw]
 exact gw_max G hZ h
theorem ready_sub {s:State} {k:Nat} (h:k∈ready s):k∈free s:=by
 rw [ready_gw] at h
 exact (gw_sublist s _).mem h
theorem culprits_mem {s:State} {X Y:List Nat} (h:∀ k,k∈X↔k∈Y):culprits s X=culprits s Y:=by
 unfold culprits
 congr 1
 funext a
 rw [short_mem h,beg_congr h]
theorem cutOnce_perm {s:State} {X Y:List Nat} (h:X.Perm Y):(cutOnce s X).Perm (cutOnce s Y):=by
 unfold cutOnce
 have e:(fun k=>s.accounts.all fun a=>!a.row.contains k || (beginning X a.row).contains k)=fun k=>s.accounts.all fun a=>!a.row.contains k || (beginning Y a.row).contains k:=by
  funext k
  congr 1
  funext a
  rw [beg_congr fun k=>h.mem_iff]
 rw [e]
 exact h.filter _
theorem cut_perm {s:State}:∀ {n:Nat} {X Y:List Nat},X.Perm Y→(cut s n X).Perm (cut s n Y)
 | 0,X,Y,h=>h
 | n + 1,X,Y,h=>by
  unfold cut
  have h1:=cutOnce_perm (s:=s) h
  rw [h1.length_eq,h.length_eq]
  split
  ·exact h
  ·exact cut_perm h1
theorem closed_perm {s:State} {X Y:List Nat} (h:X.Perm Y):(closed s X).Perm (closed s Y):=by
 unfold closed
 rw [h.length_eq]
 exact cut_perm h
theorem round_perm {s:State} {X Y:List Nat} (h:X.Perm Y):(round s X).Perm (round s Y):=by
 unfold round
 rw [culprits_mem fun k=>h.mem_iff]
 exact closed_perm (h.filter _)
theorem rounds_perm {s:State}:∀ {n:Nat} {X Y:List Nat},X.Perm Y→(rounds s n X).Perm (rounds s n Y)
 | 0,X,Y,h=>h
 | n + 1,X,Y,h=>by
  unfold rounds
  rw [culprits_mem fun k=>h.mem_iff]
  split
  ·exact h
  ·exact rounds_perm (round_perm h)
theorem gw_perm {s:State} {X Y:List Nat} (h:X.Perm Y):(gw s X).Perm (gw s Y):=by
 unfold gw
 rw [h.length_eq]
 exact rounds_perm (closed_perm h)
end Vb
namespace Vb
open Vbchak
theorem key_inj {α:Type} {f:α→Nat}:∀ {l:List α},(l.map f).Nodup→∀ {a b:α},a∈l→b∈l→f a=f b→a=b
 | [],_,a,b,h,_,_=>by cases h
 | x::l,nd,a,b,ha,hb,e=>by
  rw [List.map_cons,List.nodup_cons] at nd
  rcases List.mem_cons.mp ha with e1 | ha'
  ·rcases List.mem_cons.mp hb with e2 | hb'
   ·exact e1.trans e2.symm
   ·exact absurd (List.mem_map.mpr ⟨b,hb',by rw [← e,e1]⟩) nd.1
  ·rcases List.mem_cons.mp hb with e2 | hb'
   ·exact absurd (List.mem_map.mpr ⟨a,ha',by rw [e,e2]⟩) nd.1
   ·exact key_inj nd.2 ha' hb' e
theorem list4 {α:Type} {l:List α} (h:l.length=4):∃ x0 x1 x2 x3,l=[x0,x1,x2,x3]:=by
 match l,h with
 | [x0,x1,x2,x3],_=>exact ⟨x0,x1,x2,x3,rfl⟩
theorem mem_goods {q:Nat}:q∈goods↔1≤q∧q≤4:=by
 unfold goods
 simp only [List.mem_cons,List.not_mem_nil,or_false]
 omega
theorem changed_len (l:List Int) (q:Nat) (n:Int):(changed l q n).length=l.length:=by
 unfold changed
 rw [List.length_map,List.length_zipIdx]
theorem changed4 (x0 x1 x2 x3:Int) (q:Nat) (n:Int):changed [x0,x1,x2,x3] q n=[if 1=q then x0 + n else x0,if 2=q then x1 + n else x1,if 3=q then x2 + n else x2,if 4=q then x3 + n else x3]:=rfl
theorem changed_getD {l:List Int} (h4:l.length=4) {q':Nat} (hq:q'∈goods) (q:Nat) (n:Int):(changed l q n).getD (q' - 1) 0=l.getD (q' - 1) 0 + if q'=q then n else 0:=by
 obtain ⟨x0,x1,x2,x3,rfl⟩:=list4 h4
 rw [changed4]
 have:q'=1∨q'=2∨q'=3∨q'=4:=by
  have:=mem_goods.mp hq
  omega
 rcases this with rfl | rfl | rfl | rfl
 ·show (if 1=q then x0 + n else x0)=x0 + if 1=q then n else 0
  split <;> omega
 ·show (if 2=q then x1 + n else x1)=x1 + if 2=q then n else 0
  split <;> omega
 ·show (if 3=q then x2 + n else x2)=x2 + if 3=q then n else 0
  split <;> omega
 ·show (if 4=q then x3 + n else x3)=x3 + if 4=q then n else 0
  split <;> omega
def moreAcc (a q:Nat) (n:Int) (x:Account):Account:=if x.key=a then { x with has:=changed x.has q n } else x
theorem withMore_accounts (s:State) (a q:Nat) (n:Int):(withMore s a q n).accounts=s.accounts.map (moreAcc a q n):=rfl
theorem withMore_groups (s:State) (a q:Nat) (n:Int):(withMore s a q n).groups=s.groups:=rfl
theorem moreAcc_key (a q:Nat) (n:Int) (x:Account):(moreAcc a q n x).key=x.key:=by
 unfold moreAcc
 split <;> rfl
theorem moreAcc_row (a q:Nat) (n:Int) (x:Account):(moreAcc a q n x).row=x.row:=by
 unfold moreAcc
 split <;> rfl
theorem moreAcc_limits (a q:Nat) (n:Int) (x:Account):(moreAcc a q n x).limits=x.limits:=by
 unfold moreAcc
 split <;> rfl
theorem moreAcc_has {x:Account} (h4:x.has.length=4) {q':Nat} (hq:q'∈goods) (a q:Nat) (n:Int):hasOf (moreAcc a q n x) q'=hasOf x q' + if x.key=a∧q'=q then n else 0:=by
 unfold moreAcc hasOf
 by_cases e:x.key=a
 ·rw [if_pos e]
  show (changed x.has q n).getD (q' - 1) 0=_
  rw [changed_getD h4 hq]
  congr 1
  by_cases e2:q'=q
  ·rw [if_pos e2,if_pos ⟨e,e2⟩]
  ·rw [if_neg e2,if_neg (fun z=>e2 z.2)]
 ·rw [if_neg e,if_neg (fun z=>e z.1)]
  omega
theorem limitOf_more (a q:Nat) (n:Int) (x:Account) (q':Nat):limitOf (moreAcc a q n x) q'=limitOf x q':=by
 unfold limitOf
 rw [moreAcc_limits]
theorem would_more {s:State} {x:Account} (h4:x.has.length=4) {q':Nat} (hq:q'∈goods) (a q:Nat) (n:Int) (X:List Nat) :
  wouldHave (withMore s a q n) X (moreAcc a q n x) q'=wouldHave s X x q' + if x.key=a∧q'=q then n else 0:=by
 unfold wouldHave
 rw [moreAcc_has h4 hq,moreAcc_key,withMore_groups]
 omega
theorem Good.more {s:State} (G:Good s) (a q:Nat) {n:Int} (hn:∀ x,x∈s.accounts→x.key=a→q∈goods → -(limitOf x q:Int)≤hasOf x q + n):Good (withMore s a q n):=by
 have hacc:∀ k,(∃ b,b∈(withMore s a q n).accounts∧b.key=k)↔∃ b,b∈s.accounts∧b.key=k:=fun k=>by
  rw [withMore_accounts]
  constructor
  ·rintro ⟨b,hb,e⟩
   obtain ⟨c,hc,rfl⟩:=List.mem_map.mp hb
   exact ⟨c,hc,by rw [← e,moreAcc_key]⟩
  ·rintro ⟨b,hb,e⟩
   exact ⟨_,List.mem_map.mpr ⟨b,hb,rfl⟩,by rw [moreAcc_key,e]⟩
 refine ⟨fun b hb=>?_,fun g hg=>?_,?_,G.gn,?_,G.g24,fun b hb k=>?_⟩
 ·rw [withMore_accounts] at hb
  obtain ⟨c,hc,rfl⟩:=List.mem_map.mp hb
  have o:=G.acc c hc
  refine ⟨by rw [moreAcc_key]; exact o.k1,by rw [moreAcc_key]; exact o.k2,?_,by rw [moreAcc_limits]; exact o.l4,by rw [moreAcc_row]; exact o.nd,fun q' hq'=>?_⟩
  ·unfold moreAcc
   split
   ·show (changed c.has q n).length=4
    rw [changed_len,o.h4]
   ·exact o.h4
  ·rw [limitOf_more,moreAcc_has o.h4 hq']
   by_cases e:c.key=a∧q'=q
   ·rw [if_pos e]
    obtain ⟨e1,rfl⟩:=e
    exact hn c hc e1 hq'
   ·rw [if_neg e]
    have:=o.lim q' hq'
    omega
 ·have o:=G.grp g hg
  exact ⟨o.k1,o.k2,o.l8,fun x hx=>⟨(hacc _).mpr (o.legs x hx).fr,(hacc _).mpr (o.legs x hx).to,(o.legs x hx).q1,(o.legs x hx).q4⟩⟩
 ·rw [withMore_accounts,List.map_map]
  have:((fun x:Account=>x.key)∘moreAcc a q n)=fun x=>x.key:=by
   funext x
   exact moreAcc_key a q n x
  rw [this]
  exact G.an
 ·rw [withMore_accounts,List.length_map]
  exact G.a8
 ·rw [withMore_accounts] at hb
  obtain ⟨c,hc,rfl⟩:=List.mem_map.mp hb
  rw [moreAcc_row,moreAcc_key]
  exact G.row c hc k
theorem Good.more0 {s:State} (G:Good s) (a q:Nat) (n:Nat):Good (withMore s a q (n:Int)):=G.more a q fun x hx _ hq=>by
 have:=(G.acc x hx).lim q hq
 omega
theorem clo_more {s:State} {X:List Nat} (a q:Nat) (n:Int):Clo (withMore s a q n) X↔Clo s X:=by
 constructor
 ·intro h b hb k hk hx
  have:=h (moreAcc a q n b) (List.mem_map.mpr ⟨b,hb,rfl⟩) k (by rw [moreAcc_row]; exact hk) hx
  rwa [moreAcc_row] at this
 ·intro h b hb k hk hx
  rw [withMore_accounts] at hb
  obtain ⟨c,hc,rfl⟩:=List.mem_map.mp hb
  rw [moreAcc_row] at hk ⊢
  exact h c hc k hk hx
theorem short_none_iff {s:State} {X:List Nat} {a:Account}:shortOf s X a=none↔∀ q,q∈goods → -(limitOf a q:Int)≤wouldHave s X a q:=by
 unfold shortOf
 rw [List.find?_eq_none]
 constructor
 ·intro h q hq
  have:=h q hq
  simp only [decide_eq_true_eq] at this
  omega
 ·intro h q hq
  have:=h q hq
  simp only [decide_eq_true_eq]
  omega
theorem fit_more_iff {s:State} (G:Good s) {X:List Nat} {a q:Nat} (hq:q∈goods) (n:Int):Fit (withMore s a q n) X↔Clo s X∧∀ b,b∈s.accounts→∀ q',q'∈goods → -(limitOf b q':Int)≤wouldHave s X b q' + if b.key=a∧q'=q then n else 0:=by
 constructor
 ·intro h
  refine ⟨(clo_more a q n).mp h.clo,fun b hb q' hq'=>?_⟩
  have:=short_none_iff.mp (h.ok (moreAcc a q n b) (List.mem_map.mpr ⟨b,hb,rfl⟩)) q' hq'
  rwa [limitOf_more,would_more (G.acc b hb).h4 hq'] at this
 ·rintro ⟨h1,h2⟩
  refine ⟨(clo_more a q n).mpr h1,fun b hb=>?_⟩
  rw [withMore_accounts] at hb
  obtain ⟨c,hc,rfl⟩:=List.mem_map.mp hb
  refine short_none_iff.mpr fun q' hq'=>?_
  rw [limitOf_more,would_more (G.acc c hc).h4 hq']
  exact h2 c hc q' hq'
theorem helps_iff {s:State} (G:Good s) {a q k n:Nat}:helps s a q k n=true↔∃ Z,Fit (withMore s a q (n:Int)) Z∧(∀ j,j∈Z→j∈free s)∧k∈Z:=by
 unfold helps
 rw [List.contains_iff_mem]
 have G':=G.more0 a q n
 constructor
 ·intro h
  exact ⟨_,ready_fit G',fun j hj=>ready_sub (s:=withMore s a q (n:Int)) hj,h⟩
 ·rintro ⟨Z,h1,h2,h3⟩
  exact ready_max G' h1 h2 k h3
theorem search_spec {right:Nat→Bool} (mono:∀ n m,n≤m→right n=true→right m=true):∀ (f lo hi:Nat),lo≤hi→hi - lo < 2 ^ f→right hi=true→(∀ n,n < lo→right n=false) →
  right (search right f lo hi)=true∧∀ n,n < search right f lo hi→right n=false
 | 0,lo,hi,h1,h2,h3,h4=>by
  unfold search
  exact ⟨h3,fun n hn=>h4 n (by omega)⟩
 | f + 1,lo,hi,h1,h2,h3,h4=>by
  unfold search
  split
  ·exact ⟨h3,fun n hn=>h4 n (by omega)⟩
  ·rename_i hlt
   have hp:2 ^ (f + 1)=2 * 2 ^ f:=by rw [Nat.pow_succ]; omega
   show right (if right ((lo + hi) / 2)=true then search right f lo ((lo + hi) / 2) else search right f ((lo + hi) / 2 + 1) hi)=true∧_
   by_cases hm:right ((lo + hi) / 2)=true
   ·have:=search_spec mono f lo ((lo + hi) / 2) (by omega) (by omega) hm h4
    simp only [hm,if_true]
    exact this
   ·have:=search_spec mono f ((lo + hi) / 2 + 1) hi (by omega) (by omega) h3 (fun n hn=>by
     cases e:right n with
     | false=>rfl
     | true=>exact absurd (mono n _ (by omega) e) hm)
    simp only [hm]
    exact this
theorem helps_mono {s:State} (G:Good s) {a q k:Nat} (hq:q∈goods) {n m:Nat} (h:n≤m) (e:helps s a q k n=true):helps s a q k m=true:=by
 obtain ⟨Z,h1,h2,h3⟩:=(helps_iff G).mp e
 refine (helps_iff G).mpr ⟨Z,?_,h2,h3⟩
 obtain ⟨c,o⟩:=(fit_more_iff G hq _).mp h1
 refine (fit_more_iff G hq _).mpr ⟨c,fun b hb q' hq'=>?_⟩
 have:=o b hb q' hq'
 split at this
 ·rename_i z
  rw [if_pos z]
  omega
 ·rename_i z
  rw [if_neg z]
  omega
theorem needOf_is {s:State} (G:Good s) {a q k:Nat} (hq:q∈goods) {n:Nat} (hN:n≤NEED) (h1:helps s a q k n=true) (h2:∀ m,m < n→helps s a q k m=false):needOf s a q k=n:=by
 have hs:=search_spec (right:=helps s a q k) (fun n m h e=>helps_mono G hq h e) 64 0 NEED (by decide) (by decide) (helps_mono G hq hN h1) (fun n hn=>by omega)
 unfold needOf
 obtain ⟨e1,e2⟩:=hs
 rcases Nat.lt_trichotomy (search (helps s a q k) 64 0 NEED) n with h | h | h
 ·rw [h2 _ h] at e1
  cases e1
 ·exact h
 ·rw [e2 n h] at h1
  cases h1
def missing (s:State) (x:Account) (q:Nat) (X:List Nat):Int:=max 0 (-(limitOf x q:Int) - wouldHave s X x q)
def touching (x:Account) (X:List Nat):List Nat:=x.row.filter fun k=>X.contains k
def finds (s s':State) (x:Account) (q k:Nat):Nat→List Nat→List Int
 | 0,_=>[]
 | f + 1,X=>if X.contains k=true then missing s x q X::(match (touching x X).getLast? with
   | none=>[]
   | some c=>finds s s' x q k f (gw s' (X.filter fun j=>!([c].contains j)))) else []
theorem finds_mem {s:State} (G:Good s) {x:Account} (hx:x∈s.accounts) {q k:Nat} (hq:q∈goods) {N:Nat}:∀ (f:Nat) (X:List Nat),X.length < f→Fit (withMore s x.key q (N:Int)) X→(∀ j,j∈X→j∈free s) →
  (∀ m,m∈finds s (withMore s x.key q (N:Int)) x q k f X→∃ n:Nat,m=(n:Int)∧n≤N∧helps s x.key q k n=true) ∧
  (∀ (n:Nat) (Z:List Nat),n≤N→Fit (withMore s x.key q (n:Int)) Z→(∀ j,j∈Z→j∈X)→k∈Z→∃ m,m∈finds s (withMore s x.key q (N:Int)) x q k f X∧m≤(n:Int))
 | 0,X,h,_,_=>by omega
 | f + 1,X,h,hF,hfr=>by
  have hfit:=(fit_more_iff G hq _).mp hF
  have hxN:=hfit.2 x hx q hq
  rw [if_pos ⟨rfl,rfl⟩] at hxN
  have uniq:∀ b,b∈s.accounts→b.key=x.key→b=x:=fun b hb e=>key_inj G.an hb hx e
  by_cases hk:k∈X
  ·have hc:X.contains k=true:=List.contains_iff_mem.mpr hk
   have miss:∃ n:Nat,missing s x q X=(n:Int)∧n≤N∧helps s x.key q k n=true:=by
    refine ⟨(missing s x q X).toNat,?_,?_,?_⟩
    ·unfold missing; omega
    ·unfold missing; omega
    ·refine (helps_iff G).mpr ⟨X,(fit_more_iff G hq _).mpr ⟨hfit.1,fun b hb q' hq'=>?_⟩,hfr,hk⟩
     have:=hfit.2 b hb q' hq'
     by_cases z:b.key=x.key∧q'=q
     ·obtain ⟨z1,rfl⟩:=z
      have e:=uniq b hb z1
      subst e
      rw [if_pos ⟨rfl,rfl⟩]
      unfold missing
      omega
     ·rw [if_neg z] at this ⊢
      exact this
   have tle:∀ (n:Nat) (Z:List Nat),Fit (withMore s x.key q (n:Int)) Z→(∀ j,j∈x.row→(j∈Z↔j∈X))→missing s x q X≤(n:Int):=fun n Z hZ same=>by
    have e:=((fit_more_iff G hq _).mp hZ).2 x hx q hq
    rw [if_pos ⟨rfl,rfl⟩,would_row G hx same] at e
    unfold missing
    omega
   unfold finds
   rw [if_pos hc]
   cases hl:(touching x X).getLast? with
   | none =>
    refine ⟨fun m hm=>?_,fun n Z hn hZ hsub hkZ=>⟨_,List.mem_cons_self ..,tle n Z hZ fun j hj=>⟨hsub j,fun hjX=>?_⟩⟩⟩
    ·rcases List.mem_cons.mp hm with rfl | hm
     ·exact miss
     ·cases hm
    ·rw [List.getLast?_eq_none_iff] at hl
     have:j∈touching x X:=List.mem_filter.mpr ⟨hj,List.contains_iff_mem.mpr hjX⟩
     rw [hl] at this
     cases this
   | some c =>
    have G':=G.more0 x.key q N
    have hcm:c∈touching x X:=List.mem_of_getLast? hl
    have hcX:c∈X:=List.contains_iff_mem.mp (List.mem_filter.mp hcm).2
    have hlen:(X.filter fun j=>!([c].contains j)).length < X.length:=List.length_filter_lt_length_iff_exists.mpr ⟨c,hcX,by simp⟩
    have hle:=(gw_sublist (withMore s x.key q (N:Int)) (X.filter fun j=>!([c].contains j))).length_le
    have hsubX:∀ j,j∈gw (withMore s x.key q (N:Int)) (X.filter fun j=>!([c].contains j))→j∈X:=fun j hj=>(List.mem_filter.mp ((gw_sublist _ _).mem hj)).1
    obtain ⟨i1,i2⟩:=finds_mem G hx (k:=k) hq f (gw (withMore s x.key q (N:Int)) (X.filter fun j=>!([c].contains j))) (by omega) (gw_fit G' _) (fun j hj=>hfr j (hsubX j hj))
    refine ⟨fun m hm=>?_,fun n Z hn hZ hsub hkZ=>?_⟩
    ·rcases List.mem_cons.mp hm with rfl | hm
     ·exact miss
     ·exact i1 m hm
    ·by_cases hcZ:c∈Z
     ·refine ⟨_,List.mem_cons_self ..,tle n Z hZ fun j hj=>⟨hsub j,fun hjX=>?_⟩⟩
      have cZ:=(clo_more _ _ _).mp hZ.clo
      have hcr:c∈x.row:=(List.mem_filter.mp hcm).1
      have e1:beginning X x.row=touching x X:=beg_filter (fun k hk hx'=>hfit.1 x hx k hk hx') (G.acc x hx).nd
      have e:=prefix_last (beg_prefix hsub x.row) (beg_nodup (G.acc x hx).nd) (by rw [e1]; exact hl) (cZ x hx c hcr hcZ)
      have:=hfit.1 x hx j hj hjX
      rw [← e] at this
      exact (beg_mem this).2
     ·have hZN:Fit (withMore s x.key q (N:Int)) Z:=by
       obtain ⟨z1,z2⟩:=(fit_more_iff G hq _).mp hZ
       refine (fit_more_iff G hq _).mpr ⟨z1,fun b hb q' hq'=>?_⟩
       have:=z2 b hb q' hq'
       split at this
       ·rename_i z; rw [if_pos z]; omega
       ·rename_i z; rw [if_neg z]; omega
      obtain ⟨m,hm,hle'⟩:=i2 n Z hn hZ (gw_max G' hZN fun j hj=>List.mem_filter.mpr ⟨hsub j hj,by simp; rintro rfl; exact hcZ hj⟩) hkZ
      exact ⟨m,List.mem_cons_of_mem _ hm,hle'⟩
  ·have hc:¬ X.contains k=true:=fun e=>hk (List.contains_iff_mem.mp e)
   unfold finds
   rw [if_neg hc]
   exact ⟨fun m hm=>(by cases hm),fun n Z hn hZ hsub hkZ=>absurd (hsub k hkZ) hk⟩
theorem need_none {s:State} (G:Good s) {x:Account} (hx:x∈s.accounts) {q k:Nat} (hq:q∈goods) {X:List Nat} (hX:X.Perm (ready (withMore s x.key q (NEED:Int)))) {f:Nat} (hf:X.length < f) :
  (finds s (withMore s x.key q (NEED:Int)) x q k f X=[]↔helps s x.key q k NEED=false)∧∀ m,m∈finds s (withMore s x.key q (NEED:Int)) x q k f X→(∀ y,y∈finds s (withMore s x.key q (NEED:Int)) x q k f X→m≤y)→m=(needOf s x.key q k:Int):=by
 have G':=G.more0 x.key q NEED
 have hF:Fit (withMore s x.key q (NEED:Int)) X:=by
  have r:=ready_fit G'
  refine ⟨fun a ha k hk hx'=>?_,fun a ha=>?_⟩
  ·rw [beg_congr fun k=>hX.mem_iff]
   exact r.clo a ha k hk (hX.mem_iff.mp hx')
  ·rw [short_mem fun k=>hX.mem_iff]
   exact r.ok a ha
 have hfr:∀ j,j∈X→j∈free s:=fun j hj=>ready_sub (s:=withMore s x.key q (NEED:Int)) (hX.mem_iff.mp hj)
 obtain ⟨i1,i2⟩:=finds_mem G hx (k:=k) hq f X hf hF hfr
 refine ⟨⟨fun e=>?_,fun e=>?_⟩,fun m hm hmin=>?_⟩
 ·cases q':helps s x.key q k NEED with
  | false=>rfl
  | true =>
   obtain ⟨Z,z1,z2,z3⟩:=(helps_iff G).mp q'
   obtain ⟨m,hm,_⟩:=i2 NEED Z (Nat.le_refl _) z1 (fun j hj=>hX.mem_iff.mpr (ready_max G' z1 z2 j hj)) z3
   rw [e] at hm
   cases hm
 ·rw [List.eq_nil_iff_forall_not_mem]
  intro m hm
  obtain ⟨n,_,hn,h⟩:=i1 m hm
  rw [helps_mono G hq hn h] at e
  cases e
 ·obtain ⟨n,rfl,hn,h⟩:=i1 m hm
  congr 1
  refine (needOf_is G hq hn h fun j hj=>?_).symm
  cases e:helps s x.key q k j with
  | false=>rfl
  | true =>
   obtain ⟨Z,z1,z2,z3⟩:=(helps_iff G).mp e
   have zN:Fit (withMore s x.key q (NEED:Int)) Z:=by
    obtain ⟨z1',z2'⟩:=(fit_more_iff G hq _).mp z1
    refine (fit_more_iff G hq _).mpr ⟨z1',fun b hb q' hq'=>?_⟩
    have:=z2' b hb q' hq'
    split at this
    ·rename_i z; rw [if_pos z]; omega
    ·rename_i z; rw [if_neg z]; omega
   obtain ⟨m',hm',hle⟩:=i2 j Z (by omega) z1 (fun i hi=>hX.mem_iff.mpr (ready_max G' zN z2 i hi)) z3
   have:=hmin m' hm'
   omega
end Vb
namespace Vb
open Vbchak
def rd (s:State) (X:List Nat):Nat→List Nat
 | 0=>X
 | i + 1=>round s (rd s X i)
theorem rd_succ (s:State) (X:List Nat):∀ i,rd s X (i + 1)=rd s (round s X) i
 | 0=>rfl
 | i + 1=>by
  show round s (rd s X (i + 1))=round s (rd s (round s X) i)
  rw [rd_succ s X i]
theorem rd_perm {s:State} {X Y:List Nat} (h:X.Perm Y):∀ i,(rd s X i).Perm (rd s Y i)
 | 0=>h
 | i + 1=>round_perm (rd_perm h i)
theorem rd_sub {s:State} {X:List Nat} {k:Nat}:∀ {i j:Nat},i≤j→k∈rd s X j→k∈rd s X i
 | i,0,h,hk=>by
  have:i=0:=by omega
  subst this
  exact hk
 | i,j + 1,h,hk=>by
  by_cases e:i=j + 1
  ·subst e; exact hk
  ·exact rd_sub (by omega) (round_sub hk)
theorem rd_clo {s:State} {X:List Nat} (h:Clo s X):∀ i,Clo s (rd s X i)
 | 0=>h
 | i + 1=>round_clo s _
theorem rd_nodup {s:State} {X:List Nat} (h:X.Nodup):∀ i,(rd s X i).Nodup
 | 0=>h
 | i + 1=>(rd_nodup h i).sublist (round_sublist s _)
theorem rd_len {s:State} {X:List Nat}:∀ {n:Nat},(∀ i,i < n→culprits s (rd s X i)≠[])→(rd s X n).length + n≤X.length
 | 0,_=>by show X.length + 0≤X.length; omega
 | n + 1,h=>by
  have:=rd_len (s:=s) (X:=X) (n:=n) fun i hi=>h i (by omega)
  have:=round_len (h n (by omega))
  show (round s (rd s X n)).length + (n + 1)≤X.length
  omega
theorem rounds_rd {s:State}:∀ {n f:Nat} {X:List Nat},(∀ i,i < n→culprits s (rd s X i)≠[])→culprits s (rd s X n)=[]→n < f→rounds s f X=rd s X n
 | 0,f + 1,X,_,h2,_=>by
  unfold rounds
  rw [if_pos (by rw [show culprits s X=[] from h2]; rfl)]
  rfl
 | n + 1,f + 1,X,h1,h2,h3=>by
  unfold rounds
  rw [if_neg (by rw [List.isEmpty_iff]; exact h1 0 (by omega)),rounds_rd (n:=n) (fun i hi=>by rw [← rd_succ]; exact h1 (i + 1) (by omega)) (by rw [← rd_succ]; exact h2) (by omega),← rd_succ]
theorem gw_rd {s:State} {X:List Nat} {n:Nat} (h1:∀ i,i < n→culprits s (rd s (closed s X) i)≠[]) (h2:culprits s (rd s (closed s X) n)=[]):rd s (closed s X) n=gw s X:=by
 have h:=rd_len h1
 have h':=(closed_sublist s X).length_le
 exact (rounds_rd h1 h2 (by omega)).symm
def sd (acc:List (Nat×Nat)) (x:Nat×Nat):List (Nat×Nat):=if (acc.any fun y=>y.1 == x.1)=true then acc else acc++[x]
theorem sd_find (k:Nat):∀ (l acc:List (Nat×Nat)),(l.foldl sd acc).find? (fun y=>y.1 == k)=(acc.find? fun y=>y.1 == k).or (l.find? fun y=>y.1 == k)
 | [],acc=>by
  show acc.find? _=_
  rw [List.find?_nil,Option.or_none]
 | x::l,acc=>by
  rw [List.foldl_cons,sd_find k l (sd acc x),List.find?_cons]
  unfold sd
  by_cases h:(acc.any fun y=>y.1 == x.1)=true
  ·rw [if_pos h]
   by_cases e:x.1=k
   ·have hs:(acc.find? fun y=>y.1 == k).isSome=true:=by
     rw [List.find?_isSome]
     obtain ⟨y,hy,e2⟩:=List.any_eq_true.mp h
     exact ⟨y,hy,by rw [← e]; exact e2⟩
    obtain ⟨z,hz⟩:=Option.isSome_iff_exists.mp hs
    rw [hz]
    rfl
   ·have:(x.1 == k)=false:=by simpa using e
    rw [this]
  ·rw [if_neg h,List.find?_append,Option.or_assoc]
   congr 1
   rw [List.find?_cons]
   by_cases e:x.1=k
   ·have:(x.1 == k)=true:=by simpa using e
    rw [this]
    rfl
   ·have:(x.1 == k)=false:=by simpa using e
    rw [this,List.find?_nil]
    rfl
def lasts (s:State) (X:List Nat):List (Nat×Nat):=s.accounts.filterMap fun a=>if (shortOf s X a).isSome=true then (beginning X a.row).getLast?.map fun c=>(c,a.key) else none
def culp (s:State) (X:List Nat):List (Nat×Nat):=(lasts s X).foldl sd []
theorem culp_find (s:State) (X:List Nat) (k:Nat):(culp s X).find? (fun y=>y.1 == k)=(lasts s X).find? fun y=>y.1 == k:=by
 unfold culp
 rw [sd_find,List.find?_nil,Option.none_or]
theorem culp_keys (s:State) (X:List Nat) (k:Nat):k∈(culp s X).map (·.1)↔k∈culprits s X:=by
 have h:(k∈(culp s X).map (·.1))↔((culp s X).find? fun y=>y.1 == k).isSome=true:=by
  rw [List.find?_isSome,List.mem_map]
  simp only [beq_iff_eq]
 rw [h,culp_find,List.find?_isSome,mem_culprits]
 unfold lasts
 simp only [List.mem_filterMap,beq_iff_eq]
 constructor
 ·rintro ⟨y,⟨a,ha,e⟩,rfl⟩
  split at e
  ·rename_i q
   rw [Option.map_eq_some_iff] at e
   obtain ⟨c,hc,rfl⟩:=e
   exact ⟨a,ha,q,hc⟩
  ·cases e
 ·rintro ⟨a,ha,q,e⟩
  exact ⟨(k,a.key),⟨a,ha,by rw [if_pos q,e]; rfl⟩,rfl⟩
theorem culp_empty {s:State} {X:List Nat}:culp s X=[]↔culprits s X=[]:=by
 constructor
 ·intro h
  rw [List.eq_nil_iff_forall_not_mem]
  intro k hk
  have:=(culp_keys s X k).mpr hk
  rw [h] at this
  cases this
 ·intro h
  rw [List.eq_nil_iff_forall_not_mem]
  intro y hy
  have:=(culp_keys s X y.1).mp (List.mem_map.mpr ⟨y,hy,rfl⟩)
  rw [h] at this
  cases this
theorem find_filterMap {α β:Type} (f:α→Option β) (p:β→Bool) (q:α→Bool) (g:α→β) (h:∀ a,q a=true→f a=some (g a)) (h2:∀ a,(match f a with | some b=>p b | none=>false)=q a):∀ l:List α,(l.filterMap f).find? p=(l.find? q).map g
 | []=>rfl
 | a::l=>by
  rw [List.filterMap_cons,List.find?_cons]
  have ha:=h2 a
  cases e:f a with
  | none =>
   rw [e] at ha
   have ha':q a=false:=ha.symm
   rw [ha']
   exact find_filterMap f p q g h h2 l
  | some b =>
   rw [e] at ha
   show (b::l.filterMap f).find? p=_
   rw [List.find?_cons]
   have ha':p b=q a:=ha
   rw [ha']
   cases hq:q a with
   | true =>
    have:=h a hq
    rw [e] at this
    cases this
    rfl
   | false=>exact find_filterMap f p q g h h2 l
theorem reasonIn_eq (s:State) (X:List Nat) (k:Nat):reasonIn s X k=match s.accounts.find? (fun a=>(shortOf s X a).isSome && (beginning X a.row).getLast? == some k) with
  | some a=>[1,a.key,(shortOf s X a).getD 0]
  | none=>[]:=rfl
theorem lasts_find (s:State) (X:List Nat) (k:Nat):(lasts s X).find? (fun y=>y.1 == k)=(s.accounts.find? fun a=>(shortOf s X a).isSome && (beginning X a.row).getLast? == some k).map fun a=>(k,a.key):=by
 unfold lasts
 refine find_filterMap _ _ _ _ (fun a h=>?_) (fun a=>?_) _
 ·rw [Bool.and_eq_true,beq_iff_eq] at h
  rw [if_pos h.1,h.2]
  rfl
 ·by_cases e:(shortOf s X a).isSome=true
  ·rw [if_pos e,e,Bool.true_and]
   cases (beginning X a.row).getLast? with
   | none=>rfl
   | some c=>rfl
  ·rw [if_neg e]
   have:(shortOf s X a).isSome=false:=by simpa using e
   rw [this]
   rfl
theorem whyFrom_at {s:State} {k:Nat}:∀ {j f i:Nat} {X:List Nat},(∀ m,m≤j→k∈rd s X m)→¬ k∈rd s X (j + 1)→j < f →
  whyFrom s k f i X=(i + j)::(match reasonIn s (rd s X j) k with | []=>blockedBy s (rd s X (j + 1)) k | r=>r)
 | 0,f + 1,i,X,h1,h2,h3=>by
  unfold whyFrom
  show (if (round s X).contains k=true then _ else _)=_
  rw [if_neg (show ¬ (round s X).contains k=true from fun e=>h2 (List.contains_iff_mem.mp e))]
  rfl
 | j + 1,f + 1,i,X,h1,h2,h3=>by
  unfold whyFrom
  show (if (round s X).contains k=true then _ else _)=_
  rw [if_pos (show (round s X).contains k=true from List.contains_iff_mem.mpr (h1 1 (by omega))),whyFrom_at (j:=j) (fun m hm=>by rw [← rd_succ]; exact h1 (m + 1) (by omega)) (by rw [← rd_succ]; exact h2) (by omega),← rd_succ,← rd_succ]
  congr 1
  omega
theorem blockedBy_mem {s:State} {X Y:List Nat} (h:∀ k,k∈X↔k∈Y) (k:Nat):blockedBy s X k=blockedBy s Y k:=by
 have e:∀ x,X.contains x=Y.contains x:=fun x=>by
  rw [Bool.eq_iff_iff,List.contains_iff_mem,List.contains_iff_mem]
  exact h x
 unfold blockedBy
 simp only [e]
theorem reasonIn_mem {s:State} {X Y:List Nat} (h:∀ k,k∈X↔k∈Y) (k:Nat):reasonIn s X k=reasonIn s Y k:=by
 unfold reasonIn
 simp only [short_mem h,beg_congr h]
def aheads (s:State) (X:List Nat) (k:Nat):List (Nat×Nat):=s.accounts.filterMap fun a=>if a.row.contains k=true then ((a.row.takeWhile fun x=>x != k).filter fun x=>!X.contains x).head?.map fun g=>(a.key,g) else none
theorem head_filter {α:Type} (p:α→Bool):∀ l:List α,(l.filter p).head?=l.find? p
 | []=>rfl
 | x::l=>by
  rw [List.filter_cons,List.find?_cons]
  cases p x with
  | true=>rfl
  | false=>exact head_filter p l
theorem find_takeWhile {α:Type} (p r:α→Bool):∀ (l:List α) (x:α),(l.takeWhile r).find? p=some x→l.find? p=some x
 | [],x,h=>h
 | y::l,x,h=>by
  by_cases hr:r y=true
  ·rw [List.takeWhile_cons_of_pos hr,List.find?_cons] at h
   rw [List.find?_cons]
   cases hp:p y with
   | true=>rw [hp] at h; exact h
   | false=>rw [hp] at h; exact find_takeWhile p r l x h
  ·rw [List.takeWhile_cons_of_neg hr] at h
   cases h
theorem blockedBy_eq (s:State) (X:List Nat) (k:Nat):blockedBy s X k=match (aheads s X k).head? with
  | some (a,g)=>[2,a,g]
  | none=>[]:=by
 have hd:∀ {β:Type} (l:List β),l.head?=l.find? fun _=>true:=fun l=>by cases l <;> rfl
 have e:(aheads s X k).head?=(s.accounts.find? fun a=>a.row.contains k && (a.row.takeWhile fun x=>x != k).any fun x=>!X.contains x).map fun a=>(a.key,(a.row.find? fun x=>!X.contains x).getD 0):=by
  rw [hd]
  unfold aheads
  refine find_filterMap _ _ _ _ (fun a h=>?_) (fun a=>?_) _
  ·rw [Bool.and_eq_true] at h
   rw [if_pos h.1,head_filter]
   have hs:((a.row.takeWhile fun x=>x != k).find? fun x=>!X.contains x).isSome=true:=by
    rw [List.find?_isSome]
    obtain ⟨x,h1,h2⟩:=List.any_eq_true.mp h.2
    exact ⟨x,h1,h2⟩
   obtain ⟨x,hx⟩:=Option.isSome_iff_exists.mp hs
   rw [hx,find_takeWhile _ _ _ _ hx]
   rfl
  ·by_cases hr:a.row.contains k=true
   ·rw [if_pos hr,hr,Bool.true_and,head_filter]
    cases hf:(a.row.takeWhile fun x=>x != k).find? fun x=>!X.contains x with
    | none =>
     symm
     show (_:Bool)=false
     rw [List.any_eq_false]
     intro x hx
     exact (List.find?_eq_none.mp hf) x hx
    | some x =>
     symm
     show (_:Bool)=true
     rw [List.any_eq_true]
     have:=List.find?_some (p:=fun x=>!X.contains x) hf
     exact ⟨x,List.mem_of_find?_eq_some hf,this⟩
   ·rw [if_neg hr]
    have:a.row.contains k=false:=by simpa using hr
    rw [this]
    rfl
 rw [e]
 unfold blockedBy
 cases s.accounts.find? fun a=>a.row.contains k && (a.row.takeWhile fun x=>x != k).any fun x=>!X.contains x with
 | none=>rfl
 | some a=>rfl
theorem beg_before {X:List Nat} {k:Nat}:∀ {row:List Nat},k∈row→k∈X→¬ k∈beginning X row→∃ x,x∈row.takeWhile (fun x=>x != k)∧¬ x∈X
 | y::r,hk,hx,h=>by
  by_cases e:y=k
  ·subst e
   exfalso
   apply h
   unfold beginning
   rw [List.takeWhile_cons_of_pos (List.contains_iff_mem.mpr hx)]
   exact List.mem_cons_self ..
  ·have ne:(fun x=>x != k) y=true:=by simpa using e
   by_cases hy:y∈X
   ·obtain ⟨x,h1,h2⟩:=beg_before (row:=r) (by
     rcases List.mem_cons.mp hk with z | z
     ·exact absurd z.symm e
     ·exact z) hx (fun z=>h (by
     unfold beginning
     rw [List.takeWhile_cons_of_pos (List.contains_iff_mem.mpr hy)]
     exact List.mem_cons_of_mem _ z))
    exact ⟨x,by rw [List.takeWhile_cons_of_pos (p:=fun x=>x != k) ne]; exact List.mem_cons_of_mem _ h1,h2⟩
   ·exact ⟨y,by rw [List.takeWhile_cons_of_pos (p:=fun x=>x != k) ne]; exact List.mem_cons_self ..,hy⟩
theorem cut_gone {s:State} {k:Nat}:∀ {n:Nat} {X:List Nat},k∈X→¬ k∈cut s n X→∃ a,a∈s.accounts∧k∈a.row∧∃ x,x∈a.row.takeWhile (fun x=>x != k)∧¬ x∈cut s n X
 | 0,X,h1,h2=>absurd h1 h2
 | n + 1,X,h1,h2=>by
  unfold cut at h2 ⊢
  split at h2
  ·exact absurd h1 h2
  ·rename_i e
   rw [if_neg e]
   by_cases hc:k∈cutOnce s X
   ·exact cut_gone hc h2
   ·have:∃ a,a∈s.accounts∧k∈a.row∧¬ k∈beginning X a.row:=by
     refine Classical.byContradiction fun hn=>hc (cutOnce_mem.mpr ⟨h1,fun a ha hr=>?_⟩)
     exact Classical.byContradiction fun hb=>hn ⟨a,ha,hr,hb⟩
    obtain ⟨a,ha,hr,hb⟩:=this
    obtain ⟨x,hx1,hx2⟩:=beg_before hr h1 hb
    exact ⟨a,ha,hr,x,hx1,fun z=>hx2 (cutOnce_sub (cut_sub z))⟩
theorem aheads_some {s:State} {X:List Nat} {k:Nat} (h1:k∈X) (h2:¬ k∈closed s X):∃ a g r,aheads s (closed s X) k=(a,g)::r:=by
 obtain ⟨a,ha,hr,x,hx1,hx2⟩:=cut_gone h1 h2
 cases e:aheads s (closed s X) k with
 | cons y r=>exact ⟨y.1,y.2,r,rfl⟩
 | nil =>
  exfalso
  unfold aheads at e
  rw [List.filterMap_eq_nil_iff] at e
  have:=e a ha
  rw [if_pos (List.contains_iff_mem.mpr hr),Option.map_eq_none_iff,List.head?_eq_none_iff,List.filter_eq_nil_iff] at this
  refine this x hx1 ?_
  rw [Bool.not_eq_true',← Bool.not_eq_true,List.contains_iff_mem]
  exact hx2
theorem count_rd {s:State} {X:List Nat} {k j:Nat}:∀ {n:Nat},j≤n→(∀ i,i < j→k∈rd s X i)→¬ k∈rd s X j→(((List.range n).map (rd s X)).filter fun Y=>Y.contains k).length=j
 | 0,h,_,_=>by
  have:j=0:=by omega
  subst this
  rfl
 | n + 1,h,h1,h2=>by
  rw [List.range_succ,List.map_append,List.filter_append,List.length_append,List.map_singleton,List.filter_cons]
  by_cases e:j=n + 1
  ·subst e
   rw [if_pos (List.contains_iff_mem.mpr (h1 n (by omega)))]
   have:(((List.range n).map (rd s X)).filter fun Y=>Y.contains k).length=n:=by
    rw [List.filter_eq_self.mpr,List.length_map,List.length_range]
    intro Y hY
    obtain ⟨i,hi,rfl⟩:=List.mem_map.mp hY
    exact List.contains_iff_mem.mpr (h1 i (by rw [List.mem_range] at hi; omega))
   rw [this]
   rfl
  ·rw [count_rd (n:=n) (by omega) h1 h2,if_neg (fun z=>h2 (rd_sub (by omega) (List.contains_iff_mem.mp z)))]
   rfl
theorem first_out {s:State} {X:List Nat} {k:Nat}:∀ {n:Nat},¬ k∈rd s X n→∃ j,j≤n∧(∀ i,i < j→k∈rd s X i)∧¬ k∈rd s X j
 | 0,h=>⟨0,Nat.le_refl _,fun i hi=>by omega,h⟩
 | n + 1,h=>by
  by_cases e:k∈rd s X n
  ·exact ⟨n + 1,Nat.le_refl _,fun i hi=>rd_sub (by omega) e,h⟩
  ·obtain ⟨j,h1,h2,h3⟩:=first_out e
   exact ⟨j,by omega,h2,h3⟩
end Vb
namespace Vb
open Vbchak
structure R (m s:State):Prop where
 pa:m.accounts.Perm s.accounts
 pg:m.groups.Perm s.groups
 sa:s.accounts.Pairwise fun a b=>a.key < b.key
 sg:s.groups.Pairwise fun a b=>a.key < b.key
 good:Good s
theorem find_key {α:Type} {f:α→Nat}:∀ {l:List α},(l.map f).Nodup→∀ {a:α},a∈l→l.find? (fun x=>f x == f a)=some a
 | [],_,a,h=>by cases h
 | x::l,nd,a,h=>by
  rw [List.map_cons,List.nodup_cons] at nd
  rw [List.find?_cons]
  rcases List.mem_cons.mp h with e | h'
  ·subst e
   rw [beq_self_eq_true]
  ·have:(f x == f a)=false:=by
    rw [beq_eq_false_iff_ne]
    exact fun e=>nd.1 (e ▸ List.mem_map.mpr ⟨a,h',rfl⟩)
   rw [this]
   exact find_key nd.2 h'
theorem accountAt_mem {s:State} (G:Good s) {a:Account} (h:a∈s.accounts):accountAt s a.key=some a:=find_key (f:=fun x:Account=>x.key) G.an h
theorem groupAt_mem {s:State} (G:Good s) {g:Group} (h:g∈s.groups):groupAt s g.key=some g:=find_key (f:=fun x:Group=>x.key) G.gn h
theorem accountAt_some {s:State} {k:Nat} {a:Account} (h:accountAt s k=some a):a∈s.accounts∧a.key=k:=by
 unfold accountAt at h
 refine ⟨List.mem_of_find?_eq_some h,?_⟩
 have:=List.find?_some (p:=fun a:Account=>a.key == k) h
 simpa using this
theorem groupAt_some {s:State} {k:Nat} {g:Group} (h:groupAt s k=some g):g∈s.groups∧g.key=k:=by
 unfold groupAt at h
 refine ⟨List.mem_of_find?_eq_some h,?_⟩
 have:=List.find?_some (p:=fun a:Group=>a.key == k) h
 simpa using this
theorem accountAt_none {s:State} {k:Nat} (h:accountAt s k=none):∀ a,a∈s.accounts→a.key≠k:=fun a ha e=>by
 have:=(List.find?_eq_none.mp h) a ha
 simp [e] at this
theorem groupAt_none {s:State} {k:Nat} (h:groupAt s k=none):∀ g,g∈s.groups→g.key≠k:=fun a ha e=>by
 have:=(List.find?_eq_none.mp h) a ha
 simp [e] at this
theorem sorted_is {α:Type} {f:α→Nat} {l:List α} (h:l.Pairwise fun a b=>f a < f b):(l.map f).Pairwise (· < ·):=List.pairwise_map.mpr h
theorem lt_nodup {l:List Nat} (h:l.Pairwise (· < ·)):l.Nodup:=h.imp fun h e=>by omega
theorem sort_eq {l:List Int} {ks ks':List Nat} (hp:l.Perm (ks.map fun (k:Nat)=>(k:Int))) (hs:l.Pairwise (· ≤ ·)) (hk:ks.Perm ks') (h:ks'.Pairwise (· < ·)):l=ks'.map fun (k:Nat)=>(k:Int):=by
 have hp':l.Perm (ks'.map fun (k:Nat)=>(k:Int)):=hp.trans (hk.map _)
 refine hp'.eq_of_pairwise (le:=fun a b:Int=>a≤b) (fun a b _ _ h1 h2=>by omega) hs ?_
 exact List.pairwise_map.mpr (h.imp fun h=>by omega)
theorem R.keysA {m s:State} (r:R m s):(s.accounts.map (·.key)).Pairwise (· < ·):=sorted_is r.sa
theorem R.keysG {m s:State} (r:R m s):(s.groups.map (·.key)).Pairwise (· < ·):=sorted_is r.sg
theorem free_sorted {m s:State} (r:R m s):(free s).Pairwise (· < ·):=by
 unfold free
 exact List.pairwise_map.mpr (r.sg.sublist List.filter_sublist)
theorem ready_sorted {m s:State} (r:R m s):(ready s).Pairwise (· < ·):=by
 rw [ready_gw]
 exact (free_sorted r).sublist (gw_sublist s _)
theorem ready_nodup {m s:State} (r:R m s):(ready s).Nodup:=lt_nodup (ready_sorted r)
theorem free_perm {m s:State} (r:R m s):(free m).Perm (free s):=(r.pg.filter _).map _
theorem R.an {m s:State} (r:R m s):(m.accounts.map (·.key)).Nodup:=((r.pa.map _).nodup_iff).mpr r.good.an
theorem R.gn {m s:State} (r:R m s):(m.groups.map (·.key)).Nodup:=((r.pg.map _).nodup_iff).mpr r.good.gn
def legsAt (s:State) (k:Nat):List Leg:=match groupAt s k with
 | some g=>g.legs
 | none=>[]
def legTo (a q:Nat) (x:Leg):Int:=if x.good=q then (if x.to=a then (x.amount:Int) else 0) - (if x.from_=a then (x.amount:Int) else 0) else 0
theorem would_keys {s:State} (G:Good s) {ks:List Nat} (nd:ks.Nodup) (hk:∀ k,k∈ks→∃ g,g∈s.groups∧g.key=k) (a:Account) (q:Nat) :
  wouldHave s ks a q=hasOf a q + total (ks.map fun k=>total ((legsAt s k).map (legTo a.key q))):=by
 unfold wouldHave
 congr 1
 have hp:((s.groups.filter fun g=>ks.contains g.key).map (·.key)).Perm ks:=by
  refine (List.perm_ext_iff_of_nodup (G.gn.sublist (List.filter_sublist.map _)) nd).mpr fun k=>?_
  constructor
  ·intro h
   obtain ⟨g,hg,rfl⟩:=List.mem_map.mp h
   exact List.contains_iff_mem.mp (List.mem_filter.mp hg).2
  ·intro h
   obtain ⟨g,hg,rfl⟩:=hk k h
   exact List.mem_map.mpr ⟨g,List.mem_filter.mpr ⟨hg,List.contains_iff_mem.mpr h⟩,rfl⟩
 rw [← total_perm (hp.map fun k=>total ((legsAt s k).map (legTo a.key q))),List.map_map]
 refine total_congr fun g hg=>?_
 show brings g a.key q=total ((legsAt s g.key).map (legTo a.key q))
 unfold legsAt
 rw [groupAt_mem G (List.mem_filter.mp hg).1]
 rfl
theorem R.mapA {m s:State} (r:R m s) (f:Account→Account) (h:∀ a,(f a).key=a.key) (G:Good ⟨s.accounts.map f,s.groups⟩):R ⟨m.accounts.map f,m.groups⟩ ⟨s.accounts.map f,s.groups⟩ :=
 ⟨r.pa.map f,r.pg,List.pairwise_map.mpr (r.sa.imp fun {a b} q=>by rw [h a,h b]; exact q),r.sg,G⟩
theorem R.more {m s:State} (r:R m s) (a q:Nat) (n:Int) (G:Good (withMore s a q n)):R (withMore m a q n) (withMore s a q n):=r.mapA (moreAcc a q n) (moreAcc_key a q n) G
theorem perm_put {a:Account}:∀ (l:List Account),(putAccount a l).Perm (a::l)
 | []=>List.Perm.refl _
 | x::l=>by
  unfold putAccount
  split
  ·exact List.Perm.refl _
  ·exact ((perm_put l).cons x).trans (List.Perm.swap a x l)
theorem perm_putG {a:Group}:∀ (l:List Group),(putGroup a l).Perm (a::l)
 | []=>List.Perm.refl _
 | x::l=>by
  unfold putGroup
  split
  ·exact List.Perm.refl _
  ·exact ((perm_putG l).cons x).trans (List.Perm.swap a x l)
theorem sorted_put {a:Account}:∀ {l:List Account},l.Pairwise (fun a b=>a.key < b.key)→(∀ x,x∈l→x.key≠a.key)→(putAccount a l).Pairwise fun a b=>a.key < b.key
 | [],_,_=>List.pairwise_singleton _ _
 | x::l,h,hn=>by
  obtain ⟨h1,h2⟩:=List.pairwise_cons.mp h
  unfold putAccount
  split
  ·rename_i hlt
   refine List.pairwise_cons.mpr ⟨fun y hy=>?_,h⟩
   rcases List.mem_cons.mp hy with rfl | hy
   ·exact hlt
   ·have:=h1 y hy
    omega
  ·rename_i hlt
   refine List.pairwise_cons.mpr ⟨fun y hy=>?_,sorted_put h2 fun z hz=>hn z (List.mem_cons_of_mem _ hz)⟩
   rcases List.mem_cons.mp ((perm_put l).mem_iff.mp hy) with rfl | hy
   ·have:=hn x (List.mem_cons_self ..)
    omega
   ·exact h1 y hy
theorem sorted_putG {a:Group}:∀ {l:List Group},l.Pairwise (fun a b=>a.key < b.key)→(∀ x,x∈l→x.key≠a.key)→(putGroup a l).Pairwise fun a b=>a.key < b.key
 | [],_,_=>List.pairwise_singleton _ _
 | x::l,h,hn=>by
  obtain ⟨h1,h2⟩:=List.pairwise_cons.mp h
  unfold putGroup
  split
  ·rename_i hlt
   refine List.pairwise_cons.mpr ⟨fun y hy=>?_,h⟩
   rcases List.mem_cons.mp hy with rfl | hy
   ·exact hlt
   ·have:=h1 y hy
    omega
  ·rename_i hlt
   refine List.pairwise_cons.mpr ⟨fun y hy=>?_,sorted_putG h2 fun z hz=>hn z (List.mem_cons_of_mem _ hz)⟩
   rcases List.mem_cons.mp ((perm_putG l).mem_iff.mp hy) with rfl | hy
   ·have:=hn x (List.mem_cons_self ..)
    omega
   ·exact h1 y hy
def newAcc (k:Nat):Account:=⟨k,[0,0,0,0],[0,0,0,0],[]⟩
theorem newAcc_ok {k:Nat} (h1:1≤k) (h2:k≤1000000000):AccOk (newAcc k):=⟨h1,h2,rfl,rfl,List.nodup_nil,fun q hq=>by
 have:q=1∨q=2∨q=3∨q=4:=by
  have:=mem_goods.mp hq
  omega
 rcases this with rfl | rfl | rfl | rfl <;> exact Int.le_refl 0⟩
theorem touches_leg {g:Group} {k:Nat} (h:touches g k=true):∃ x,x∈g.legs∧(x.from_=k∨x.to=k):=by
 obtain ⟨x,h1,h2⟩:=List.any_eq_true.mp h
 refine ⟨x,h1,?_⟩
 simpa using h2
theorem R.account {m s:State} (r:R m s) {k:Nat} (h1:1≤k) (h2:k≤1000000000) (hn:∀ a,a∈s.accounts→a.key≠k) (h8:s.accounts.length < 8):R { m with accounts:=m.accounts++[newAcc k] } { s with accounts:=putAccount (newAcc k) s.accounts }:=by
 have pp:=perm_put (a:=newAcc k) s.accounts
 have hm:∀ b,b∈putAccount (newAcc k) s.accounts↔b=newAcc k∨b∈s.accounts:=fun b=>by rw [pp.mem_iff,List.mem_cons]
 refine ⟨?_,r.pg,sorted_put r.sa hn,r.sg,⟨fun a ha=>?_,fun g hg=>?_,?_,r.good.gn,?_,r.good.g24,fun a ha j=>?_⟩⟩
 ·exact (List.perm_append_comm.trans (r.pa.cons _)).trans pp.symm
 ·rcases (hm a).mp ha with rfl | ha
  ·exact newAcc_ok h1 h2
  ·exact r.good.acc a ha
 ·have o:=r.good.grp g hg
  refine ⟨o.k1,o.k2,o.l8,fun x hx=>?_⟩
  obtain ⟨⟨a,ha,e⟩,⟨b,hb,e'⟩,q1,q4⟩:=o.legs x hx
  exact ⟨⟨a,(hm a).mpr (.inr ha),e⟩,⟨b,(hm b).mpr (.inr hb),e'⟩,q1,q4⟩
 ·rw [(pp.map (·.key)).nodup_iff,List.map_cons,List.nodup_cons]
  refine ⟨fun h=>?_,r.good.an⟩
  obtain ⟨a,ha,e⟩:=List.mem_map.mp h
  exact hn a ha e
 ·show (putAccount (newAcc k) s.accounts).length≤8
  rw [pp.length_eq,List.length_cons]
  omega
 ·rcases (hm a).mp ha with rfl | ha
  ·constructor
   ·intro h
    cases h
   ·rintro ⟨g,hg,_,ht⟩
    obtain ⟨x,hx,e⟩:=touches_leg ht
    obtain ⟨⟨a,ha',e1⟩,⟨b,hb,e2⟩,_,_⟩:=(r.good.grp g hg).legs x hx
    rcases e with e | e
    ·exact absurd (e1.trans e) (hn a ha')
    ·exact absurd (e2.trans e) (hn b hb)
  ·exact r.good.row a ha j
theorem setAccount_eq (s:State) (a:Account):setAccount s a=⟨s.accounts.map fun x=>if x.key=a.key then a else x,s.groups⟩:=rfl
theorem R.set {m s:State} (r:R m s) {a b:Account} (ha:a∈s.accounts) (hk:b.key=a.key) (hb:AccOk b) (hr:∀ k,k∈b.row↔k∈a.row):R (setAccount m b) (setAccount s b):=by
 rw [setAccount_eq,setAccount_eq]
 have hkey:∀ x:Account,(if x.key=b.key then b else x).key=x.key:=fun x=>by
  split
  ·rename_i e; exact e.symm
  ·rfl
 have hex:∀ k,(∃ c,c∈s.accounts.map (fun x=>if x.key=b.key then b else x)∧c.key=k)↔∃ c,c∈s.accounts∧c.key=k:=fun k=>by
  constructor
  ·rintro ⟨c,hc,e⟩
   obtain ⟨d,hd,rfl⟩:=List.mem_map.mp hc
   exact ⟨d,hd,by rw [← e,hkey]⟩
  ·rintro ⟨c,hc,e⟩
   exact ⟨_,List.mem_map.mpr ⟨c,hc,rfl⟩,by rw [hkey,e]⟩
 refine r.mapA _ hkey ⟨fun c hc=>?_,fun g hg=>?_,?_,r.good.gn,?_,r.good.g24,fun c hc j=>?_⟩
 ·obtain ⟨d,hd,rfl⟩:=List.mem_map.mp hc
  split
  ·exact hb
  ·exact r.good.acc d hd
 ·have o:=r.good.grp g hg
  exact ⟨o.k1,o.k2,o.l8,fun x hx=>⟨(hex _).mpr (o.legs x hx).fr,(hex _).mpr (o.legs x hx).to,(o.legs x hx).q1,(o.legs x hx).q4⟩⟩
 ·have e:(s.accounts.map fun x=>if x.key=b.key then b else x).map (·.key)=s.accounts.map (·.key):=by
   rw [List.map_map]
   exact List.map_congr_left fun x _=>hkey x
  show ((s.accounts.map fun x=>if x.key=b.key then b else x).map (·.key)).Nodup
  rw [e]
  exact r.good.an
 ·show (s.accounts.map _).length≤8
  rw [List.length_map]
  exact r.good.a8
 ·obtain ⟨d,hd,rfl⟩:=List.mem_map.mp hc
  have q:=r.good.row d hd j
  by_cases e:d.key=b.key
  ·rw [if_pos e]
   have:d=a:=key_inj r.good.an hd ha (e.trans hk)
   subst this
   rw [hr j,hk]
   exact q
  ·rw [if_neg e]
   exact q
def rowPlus (g:Group) (a:Account):Account:=if touches g a.key=true then { a with row:=a.row++[g.key] } else a
theorem rowPlus_key (g:Group) (a:Account):(rowPlus g a).key=a.key:=by
 unfold rowPlus
 split <;> rfl
theorem R.group {m s:State} (r:R m s) {g:Group} (k1:1≤g.key) (k2:g.key≤1000000000) (l8:g.legs.length≤8) (hl:∀ x,x∈g.legs→LegOk s x) (hn:∀ x,x∈s.groups→x.key≠g.key) (h24:s.groups.length < 24) :
  R ⟨m.accounts.map (rowPlus g),m.groups++[g]⟩ ⟨s.accounts.map (rowPlus g),putGroup g s.groups⟩:=by
 have pp:=perm_putG (a:=g) s.groups
 have hm:∀ b,b∈putGroup g s.groups↔b=g∨b∈s.groups:=fun b=>by rw [pp.mem_iff,List.mem_cons]
 have hex:∀ k,(∃ c,c∈s.accounts.map (rowPlus g)∧c.key=k)↔∃ c,c∈s.accounts∧c.key=k:=fun k=>by
  constructor
  ·rintro ⟨c,hc,e⟩
   obtain ⟨d,hd,rfl⟩:=List.mem_map.mp hc
   exact ⟨d,hd,by rw [← e,rowPlus_key]⟩
  ·rintro ⟨c,hc,e⟩
   exact ⟨_,List.mem_map.mpr ⟨c,hc,rfl⟩,by rw [rowPlus_key,e]⟩
 have lift:∀ x,LegOk s x→LegOk ⟨s.accounts.map (rowPlus g),putGroup g s.groups⟩ x:=fun x o=>⟨(hex _).mpr o.fr,(hex _).mpr o.to,o.q1,o.q4⟩
 have notin:∀ a,a∈s.accounts→¬ g.key∈a.row:=fun a ha h=>by
  obtain ⟨g',hg',e,_⟩:=(r.good.row a ha g.key).mp h
  exact hn g' hg' e
 refine ⟨r.pa.map _,(List.perm_append_comm.trans (r.pg.cons _)).trans pp.symm,List.pairwise_map.mpr (r.sa.imp fun {a b} q=>by rw [rowPlus_key,rowPlus_key]; exact q),sorted_putG r.sg hn,⟨fun c hc=>?_,fun g' hg'=>?_,?_,?_,?_,?_,fun c hc j=>?_⟩⟩
 ·obtain ⟨d,hd,rfl⟩:=List.mem_map.mp hc
  have o:=r.good.acc d hd
  unfold rowPlus
  split
  ·refine ⟨o.k1,o.k2,o.h4,o.l4,?_,o.lim⟩
   show (d.row++[g.key]).Nodup
   rw [List.nodup_append]
   refine ⟨o.nd,by simp,fun a ha b hb e=>?_⟩
   rw [List.mem_singleton] at hb
   subst hb
   subst e
   exact notin d hd ha
  ·exact o
 ·rcases (hm g').mp hg' with rfl | hg'
  ·exact ⟨k1,k2,l8,fun x hx=>lift x (hl x hx)⟩
  ·have o:=r.good.grp g' hg'
   exact ⟨o.k1,o.k2,o.l8,fun x hx=>lift x (o.legs x hx)⟩
 ·have e:(s.accounts.map (rowPlus g)).map (·.key)=s.accounts.map (·.key):=by
   rw [List.map_map]
   exact List.map_congr_left fun x _=>rowPlus_key g x
  show ((s.accounts.map (rowPlus g)).map (·.key)).Nodup
  rw [e]
  exact r.good.an
 ·show ((putGroup g s.groups).map (·.key)).Nodup
  rw [(pp.map (·.key)).nodup_iff,List.map_cons,List.nodup_cons]
  refine ⟨fun h=>?_,r.good.gn⟩
  obtain ⟨a,ha,e⟩:=List.mem_map.mp h
  exact hn a ha e
 ·show (s.accounts.map _).length≤8
  rw [List.length_map]
  exact r.good.a8
 ·show (putGroup g s.groups).length≤24
  rw [pp.length_eq,List.length_cons]
  omega
 ·obtain ⟨d,hd,rfl⟩:=List.mem_map.mp hc
  have q:=r.good.row d hd j
  have q':(∃ g',g'∈putGroup g s.groups∧g'.key=j∧touches g' d.key=true)↔(g.key=j∧touches g d.key=true)∨j∈d.row:=by
   rw [q]
   constructor
   ·rintro ⟨g',hg',e⟩
    rcases (hm g').mp hg' with rfl | hg'
    ·exact .inl e
    ·exact .inr ⟨g',hg',e⟩
   ·rintro (e | ⟨g',hg',e⟩)
    ·exact ⟨g,(hm g).mpr (.inl rfl),e⟩
    ·exact ⟨g',(hm g').mpr (.inr hg'),e⟩
  rw [rowPlus_key]
  show j∈(rowPlus g d).row↔∃ g',g'∈putGroup g s.groups∧g'.key=j∧touches g' d.key=true
  rw [q']
  unfold rowPlus
  split
  ·rename_i t
   show j∈d.row++[g.key]↔_
   rw [List.mem_append,List.mem_singleton]
   constructor
   ·rintro (h | rfl)
    ·exact .inr h
    ·exact .inl ⟨rfl,t⟩
   ·rintro (h | h)
    ·exact .inr h.1.symm
    ·exact .inl h
  ·rename_i t
   constructor
   ·exact .inr
   ·rintro (h | h)
    ·exact absurd h.2 t
    ·exact h
theorem R.without {m s:State} (r:R m s) (X:List Nat) (f:Account→List Int) (hf:∀ a,a∈s.accounts→(f a).length=4∧∀ q,q∈goods → -(limitOf a q:Int)≤(f a).getD (q - 1) 0) :
  R ⟨m.accounts.map fun a=>{ a with has:=f a,row:=a.row.filter fun k=>!X.contains k },m.groups.filter fun g=>!X.contains g.key⟩
   ⟨s.accounts.map fun a=>{ a with has:=f a,row:=a.row.filter fun k=>!X.contains k },s.groups.filter fun g=>!X.contains g.key⟩:=by
 have hex:∀ k,(∃ c,c∈s.accounts.map (fun a=>{ a with has:=f a,row:=a.row.filter fun k=>!X.contains k })∧c.key=k)↔∃ c,c∈s.accounts∧c.key=k:=fun k=>by
  constructor
  ·rintro ⟨c,hc,e⟩
   obtain ⟨d,hd,rfl⟩:=List.mem_map.mp hc
   exact ⟨d,hd,e⟩
  ·rintro ⟨c,hc,e⟩
   exact ⟨_,List.mem_map.mpr ⟨c,hc,rfl⟩,e⟩
 refine ⟨r.pa.map _,r.pg.filter _,List.pairwise_map.mpr r.sa,r.sg.sublist List.filter_sublist,⟨fun c hc=>?_,fun g hg=>?_,?_,r.good.gn.sublist (List.filter_sublist.map _),?_,?_,fun c hc j=>?_⟩⟩
 ·obtain ⟨d,hd,rfl⟩:=List.mem_map.mp hc
  have o:=r.good.acc d hd
  exact ⟨o.k1,o.k2,(hf d hd).1,o.l4,o.nd.sublist List.filter_sublist,(hf d hd).2⟩
 ·have o:=r.good.grp g (List.mem_filter.mp hg).1
  exact ⟨o.k1,o.k2,o.l8,fun x hx=>⟨(hex _).mpr (o.legs x hx).fr,(hex _).mpr (o.legs x hx).to,(o.legs x hx).q1,(o.legs x hx).q4⟩⟩
 ·dsimp only
  rw [List.map_map]
  exact r.good.an
 ·show (s.accounts.map _).length≤8
  rw [List.length_map]
  exact r.good.a8
 ·exact Nat.le_trans (List.length_filter_le _ _) r.good.g24
 ·obtain ⟨d,hd,rfl⟩:=List.mem_map.mp hc
  have q:=r.good.row d hd j
  show j∈(d.row.filter fun k=>!X.contains k)↔∃ g,g∈s.groups.filter (fun g=>!X.contains g.key)∧g.key=j∧touches g d.key=true
  rw [List.mem_filter,q]
  constructor
  ·rintro ⟨⟨g,hg,rfl,t⟩,h⟩
   exact ⟨g,List.mem_filter.mpr ⟨hg,h⟩,rfl,t⟩
  ·rintro ⟨g,hg,rfl,t⟩
   exact ⟨⟨g,(List.mem_filter.mp hg).1,rfl,t⟩,(List.mem_filter.mp hg).2⟩
theorem would4 (s:State) (X:List Nat) (a:Account) {q:Nat} (hq:q∈goods):(goods.map (wouldHave s X a)).getD (q - 1) 0=wouldHave s X a q:=by
 have:q=1∨q=2∨q=3∨q=4:=by
  have:=mem_goods.mp hq
  omega
 rcases this with rfl | rfl | rfl | rfl <;> rfl
theorem would_perm {m s:State} (h:m.groups.Perm s.groups) (X:List Nat) (a:Account) (q:Nat):wouldHave m X a q=wouldHave s X a q:=by
 unfold wouldHave
 rw [total_perm ((h.filter _).map _)]
theorem R.gone {m s:State} (r:R m s) {X:List Nat} (h:∀ a,a∈s.accounts→shortOf s X a=none):R (gone m X) (gone s X):=by
 have e:(fun a=>wouldHave m X a)=fun a=>wouldHave s X a:=by
  funext a q
  exact would_perm r.pg X a q
 have:=r.without X (fun a=>goods.map (wouldHave s X a)) fun a ha=>⟨rfl,fun q hq=>by
  rw [would4 s X a hq]
  exact short_none_iff.mp (h a ha) q hq⟩
 unfold Vbchak.gone
 have e':∀ a,wouldHave m X a=wouldHave s X a:=fun a=>congrFun e a
 simp only [e']
 exact this
def heldTo (k:Nat) (b:Bool) (x:Group):Group:=if x.key=k then { x with held:=b } else x
theorem heldTo_key (k:Nat) (b:Bool) (x:Group):(heldTo k b x).key=x.key:=by
 unfold heldTo
 split <;> rfl
theorem heldTo_legs (k:Nat) (b:Bool) (x:Group):(heldTo k b x).legs=x.legs:=by
 unfold heldTo
 split <;> rfl
theorem R.hold {m s:State} (r:R m s) (k:Nat) (b:Bool):R { m with groups:=m.groups.map (heldTo k b) } { s with groups:=s.groups.map (heldTo k b) }:=by
 refine ⟨r.pa,r.pg.map _,r.sa,List.pairwise_map.mpr (r.sg.imp fun {a c} q=>by rw [heldTo_key,heldTo_key]; exact q),⟨r.good.acc,fun g hg=>?_,r.good.an,?_,r.good.a8,?_,fun a ha j=>?_⟩⟩
 ·obtain ⟨d,hd,rfl⟩:=List.mem_map.mp hg
  have o:=r.good.grp d hd
  exact ⟨by rw [heldTo_key]; exact o.k1,by rw [heldTo_key]; exact o.k2,by rw [heldTo_legs]; exact o.l8,fun x hx=>by
   rw [heldTo_legs] at hx
   exact ⟨(o.legs x hx).fr,(o.legs x hx).to,(o.legs x hx).q1,(o.legs x hx).q4⟩⟩
 ·show ((s.groups.map (heldTo k b)).map (·.key)).Nodup
  have e:(s.groups.map (heldTo k b)).map (·.key)=s.groups.map (·.key):=by
   rw [List.map_map]
   exact List.map_congr_left fun x _=>heldTo_key k b x
  rw [e]
  exact r.good.gn
 ·show (s.groups.map _).length≤24
  rw [List.length_map]
  exact r.good.g24
 ·rw [r.good.row a ha j]
  constructor
  ·rintro ⟨g,hg,e,t⟩
   exact ⟨_,List.mem_map.mpr ⟨g,hg,rfl⟩,by rw [heldTo_key]; exact e,by unfold touches; rw [heldTo_legs]; exact t⟩
  ·rintro ⟨g',hg',e,t⟩
   obtain ⟨g,hg,rfl⟩:=List.mem_map.mp hg'
   rw [heldTo_key] at e
   unfold touches at t
   rw [heldTo_legs] at t
   exact ⟨g,hg,e,t⟩
theorem putAt_eq (k:Nat):∀ (n:Nat) (l:List Nat),putAt k n l=l.take n++[k]++l.drop n
 | 0,l=>rfl
 | n + 1,[]=>rfl
 | n + 1,x::l=>by
  unfold putAt
  rw [putAt_eq k n l]
  rfl
theorem putAt_perm (k n:Nat) (l:List Nat):(putAt k n l).Perm (k::l):=by
 rw [putAt_eq,List.append_assoc]
 refine (List.perm_middle (a:=k)).trans ?_
 show (k::(l.take n++l.drop n)).Perm (k::l)
 rw [List.take_append_drop]
theorem place_row {row:List Nat} (nd:row.Nodup) {k:Nat} (hk:k∈row) (n:Nat):(putAt k n (row.filter fun j=>j != k)).Nodup∧∀ j,j∈putAt k n (row.filter fun j=>j != k)↔j∈row:=by
 have p:=putAt_perm k n (row.filter fun j=>j != k)
 refine ⟨p.nodup_iff.mpr (List.nodup_cons.mpr ⟨fun h=>?_,nd.sublist List.filter_sublist⟩),fun j=>?_⟩
 ·have:=(List.mem_filter.mp h).2
  simp at this
 ·rw [p.mem_iff,List.mem_cons,List.mem_filter]
  constructor
  ·rintro (rfl | h)
   ·exact hk
   ·exact h.1
  ·intro h
   by_cases e:j=k
   ·exact .inl e
   ·exact .inr ⟨h,by simpa using e⟩
end Vb
set_option Elab.async false
set_option linter.all false
set_option maxRecDepth 100000
namespace L2
open PySem PySem.Spec PyProof.Rows
abbrev Key:=Sum Int Str
def keyIs:Key→Value→Bool
 | .inl k,v=>Value.isInt k v
 | .inr x,v=>Value.isStrOf x v
def keyH (w:World):Key→Int
 | .inl k=>hashInt k
 | .inr x=>hashStr w x
theorem keyIs_shape:∀ {k:Key} {v:Value},keyIs k v=true→(∃ i t,k=Sum.inl i∧v=Value.int i t)∨(∃ x t,k=Sum.inr x∧v=Value.str x t)
 | .inl i,v,h=>by
  obtain ⟨t,e⟩:=Value.isInt_shape (k:=i) (v:=v) h
  exact .inl ⟨i,t,rfl,e⟩
 | .inr x,v,h=>by
  obtain ⟨t,e⟩:=Value.isStrOf_shape (x:=x) (v:=v) h
  exact .inr ⟨x,t,rfl,e⟩
theorem keyIs_int (i:Int) (t:Tok):keyIs (.inl i) (.int i t)=true:=by simp [keyIs,Value.isInt]
theorem keyIs_str (x:Str) (t:Tok):keyIs (.inr x) (.str x t)=true:=by simp [keyIs,Value.isStrOf]
theorem key_ll (a b:Int):decide ((Sum.inl a:Key)=Sum.inl b)=(a == b):=by
 by_cases e:a=b
 ·subst e; simp
 ·have h:¬ (Sum.inl a:Key)=Sum.inl b:=fun q=>e (Sum.inl.inj q)
  rw [decide_eq_false h]
  exact (beq_eq_false_iff_ne.mpr e).symm
theorem key_rr (a b:Str):decide ((Sum.inr a:Key)=Sum.inr b)=decide (a=b):=by
 by_cases e:a=b
 ·subst e; simp
 ·have h:¬ (Sum.inr a:Key)=Sum.inr b:=fun q=>e (Sum.inr.inj q)
  rw [decide_eq_false h,decide_eq_false e]
theorem key_lr (a:Int) (b:Str):decide ((Sum.inl a:Key)=Sum.inr b)=false:=decide_eq_false (fun q=>nomatch q)
theorem key_rl (a:Str) (b:Int):decide ((Sum.inr a:Key)=Sum.inl b)=false:=decide_eq_false (fun q=>nomatch q)
def mixKind (prog:Program) (w:World):PySem.KeyKind prog w Key where
 is:=keyIs
 hash:=keyH w
 inj:=fun v a b ha hb=>by
  rcases keyIs_shape ha with ⟨i,t,rfl,rfl⟩ | ⟨x,t,rfl,rfl⟩
  ·rcases keyIs_shape hb with ⟨j,u,rfl,e⟩ | ⟨y,u,rfl,e⟩
   ·injection e with e1 _; rw [e1]
   ·exact nomatch e
  ·rcases keyIs_shape hb with ⟨j,u,rfl,e⟩ | ⟨y,u,rfl,e⟩
   ·exact nomatch e
   ·injection e with e1 _; rw [e1]
 byValue:=fun k v h=>by
  rcases keyIs_shape h with ⟨i,t,rfl,rfl⟩ | ⟨x,t,rfl,rfl⟩ <;> rfl
 pyHash:=fun hv h=>by
  rcases keyIs_shape hv with ⟨i,t,rfl,rfl⟩ | ⟨x,t,rfl,rfl⟩
  ·exact wpAny_pyHash_int h
  ·exact wpAny_pyHash_str h
 eqBool:=fun hu hv h=>by
  rcases keyIs_shape hu with ⟨i,t,rfl,rfl⟩ | ⟨x,t,rfl,rfl⟩
  ·rcases keyIs_shape hv with ⟨j,u,rfl,rfl⟩ | ⟨y,u,rfl,rfl⟩
   ·rw [key_ll] at h; exact wpAny_eqBool_int h
   ·rw [key_lr] at h; exact SeqAt.EqAt.int_str i t y u _ _ _ _ h
  ·rcases keyIs_shape hv with ⟨j,u,rfl,rfl⟩ | ⟨y,u,rfl,rfl⟩
   ·rw [key_rl] at h; exact SeqAt.EqAt.str_int x t j u _ _ _ _ h
   ·rw [key_rr] at h; exact wpAny_eqBool_str h
 «strs» := fun k x t v h=>by
  rcases keyIs_shape h with ⟨i,u,rfl,e⟩ | ⟨y,u,rfl,e⟩
  ·exact nomatch e
  ·injection e with e1 _
   subst e1
   cases v <;> rfl
theorem mixKind_int (prog:Program) (w:World) (i:Int) (t:Tok):(mixKind prog w).is (.inl i) (.int i t)=true:=keyIs_int i t
theorem mixKind_str (prog:Program) (w:World) (x:Str) (t:Tok):(mixKind prog w).is (.inr x) (.str x t)=true:=keyIs_str x t
end L2
namespace L2
open PySem PySem.Spec PyProof.Rows
inductive V where
 | non | bl (b:Bool) | int (i:Int) | str (x:Str) | byt (b:Array UInt8) | flt (b:UInt64) | ref (a:Addr) | ty (n:String)
 deriving DecidableEq
def RelV:V→Value→Prop
 | .non,u=>u=Value.none
 | .bl b,u=>u=Value.bool b
 | .int i,u=>∃ t,u=Value.int i t
 | .str x,u=>∃ t,u=Value.str x t
 | .byt b,u=>∃ t,u=Value.bytes b t
 | .flt b,u=>∃ t,u=Value.float b t
 | .ref a,u=>u=Value.ref a
 | .ty n,u=>u=Value.type n
abbrev Vals:List V→List Value→Prop:=Paired RelV
theorem Vals.length {xs:List V} {us:List Value} (r:Vals xs us):xs.length=us.length:=Paired.length r
theorem Vals.get:∀ {xs:List V} {us:List Value} {i:Nat} {x:V},Vals xs us→xs[i]?=some x→∃ u,us[i]?=some u∧RelV x u
 | _,_,_,_,.nil,e=>by simp at e
 | _,_,0,_,.cons r _,e=>by simp at e; subst e; exact ⟨_,rfl,r⟩
 | _,_,i + 1,x,.cons _ t,e=>by
  obtain ⟨u,h1,h2⟩:=Vals.get (i:=i) (x:=x) t (by simpa using e)
  exact ⟨u,by simpa using h1,h2⟩
theorem Vals.append:∀ {xs ys:List V} {us ws:List Value},Vals xs us→Vals ys ws→Vals (xs++ys) (us++ws)
 | _,_,_,_,.nil,s=>s
 | _,_,_,_,.cons r t,s=>.cons r (Vals.append t s)
theorem Vals.take:∀ {xs:List V} {us:List Value} (n:Nat),Vals xs us→Vals (xs.take n) (us.take n)
 | _,_,0,_=>.nil
 | _,_,_ + 1,.nil=>.nil
 | _,_,n + 1,.cons r t=>.cons r (Vals.take n t)
theorem Vals.drop:∀ {xs:List V} {us:List Value} (n:Nat),Vals xs us→Vals (xs.drop n) (us.drop n)
 | _,_,0,r=>r
 | _,_,_ + 1,.nil=>.nil
 | _,_,n + 1,.cons _ t=>Vals.drop n t
def RelO:Option V→Option Value→Prop
 | some v,some u=>RelV v u
 | none,none=>True
 | _,_=>False
def KV {κ:Type}:List (κ×V)→List (κ×Value)→Prop:=Paired fun (p:κ×V) (q:κ×Value)=>p.1=q.1∧RelV p.2 q.2
def kV:Key→V
 | .inl i=>.int i
 | .inr x=>.str x
inductive HO where
 | lst (xs:List V)
 | tup (xs:List V)
 | dK (kvs:List (Key×V)) | dT (kvs:List (List Key×V))
 | set (S:Int→Bool) (n:Nat)
 | ins (C dx:Addr) (fs:List (Str×V))
 | own (x:Addr)
 | xd (fs:List (Str×V))
 | met (f x:Addr)
 | rng (lo hi:Int)
 | frz (o:Obj) (u:HO)
 | tbl (ps:Array Value)
 | ext (φ:Heap→Prop)
abbrev Hp:=Addr→Option HO
def upd (H:Hp) (a:Addr) (o:HO):Hp:=fun b=>if b=a then some o else H b
theorem upd_same {H:Hp} {a:Addr} {o:HO}:upd H a o a=some o:=by unfold upd; rw [if_pos rfl]
theorem upd_ne {H:Hp} {a b:Addr} {o:HO} (h:b≠a):upd H a o b=H b:=by unfold upd; rw [if_neg h]
theorem upd_upd {H:Hp} {a:Addr} {o u:HO}:upd (upd H a o) a u=upd H a u:=by
 funext b; unfold upd; split <;> rfl
theorem ne_of {H:Hp} {a b:Addr} {o u:HO} (h:H a=some o) (h':H b=some u) (d:o≠u):a≠b:=by
 intro e; subst e; rw [h] at h'; exact d (Option.some.inj h')
theorem ne_of_none {H:Hp} {a b:Addr} {o:HO} (h:H a=some o) (h':H b=none):a≠b:=by
 intro e; subst e; rw [h] at h'; cases h'
section
variable (P:Program) (w:World)
def ObjOk (H:Hp) (h:Heap) (a:Addr):HO→Prop
 | .lst xs=>xs.length≤sizeLine∧∃ (its:List Value) (n:Nat),Vals xs its∧h.get? a=some { cls:=.type "list",data:=.seq its.toArray n }
 | .tup xs=>xs.length≤sizeLine∧∃ its:List Value,Vals xs its∧IsTup h a its.toArray
 | .dK kvs=>kvs.length≤sizeLine∧(a == sysModules)=false∧∃ vs,KV kvs vs∧h.DictOf (mixKind P w) a vs
 | .dT kvs=>kvs.length≤sizeLine∧(a == sysModules)=false∧∃ xs:List (List Key×Addr×Value),
   Paired (fun (p:List Key×V) (q:List Key×Addr×Value)=>p.1=q.1∧H q.2.1=some (.tup (p.1.map kV))∧RelV p.2 q.2.2) kvs xs ∧
   ∃ o es ep,h.get? a=some o∧o.ExactDict∧o.data=.dict es ep∧es.toList=xs.map (entryOfKey (tupleKind (mixKind P w)))∧(xs.map (·.1)).Nodup
 | .set S n=>h.SetOf (intKind P w) a S n
 | .ins C dx fs=>H dx=some (.own a)∧fs.length≤1000∧dx≠a∧h.get? a=some (PySem.W.instObj C dx) ∧
   ∃ mA,h.Ns1 dx mA∧(∀ f,RelO (fs.lookup f) (mA f))∧PySem.Within mA (fs.map (·.1))
 | .own _=>∃ o,h.get? a=some o
 | .xd fs=>∃ mA,h.Ns1 a mA∧∀ f,RelO (fs.lookup f) (mA f)
 | .rng lo hi=>∃ t u v,h.get? a=some { cls:=.type "range",data:=.fields #[.int lo t,.int hi u,.int 1 v] }
 | .frz o u=>h.get? a=some o∧ObjOk H h a u
 | .tbl ps=>h.get? a=some { cls:=.none,data:=.fields ps }
 | .met f x=>h.get? a=some (PySem.W.methodObj (.ref f) (.ref x))
 | .ext φ=>φ h∧(∃ o,h.get? a=some o)∧∀ h1 h2:Heap,φ h1→(∀ o,h1.get? a=some o→h2.get? a=some o)→φ h2
def HOk (H:Hp) (h:Heap):Prop:=∀ a o,H a=some o→ObjOk P w H h a o
end
section
variable {P:Program} {w:World} {H H':Hp} {h h':Heap} {a:Addr} {o:HO}
theorem ObjOk.lt (x:ObjOk P w H h a o):a < h.objs.size:=by
 cases o with
 | lst xs=>obtain ⟨_,_,_,_,e⟩:=x; exact Heap.lt_size e
 | tup xs=>obtain ⟨_,_,_,p⟩:=x; exact p.lt
 | dK kvs=>obtain ⟨_,_,_,_,o,_,_,e,_⟩:=x; exact Heap.lt_size e
 | dT kvs=>obtain ⟨_,_,_,_,o,_,_,e,_⟩:=x; exact Heap.lt_size e
 | set S n=>obtain ⟨o,_,_,_,e,_⟩:=x; exact Heap.lt_size e
 | ins C dx fs=>obtain ⟨_,_,_,e,_⟩:=x; exact Heap.lt_size e
 | own y=>obtain ⟨_,e⟩:=x; exact Heap.lt_size e
 | xd fs=>obtain ⟨_,⟨_,_,_,e,_⟩,_⟩:=x; exact Heap.lt_size e
 | rng lo hi=>obtain ⟨_,_,_,e⟩:=x; exact Heap.lt_size e
 | frz ob u=>obtain ⟨e,_⟩:=x; exact Heap.lt_size e
 | tbl ps=>exact Heap.lt_size (show h.get? a=some _ from x)
 | met f y=>exact Heap.lt_size (show h.get? a=some _ from x)
 | ext φ=>obtain ⟨_,⟨_,e⟩,_⟩:=x; exact Heap.lt_size e
theorem Paired.mapP {α β:Type} {F G:α→β→Prop}:∀ {l₁:List α} {l₂:List β},Paired F l₁ l₂→(∀ a b,F a b→G a b)→Paired G l₁ l₂
 | _,_,.nil,_=>.nil
 | _,_,.cons r t,f=>.cons (f _ _ r) (Paired.mapP t f)
theorem ObjOk.stay (x:ObjOk P w H h a o) (k:∀ b u,(b=a∨H b=some (.own a))→h.get? b=some u→h'.get? b=some u)
  (ho:∀ b,H b=some (.own a)→H' b=some (.own a)) (ht:∀ b xs,H b=some (.tup xs)→H' b=some (.tup xs)):ObjOk P w H' h' a o:=by
 induction o with
 | lst xs=>obtain ⟨z,its,n,r,e⟩:=x; exact ⟨z,its,n,r,k _ _ (.inl rfl) e⟩
 | tup xs=>obtain ⟨z,its,r,ob,e,c⟩:=x; exact ⟨z,its,r,ob,k _ _ (.inl rfl) e,c⟩
 | dK kvs=>obtain ⟨z,y,vs,r,ob,es,ep,e,c⟩:=x; exact ⟨z,y,vs,r,ob,es,ep,k _ _ (.inl rfl) e,c⟩
 | dT kvs =>
  obtain ⟨z,y,xs,r,ob,es,ep,e,c⟩:=x
  exact ⟨z,y,xs,Paired.mapP r fun p q z=>⟨z.1,ht _ _ z.2.1,z.2.2⟩,ob,es,ep,k _ _ (.inl rfl) e,c⟩
 | set S n=>obtain ⟨ob,es,ep,t,e,c⟩:=x; exact ⟨ob,es,ep,t,k _ _ (.inl rfl) e,c⟩
 | ins C dx fs =>
  obtain ⟨d,z,ne,e,mA,⟨od,es,ep,e2,c⟩,r⟩:=x
  exact ⟨ho _ d,z,ne,k _ _ (.inl rfl) e,mA,⟨od,es,ep,k _ _ (.inr d) e2,c⟩,r⟩
 | own y=>obtain ⟨ob,e⟩:=x; exact ⟨ob,k _ _ (.inl rfl) e⟩
 | xd fs=>obtain ⟨mA,⟨od,es,ep,e,c⟩,r⟩:=x; exact ⟨mA,⟨od,es,ep,k _ _ (.inl rfl) e,c⟩,r⟩
 | rng lo hi=>obtain ⟨t,u,v,e⟩:=x; exact ⟨t,u,v,k _ _ (.inl rfl) e⟩
 | frz ob u ih=>obtain ⟨e,q⟩:=x; exact ⟨k _ _ (.inl rfl) e,ih q⟩
 | tbl ps =>
  have e:h.get? a=some { cls:=.none,data:=.fields ps }:=x
  show h'.get? a=some { cls:=.none,data:=.fields ps }
  exact k a _ (.inl rfl) e
 | met f y =>
  have e:h.get? a=some (PySem.W.methodObj (.ref f) (.ref y)):=x
  show h'.get? a=some (PySem.W.methodObj (.ref f) (.ref y))
  exact k a _ (.inl rfl) e
 | ext φ=>obtain ⟨p,⟨o,e⟩,st⟩:=x; exact ⟨st _ _ p fun o q=>k _ _ (.inl rfl) q,⟨o,k _ _ (.inl rfl) e⟩,st⟩
theorem HOk.lt (x:HOk P w H h) (e:H a=some o):a < h.objs.size:=(x a o e).lt
theorem HOk.fresh (x:HOk P w H h) (e:h.objs.size≤a):H a=none:=by
 cases q:H a with
 | none=>rfl
 | some u=>exact absurd (Nat.lt_of_lt_of_le (x.lt q) e) (Nat.lt_irrefl _)
theorem HOk.kept (x:HOk P w H h) (k:∀ b u,h.get? b=some u→h'.get? b=some u):HOk P w H h':=fun a o e =>
 (x a o e).stay (fun b u _ q=>k b u q) (fun _ q=>q) fun _ _ q=>q
theorem HOk.laid (x:HOk P w H h) (k:∀ b u,h.get? b=some u→h'.get? b=some u) (hp:h.objs.size≤a) (new:ObjOk P w (upd H a o) h' a o):HOk P w (upd H a o) h':=fun b u e=>by
 have hn:=x.fresh hp
 by_cases hb:b=a
 ·subst hb; rw [upd_same] at e; cases e; exact new
 ·rw [upd_ne hb] at e
  exact (x b u e).stay (fun c v _ q=>k c v q) (fun c q=>by rw [upd_ne (ne_of_none q hn)]; exact q) fun c xs q=>by rw [upd_ne (ne_of_none q hn)]; exact q
end
def Rd (H:Hp) (a:Addr) (u:HO):Prop:=H a=some u∨∃ o,H a=some (.frz o u)
theorem Rd.ok {P:Program} {w:World} {H:Hp} {h:Heap} {a:Addr} {u:HO} (r:Rd H a u) (x:HOk P w H h):ObjOk P w H h a u:=by
 rcases r with r | ⟨o,r⟩
 ·exact x a u r
 ·obtain ⟨_,q⟩:=x a _ r
  exact q
def Mut:Option HO→Prop
 | some (.lst _)=>True
 | some (.dK _)=>True
 | some (.dT _)=>True
 | some (.set _ _)=>True
 | some (.ins _ _ _)=>True
 | some (.ext _)=>True
 | _=>False
section
variable {P:Program} {w:World} {H:Hp} {h h':Heap} {x e:Addr} {o':HO}
theorem HOk.write (ok:HOk P w H h) (mu:Mut (H x)) (he:e=x∨H e=some (.own x)) (k:∀ b u,b≠e→h.get? b=some u→h'.get? b=some u) (heo:∃ u,h'.get? e=some u)
  (new:ObjOk P w (upd H x o') h' x o'):HOk P w (upd H x o') h':=fun b u q=>by
 have nown:∀ c y,H c=some (.own y)→c≠x:=fun c y r z=>by subst z; rw [r] at mu; exact mu
 have ntup:∀ c xs,H c=some (.tup xs)→c≠x:=fun c xs r z=>by subst z; rw [r] at mu; exact mu
 by_cases hb:b=x
 ·subst hb; rw [upd_same] at q; cases q; exact new
 ·rw [upd_ne hb] at q
  by_cases hbe:b=e
  ·have q':H b=some (.own x):=by
    rcases he with z | z
    ·exact absurd (hbe.trans z) hb
    ·rw [hbe]; exact z
   rw [q] at q'; cases q'
   obtain ⟨v,hv⟩:=heo
   exact ⟨v,by rw [hbe]; exact hv⟩
  ·refine (ok b u q).stay (fun c v hc r=>k c v ?_ r) (fun c r=>by rw [upd_ne (nown c b r)]; exact r) fun c xs r=>by rw [upd_ne (ntup c xs r)]; exact r
   rcases hc with rfl | hc
   ·exact hbe
   ·rintro rfl
    rcases he with z | z
    ·exact nown c b hc z
    ·rw [hc] at z; cases z; exact hb rfl
end
structure Un (fs ex:List Addr) (H H':Hp) (h h':Heap):Prop where
 keep:∀ b o,h.get? b=some o→H b=none→b ∉ fs→b ∉ ex→h'.get? b=some o
 slot:∀ b o,h.get? b=some o→H b=none→b∈fs→b ∉ ex→∃ sl,h'.get? b=some { o with slots:=sl }
 free:∀ b o,h.get? b=some o→H b=none→b ∉ ex→H' b=none
 there:∀ b o,h.get? b=some o→b ∉ ex→∃ o',h'.get? b=some o'
 tups:∀ b xs,H b=some (.tup xs)→H' b=some (.tup xs)
 frzs:∀ b o u,H b=some (.frz o u)→H' b=some (.frz o u)
 tbls:∀ b ps,H b=some (.tbl ps)→∃ more,H' b=some (.tbl (ps++more))
section
variable {fs fs' ex ex':List Addr} {H H1 H2:Hp} {h h1 h2 h':Heap} {a x e:Addr} {o:HO}
theorem Un.any (u:Un fs ex H H1 h h1) {b:Addr} {ob:Obj} (q:h.get? b=some ob) (n:H b=none) (hx:b ∉ ex):∃ sl,h1.get? b=some { ob with slots:=sl }:=by
 by_cases hb:b∈fs
 ·exact u.slot b ob q n hb hx
 ·exact ⟨ob.slots,u.keep b ob q n hb hx⟩
theorem Un.kept (k:∀ b u,h.get? b=some u→h'.get? b=some u):Un fs ex H H h h' :=
 ⟨fun b ob q _ _ _=>k b ob q,fun b ob q _ _ _=>⟨ob.slots,k b ob q⟩,fun _ _ _ n _=>n,fun b ob q _=>⟨ob,k b ob q⟩,fun _ _ q=>q,fun _ _ _ q=>q,fun _ ps q=>⟨#[],by rw [q]; simp⟩⟩
theorem Un.refl:Un fs ex H H h h:=Un.kept fun _ _ q=>q
theorem Un.laid (k:∀ b u,h.get? b=some u→h'.get? b=some u) (hp:h.objs.size≤a) (hn:H a=none):Un fs ex H (upd H a o) h h' where
 keep:=fun b u q _ _ _=>k b u q
 slot:=fun b u q _ _ _=>⟨u.slots,k b u q⟩
 free:=fun b u q n _=>by rw [upd_ne (Nat.ne_of_lt (Nat.lt_of_lt_of_le (Heap.lt_size q) hp))]; exact n
 there:=fun b u q _=>⟨u,k b u q⟩
 tups:=fun b xs q=>by rw [upd_ne (ne_of_none q hn)]; exact q
 frzs:=fun b u xs q=>by rw [upd_ne (ne_of_none q hn)]; exact q
 tbls:=fun b ps q=>⟨#[],by rw [upd_ne (ne_of_none q hn),q]; simp⟩
theorem Un.write (mu:Mut (H x)) (he:e=x∨H e=some (.own x)) (k:∀ b u,b≠e→h.get? b=some u→h'.get? b=some u) (heo:∃ u,h'.get? e=some u):Un fs ex H (upd H x o) h h':=by
 have hx:∀ b,H b=none→b≠x:=fun b n z=>by subst z; rw [n] at mu; exact mu
 have hb:∀ b,H b=none→b≠e:=fun b n z=>by
  subst z
  rcases he with r | r
  ·exact hx b n r
  ·rw [n] at r; cases r
 have hm:∀ b u,H b=some u→¬ Mut (some u)→b≠x:=fun b u q nm z=>by subst z; rw [q] at mu; exact nm mu
 refine ⟨fun b u q n _ _=>k b u (hb b n) q,fun b u q n _ _=>⟨u.slots,k b u (hb b n) q⟩,fun b u q n _=>by rw [upd_ne (hx b n)]; exact n,fun b u q _=>?_,
  fun b xs q=>by rw [upd_ne (hm b _ q fun z=>z)]; exact q,fun b u xs q=>by rw [upd_ne (hm b _ q fun z=>z)]; exact q,fun b ps q=>⟨#[],by rw [upd_ne (hm b _ q fun z=>z),q]; simp⟩⟩
 by_cases hbe:b=e
 ·subst hbe; exact heo
 ·exact ⟨u,k b u hbe q⟩
end
def trk (h:Heap) (H:Hp):List Addr:=(List.range h.objs.size).filter fun a=>(H a).isSome
def hidT (h:Heap) (H:Hp):Heap:=PySem.W.hideAll h (trk h H)
theorem hidT_size (h:Heap) (H:Hp):(hidT h H).objs.size=h.objs.size:=PySem.W.hideAll_size _ _
theorem hidT_get {h:Heap} {H:Hp} {b:Addr} {o:Obj} (e:h.get? b=some o) (n:H b=none):(hidT h H).get? b=some o :=
 PySem.W.hideAll_get _ e fun hm=>by
  have q:(H b).isSome=true:=(List.mem_filter.mp hm).2
  rw [n] at q; simp at q
theorem of_hidT {h:Heap} {H:Hp} {b:Addr} {o:Obj} (e:(hidT h H).get? b=some o):h.get? b=some o∧H b=none:=by
 have e':h.get? b=some o:=PySem.W.of_hideAll (trk h H) e
 refine ⟨e',?_⟩
 cases q:H b with
 | none=>rfl
 | some x =>
  have hm:b∈trk h H:=List.mem_filter.mpr ⟨List.mem_range.mpr (Heap.lt_size e'),by simp [q]⟩
  have z:(hidT h H).get? b=none:=PySem.W.hideAll_none (trk h H) hm
  rw [z] at e; cases e
end L2
namespace L2
open PySem PySem.Spec PyProof.Rows
structure Mod (K:PySem.W.Frag) (mg:Str→Option Value) (base:Heap):Prop where
 kin:K.In base
 glob:base.Ns mainGlobals mg
 blt:∃ mb,base.Ns builtinsNs mb∧∀ x:Str,x≠"__name__"→mb x=bootBuiltins x
 nolimit:base.NoLimit
structure Cx where
 prog:Program
 w:World
 K:PySem.W.Frag
 mg:Str→Option Value
 base:Heap
 A:Around
 N:List Str
 s_0:Shared
 H_0:Hp
 env:Env
 outer:List Env
 stack:List Env
 ex:List Addr
 fn:Str→Bool
 calm:Bool
 pn:List (Addr×Obj)
 xe:Value→Shared→Prop
def frs (l:List Env):List Addr:=l.filterMap (·.frame)
abbrev Cx.fs (X:Cx):List Addr:=frs X.outer
def Vis (sc:Scope) (x:Str):Prop:=sc.names.lookup x=some .local∨sc.names.lookup x=some .cell∨sc.names.lookup x=some .free
def Loc (sc:Scope) (x:Str):Prop:=sc.names.lookup x=some .local∨sc.names.lookup x=some .cell
def Look (env:Env) (h:Heap) (m:Str→Option Value) (x:Str) (u:Value):Prop :=
 (env.kindOf x=some .local∧m x=some u)∨((env.kindOf x=some .cell∨env.kindOf x=some .free)∧∃ c,env.cells.lookup x=some c∧h.IsCell c (some u))
structure Cx.Ok (X:Cx):Prop where
 mod:Mod X.K X.mg X.base
 kind:X.env.scope.kind=.function
 glob:X.env.globals=mainGlobals
 blt:X.env.builtins=builtinsNs
 above:X.s_0.heap.objs.size≤X.env.locals
 inj:∀ x y c,X.env.cells.lookup x=some c→X.env.cells.lookup y=some c→x=y
 has:∀ x,(X.env.kindOf x=some .cell∨X.env.kindOf x=some .free)→∃ c,X.env.cells.lookup x=some c
 cab:∀ x c,X.fn x=true→X.env.cells.lookup x=some c→X.s_0.heap.objs.size≤c
 hd:X.calm=true→X.A.handled=none
 frames:X.A.frames=some X.stack
 stk:X.stack=X.outer∨(X.stack=X.env::X.outer∧X.env.frame=some X.env.locals)
 exf:∀ b∈X.ex,b≠X.env.locals∧∀ x c,X.env.cells.lookup x=some c→c≠b
 bs:∀ b o,X.base.get? b=some o→X.s_0.heap.get? b=some o∧X.H_0 b=none
 bsz:X.base.objs.size≤X.s_0.heap.objs.size
 noex:∀ b o,X.base.get? b=some o→b ∉ X.ex
 exfs:∀ b∈X.ex,b ∉ X.fs
 funs:X.s_0.heap.FunFrames X.base X.outer
 frf:∀ b∈X.fs,X.H_0 b=none
structure Inv (X:Cx) (pins:List (Addr×Obj)) (σ:List (Option V)) (H:Hp) (s:Shared):Prop where
 ok:X.Ok
 os:s.os=X.s_0.os
 bare:AllBare s.gens
 base:Un X.fs X.ex X.H_0 H X.s_0.heap s.heap
 loc:∃ m,s.heap.Ns X.env.locals m∧∀ (i:Nat) (x:Str) (v:V),X.N[i]?=some x→σ[i]?=some (some v)→Vis X.env.scope x→∃ u,RelV v u∧Look X.env s.heap m x u
 cell:∀ x c,X.env.cells.lookup x=some c→∃ v,s.heap.IsCell c v
 free:H X.env.locals=none
 freeC:∀ x c,X.env.cells.lookup x=some c→H c=none
 pin:∀ p∈X.pn++pins,s.heap.get? p.1=some p.2∧H p.1=none∧p.1≠X.env.locals∧p.1 ∉ X.fs∧∀ v,p.2.data ≠ .cell v
 hok:HOk X.prog X.w H s.heap
 len:σ.length=X.N.length
section
variable {X:Cx} {pins:List (Addr×Obj)} {σ:List (Option V)} {H H':Hp} {s:Shared} {h':Heap}
theorem Cx.Ok.nofr (ok:X.Ok) {b:Addr} {o:Obj} (e:X.base.get? b=some o):b ∉ X.fs:=fun hb=>by
 have:=(ok.funs.mem hb).1
 rw [e] at this; cases this
theorem Inv.bs (I:Inv X pins σ H s):∀ b o,X.base.get? b=some o→s.heap.get? b=some o∧H b=none:=fun b o e =>
 ⟨I.base.keep b o (I.ok.bs b o e).1 (I.ok.bs b o e).2 (I.ok.nofr e) (I.ok.noex b o e),I.base.free b o (I.ok.bs b o e).1 (I.ok.bs b o e).2 (I.ok.noex b o e)⟩
theorem Inv.bk (I:Inv X pins σ H s):∀ b o,X.base.get? b=some o→s.heap.get? b=some o:=fun b o e=>(I.bs b o e).1
theorem Inv.mod (I:Inv X pins σ H s):Mod X.K X.mg X.base:=I.ok.mod
theorem Inv.kIn (I:Inv X pins σ H s):X.K.In s.heap:=I.ok.mod.kin.keeps I.bk
theorem Inv.lt (I:Inv X pins σ H s):X.env.locals < s.heap.objs.size:=let ⟨_,hn,_⟩:=I.loc; hn.lt
theorem Inv.sz (I:Inv X pins σ H s):X.s_0.heap.objs.size≤s.heap.objs.size:=Nat.le_trans I.ok.above (Nat.le_of_lt I.lt)
theorem Inv.nofs (I:Inv X pins σ H s) {a:Addr} (h:s.heap.objs.size≤a):a ∉ X.fs:=fun hb=>by
 obtain ⟨_,o,ho,_⟩:=I.ok.funs.mem hb
 exact absurd (Nat.lt_of_lt_of_le (Heap.lt_size ho) (Nat.le_trans I.sz h)) (Nat.lt_irrefl _)
theorem Inv.cne (I:Inv X pins σ H s):∀ x c,X.env.cells.lookup x=some c→c≠X.env.locals:=fun x c e z=>by
 obtain ⟨v,o,ho,hd⟩:=I.cell x c e
 obtain ⟨m,⟨o',es,ep,ho',hd',_⟩,_⟩:=I.loc
 rw [z,ho'] at ho; cases ho; rw [hd'] at hd; cases hd
theorem Inv.funs (I:Inv X pins σ H s):s.heap.FunFrames X.base X.outer:=by
 have all:∀ (l:List Env),(∀ b∈frs l,b∈X.fs)→X.s_0.heap.FunFrames X.base l→s.heap.FunFrames X.base l:=by
  intro l
  induction l with
  | nil=>intro _ _; trivial
  | cons env r ih =>
   intro hs hl
   obtain ⟨hk,⟨L,o,hf,hn,ho,hd⟩,hr⟩:=hl
   have hL:L∈X.fs:=hs L (by unfold frs; rw [List.filterMap_cons,hf]; exact List.mem_cons_self)
   obtain ⟨sl,e⟩:=I.base.slot L o ho (I.ok.frf L hL) hL fun z=>I.ok.exfs L z hL
   exact ⟨hk,⟨L,_,hf,hn,e,hd⟩,ih (fun b hb=>hs b (by unfold frs; rw [List.filterMap_cons,hf]; exact List.mem_cons_of_mem _ hb)) hr⟩
 exact all X.outer (fun _ hb=>hb) I.ok.funs
theorem Inv.stack (I:Inv X pins σ H s):s.heap.FunFrames X.base X.stack:=by
 rcases I.ok.stk with e | ⟨e,hf⟩
 ·rw [e]; exact I.funs
 ·rw [e]
  obtain ⟨m,hn,_⟩:=I.loc
  refine .cons (by rw [I.ok.kind]; decide) hf hn ?_ I.funs
  exact Heap.get?_none_of_le (Nat.le_trans I.ok.bsz I.ok.above)
theorem Inv.stkSub (I:Inv X pins σ H s):∀ b∈frs X.stack,b∈X.env.locals::X.fs:=fun b hb=>by
 rcases I.ok.stk with e | ⟨e,hf⟩
 ·rw [e] at hb; exact List.mem_cons_of_mem _ hb
 ·rw [e] at hb
  unfold frs at hb
  rw [List.filterMap_cons,hf] at hb
  exact hb
theorem Inv.stkFree (I:Inv X pins σ H s):∀ b∈frs X.stack,H b=none:=fun b hb=>by
 rcases List.mem_cons.mp (I.stkSub b hb) with e | hb
 ·rw [e]; exact I.free
 ·obtain ⟨_,o,ho,_⟩:=I.ok.funs.mem hb
  exact I.base.free b o ho (I.ok.frf b hb) fun z=>I.ok.exfs b z hb
theorem Inv.step {g':Array GenState} {t':Nat} {d':Drawn} {ch:List Addr} (I:Inv X pins σ H s)
  (hch:∀ b∈ch,(b∈X.ex∨X.s_0.heap.objs.size≤b)∧b≠X.env.locals∧(∀ x c,X.env.cells.lookup x=some c→c≠b)∧∀ p∈X.pn++pins,p.1≠b)
  (keep:∀ b o,b≠X.env.locals→b ∉ X.fs→b ∉ ch→s.heap.get? b=some o→H b=none→h'.get? b=some o)
  (slot:∀ b o,b≠X.env.locals→b∈X.fs→b ∉ ch→s.heap.get? b=some o→H b=none→∃ sl,h'.get? b=some { o with slots:=sl }) (free:∀ b o,b ∉ ch→s.heap.get? b=some o→H b=none→H' b=none)
  (there:∀ b o,b ∉ ch→s.heap.get? b=some o→∃ o',h'.get? b=some o')
  (tups:∀ b xs,H b=some (.tup xs)→H' b=some (.tup xs)) (frzs:∀ b o u,H b=some (.frz o u)→H' b=some (.frz o u)) (tbls:∀ b ps,H b=some (.tbl ps)→∃ more,H' b=some (.tbl (ps++more)))
  (ns:∀ m,s.heap.Ns X.env.locals m→h'.Ns X.env.locals m) (hok:HOk X.prog X.w H' h') (hg:AllBare g') :
  Inv X pins σ H' { s with heap:=h',gens:=g',drawn:=d',toks:=t' }:=by
 have neL:∀ b o,X.s_0.heap.get? b=some o→b≠X.env.locals:=fun b o e=>Nat.ne_of_lt (Nat.lt_of_lt_of_le (Heap.lt_size e) I.ok.above)
 have neC:∀ b o,X.s_0.heap.get? b=some o→b ∉ X.ex→b ∉ ch:=fun b o e hx hb=>by
  rcases (hch b hb).1 with z | z
  ·exact hx z
  ·exact absurd (Nat.lt_of_lt_of_le (Heap.lt_size e) z) (Nat.lt_irrefl _)
 have cellK:∀ x c,X.env.cells.lookup x=some c→∀ v,s.heap.IsCell c v→h'.IsCell c v:=fun x c e v ⟨o,ho,hd⟩=>by
  have nch:c ∉ ch:=fun z=>(hch c z).2.2.1 x c e rfl
  by_cases hc:c∈X.fs
  ·obtain ⟨sl,q⟩:=slot c o (I.cne x c e) hc nch ho (I.freeC x c e)
   exact ⟨_,q,hd⟩
  ·exact ⟨o,keep c o (I.cne x c e) hc nch ho (I.freeC x c e),hd⟩
 refine ⟨I.ok,I.os,hg,⟨fun b o e n hb hx=>?_,fun b o e n hb hx=>?_,fun b o e n hx=>?_,fun b o e hx=>?_,fun b xs e=>tups b xs (I.base.tups b xs e),fun b o xs e=>frzs b o xs (I.base.frzs b o xs e),fun b ps e=>?_⟩,?_,fun x c e=>?_,?_,fun x c e=>?_,fun p hp=>?_,hok,I.len⟩
 ·exact keep b o (neL b o e) hb (neC b o e hx) (I.base.keep b o e n hb hx) (I.base.free b o e n hx)
 ·obtain ⟨sl,e1⟩:=I.base.slot b o e n hb hx
  obtain ⟨sl',e2⟩:=slot b _ (neL b o e) hb (neC b o e hx) e1 (I.base.free b o e n hx)
  exact ⟨sl',e2⟩
 ·obtain ⟨o',e1⟩:=I.base.there b o e hx
  exact free b o' (neC b o e hx) e1 (I.base.free b o e n hx)
 ·obtain ⟨o',e1⟩:=I.base.there b o e hx
  exact there b o' (neC b o e hx) e1
 ·obtain ⟨m1,e1⟩:=I.base.tbls b ps e
  obtain ⟨m2,e2⟩:=tbls b _ e1
  exact ⟨m1++m2,by rw [e2,Array.append_assoc]⟩
 ·obtain ⟨m,hn,hl⟩:=I.loc
  refine ⟨m,ns m hn,fun i x v e1 e2 e3=>?_⟩
  obtain ⟨u,r,l⟩:=hl i x v e1 e2 e3
  refine ⟨u,r,?_⟩
  rcases l with l | ⟨k,c,e,z⟩
  ·exact .inl l
  ·exact .inr ⟨k,c,e,cellK x c e _ z⟩
 ·obtain ⟨v,z⟩:=I.cell x c e
  exact ⟨v,cellK x c e v z⟩
 ·obtain ⟨m,⟨o,_,_,ho,_⟩,_⟩:=I.loc
  exact free _ o (fun z=>(hch _ z).2.1 rfl) ho I.free
 ·obtain ⟨v,o,ho,hd⟩:=I.cell x c e
  exact free c o (fun z=>(hch c z).2.2.1 x c e rfl) ho (I.freeC x c e)
 ·obtain ⟨e,n,ne,nf,d⟩:=I.pin p hp
  have nch:p.1 ∉ ch:=fun z=>(hch p.1 z).2.2.2 p hp rfl
  exact ⟨keep p.1 p.2 ne nf nch e n,free p.1 p.2 nch e n,ne,nf,d⟩
theorem Inv.un {t':Nat} (I:Inv X pins σ H s) (u:Un X.fs [] H H' s.heap h') (hok:HOk X.prog X.w H' h'):Inv X pins σ H' { s with heap:=h',toks:=t' }:=by
 obtain ⟨m,⟨o,es,ep,ho,r⟩,_⟩:=id I.loc
 obtain ⟨sl,hL⟩:=u.any ho I.free (by simp)
 exact I.step (g':=s.gens) (d':=s.drawn) (ch:=[]) (fun _ z=>nomatch z) (fun b o _ hb _ e n=>u.keep b o e n hb (by simp)) (fun b o _ hb _ e n=>u.slot b o e n hb (by simp)) (fun b o _ e n=>u.free b o e n (by simp)) (fun b o _ e=>u.there b o e (by simp)) u.tups u.frzs u.tbls (fun m' hm=>by
  obtain ⟨o',es',ep',ho',r'⟩:=hm
  rw [ho] at ho'; cases ho'
  exact ⟨_,es',ep',hL,r'⟩) hok I.bare
theorem Inv.call {g':Array GenState} {t':Nat} {d':Drawn} {ch:List Addr} (I:Inv X pins σ H s) (u:Un (frs X.stack) ch H H' s.heap h') (hok:HOk X.prog X.w H' h') (hg:AllBare g')
  (hch:∀ b∈ch,(b∈X.ex∨X.s_0.heap.objs.size≤b)∧b≠X.env.locals∧(∀ x c,X.env.cells.lookup x=some c→c≠b)∧∀ p∈X.pn++pins,p.1≠b) :
  Inv X pins σ H' { s with heap:=h',gens:=g',drawn:=d',toks:=t' }:=by
 obtain ⟨m,⟨o,es,ep,ho,r⟩,_⟩:=id I.loc
 obtain ⟨sl,hL⟩:=u.any ho I.free fun z=>(hch _ z).2.1 rfl
 exact I.step (ch:=ch) hch (fun b o hL hb hc e n=>u.keep b o e n (fun z=>(List.mem_cons.mp (I.stkSub b z)).elim hL hb) hc) (fun b o _ _ hc e n=>u.any e n hc) (fun b o hc e n=>u.free b o e n hc) (fun b o hc e=>u.there b o e hc) u.tups u.frzs u.tbls (fun m' hm=>by
  obtain ⟨o',es',ep',ho',r'⟩:=hm
  rw [ho] at ho'; cases ho'
  exact ⟨_,es',ep',hL,r'⟩) hok hg
theorem Inv.turned {t':Nat} {it:Addr} (I:Inv X pins σ H s) (k:∀ b o,b≠it→s.heap.get? b=some o→h'.get? b=some o) (hn:H it=none) (hL:it≠X.env.locals)
  (h1:it∈X.ex∨X.s_0.heap.objs.size≤it) (h2:∀ x c,X.env.cells.lookup x=some c→c≠it) (h3:∀ p∈X.pn++pins,p.1≠it):Inv X pins σ H { s with heap:=h',toks:=t' }:=by
 have nit:∀ b u,H b=some u→b≠it:=fun b u e z=>by rw [z,hn] at e; cases e
 refine I.step (g':=s.gens) (d':=s.drawn) (ch:=[it]) (fun b hb=>?_) (fun b o _ _ hc e _=>k b o (fun z=>hc (by simp [z])) e) (fun b o _ _ hc e _=>⟨o.slots,k b o (fun z=>hc (by simp [z])) e⟩) (fun _ _ _ _ n=>n)
  (fun b o hc e=>⟨o,k b o (fun z=>hc (by simp [z])) e⟩) (fun _ _ e=>e) (fun _ _ _ e=>e) (fun b ps e=>⟨#[],by rw [e]; simp⟩) (fun m hm=>?_) (fun b u e=>?_) I.bare
 ·have e:b=it:=by simpa using hb
  subst e
  exact ⟨h1,hL,h2,h3⟩
 ·obtain ⟨o,es,ep,ho,r⟩:=hm
  exact ⟨o,es,ep,k _ o (Ne.symm hL) ho,r⟩
 ·refine (I.hok b u e).stay (fun c v hc q=>k c v ?_ q) (fun _ q=>q) fun _ _ q=>q
  rcases hc with z | z
  ·rw [z]; exact nit b u e
  ·exact nit c _ z
theorem Inv.tok (I:Inv X pins σ H s) (t:Nat):Inv X pins σ H { s with toks:=t }:=I.un (h':=s.heap) (t':=t) Un.refl I.hok
theorem Inv.kept {t':Nat} (I:Inv X pins σ H s) (k:∀ b u,s.heap.get? b=some u→h'.get? b=some u):Inv X pins σ H { s with heap:=h',toks:=t' }:=I.un (Un.kept k) (I.hok.kept k)
theorem Inv.laid {a:Addr} {o:HO} {t':Nat} (I:Inv X pins σ H s) (k:∀ b u,s.heap.get? b=some u→h'.get? b=some u) (hp:s.heap.objs.size≤a) (new:ObjOk X.prog X.w (upd H a o) h' a o) :
  Inv X pins σ (upd H a o) { s with heap:=h',toks:=t' }:=I.un (Un.laid k hp (I.hok.fresh hp)) (I.hok.laid k hp new)
theorem Inv.write {x e:Addr} {o:HO} {t':Nat} (I:Inv X pins σ H s) (mu:Mut (H x)) (he:e=x∨H e=some (.own x)) (k:∀ b u,b≠e→s.heap.get? b=some u→h'.get? b=some u) (heo:∃ u,h'.get? e=some u)
  (new:ObjOk X.prog X.w (upd H x o) h' x o):Inv X pins σ (upd H x o) { s with heap:=h',toks:=t' }:=I.un (Un.write mu he k heo) (I.hok.write mu he k heo new)
theorem Inv.weak {σ':List (Option V)} (I:Inv X pins σ H s) (hl:σ'.length=σ.length) (w:∀ (i:Nat) v,σ'[i]?=some (some v)→σ[i]?=some (some v)):Inv X pins σ' H s :=
 ⟨I.ok,I.os,I.bare,I.base,let ⟨m,hn,hl'⟩:=I.loc; ⟨m,hn,fun i x v e1 e2 e3=>hl' i x v e1 (w i v e2) e3⟩,I.cell,I.free,I.freeC,I.pin,I.hok,hl.trans I.len⟩
theorem Inv.pins_of {pins':List (Addr×Obj)} (I:Inv X pins σ H s) (h:∀ p∈pins',s.heap.get? p.1=some p.2∧H p.1=none∧p.1≠X.env.locals∧p.1 ∉ X.fs∧∀ v,p.2.data ≠ .cell v):Inv X pins' σ H s :=
 ⟨I.ok,I.os,I.bare,I.base,I.loc,I.cell,I.free,I.freeC,fun p hp=>(List.mem_append.mp hp).elim (fun z=>I.pin p (List.mem_append_left _ z)) (h p),I.hok,I.len⟩
theorem nodup_ix {N:List Str} (hN:N.Nodup) {i j:Nat} {x:Str} (a:N[i]?=some x) (b:N[j]?=some x):i=j:=by
 obtain ⟨h1,e1⟩:=List.getElem?_eq_some_iff.mp a
 obtain ⟨h2,e2⟩:=List.getElem?_eq_some_iff.mp b
 exact (List.getElem_inj hN).mp (e1.trans e2.symm)
theorem store_ok2 {M:Model} {A:Around} {E:Value→Shared→Prop} {i:Nat} {x:Str} {v:V} {u:Value} {Q:Unit→Shared→Prop} (I:Inv X pins σ H s) (hN:X.N.Nodup) (hi:X.N[i]?=some x) (hx:Loc X.env.scope x) (r:RelV v u)
  (h:∀ s',Inv X pins (σ.set i (some v)) H s'→(∃ a,Heap.SameBut a s.heap s'.heap∧(a=X.env.locals∨X.env.cells.lookup x=some a))→Q () s') (hf:X.fn x=true∨X.env.scope.names.lookup x=some .local:=by first | exact .inl rfl | exact .inr rfl | assumption):wpAny M A (storeName X.env x u) Q E s:=by
 obtain ⟨m,hn,hl⟩:=id I.loc
 have hcls:(X.env.scope.kind == .class || (X.env.scope.kind == .module && X.env.locals != X.env.globals))=false:=by rw [I.ok.kind]; rfl
 have hiσ:i < σ.length:=by rw [I.len]; exact (List.getElem?_eq_some_iff.mp hi).1
 have cne:=I.cne
 have tracked:∀ {a:Addr} {h':Heap},(∃ o,s.heap.get? a=some o∧H a=none)→Heap.SameBut a s.heap h'→HOk X.prog X.w H h':=fun {a h'} ha hs b ob e=>by
  obtain ⟨_,_,hfree⟩:=ha
  refine (I.hok b ob e).stay (fun c w' hc q=>(hs.2 c ?_).trans q) (fun _ q=>q) fun _ _ q=>q
  rintro rfl
  rcases hc with rfl | hc
  ·rw [hfree] at e; cases e
  ·rw [hfree] at hc; cases hc
 rcases hx with hk | hk
 ·refine wpAny_storeName_local hk hn (fun h' hn' hs=>?_) hcls
  obtain ⟨oL,_,_,hoL,_⟩:=id hn
  refine h _ ⟨I.ok,I.os,I.bare,⟨fun b o e n hb hx=>?_,fun b o e n hb hx=>?_,I.base.free,fun b o e hx=>?_,I.base.tups,I.base.frzs,I.base.tbls⟩,⟨_,hn',fun j y v' e1 e2 e3=>?_⟩,fun y c e=>?_,I.free,I.freeC,fun p hp=>?_,tracked ⟨oL,hoL,I.free⟩ hs,by simpa using I.len⟩ ⟨_,hs,.inl rfl⟩
  ·exact (hs.2 b (Nat.ne_of_lt (Nat.lt_of_lt_of_le (Heap.lt_size e) I.ok.above))).trans (I.base.keep b o e n hb hx)
  ·obtain ⟨sl,e1⟩:=I.base.slot b o e n hb hx
   exact ⟨sl,(hs.2 b (Nat.ne_of_lt (Nat.lt_of_lt_of_le (Heap.lt_size e) I.ok.above))).trans e1⟩
  ·obtain ⟨o',e1⟩:=I.base.there b o e hx
   exact ⟨o',(hs.2 b (Nat.ne_of_lt (Nat.lt_of_lt_of_le (Heap.lt_size e) I.ok.above))).trans e1⟩
  ·by_cases hj:j=i
   ·subst hj
    rw [hi] at e1; cases e1
    rw [List.getElem?_set_self hiσ] at e2
    cases e2
    exact ⟨u,r,.inl ⟨hk,by simp⟩⟩
   ·rw [List.getElem?_set_ne (Ne.symm hj)] at e2
    obtain ⟨u',r',q⟩:=hl j y v' e1 e2 e3
    refine ⟨u',r',?_⟩
    rcases q with ⟨k,e⟩ | ⟨k,c,e,z⟩
    ·refine .inl ⟨k,?_⟩
     have:y≠x:=fun e=>hj (nodup_ix hN e1 (e ▸ hi))
     simp [this,e]
    ·exact .inr ⟨k,c,e,z.sameBut hs (cne y c e)⟩
  ·obtain ⟨w',z⟩:=I.cell y c e
   exact ⟨w',z.sameBut hs (cne y c e)⟩
  ·obtain ⟨e,n,ne,nf,d⟩:=I.pin p hp
   exact ⟨(hs.2 p.1 ne).trans e,n,ne,nf,d⟩
 ·have hfn:X.fn x=true:=by
   rcases hf with z | z
   ·exact z
   ·rw [z] at hk; cases hk
  obtain ⟨c,hc⟩:=I.ok.has x (.inl hk)
  obtain ⟨w',z⟩:=I.cell x c hc
  refine wpAny_storeName_cell I.ok.kind hk hc z (fun h' hc' hs=>?_)
  obtain ⟨oc,hoc,hocd⟩:=id z
  refine h { s with heap:=h' } ⟨I.ok,I.os,I.bare,⟨fun b o e n hb hx=>?_,fun b o e n hb hx=>?_,I.base.free,fun b o e hx=>?_,I.base.tups,I.base.frzs,I.base.tbls⟩,⟨m,hn.sameBut hs (Ne.symm (cne x c hc)),fun j y v' e1 e2 e3=>?_⟩,fun y c' e=>?_,I.free,I.freeC,fun p hp=>?_,tracked ⟨oc,hoc,I.freeC x c hc⟩ hs,by simpa using I.len⟩ ⟨c,hs,.inr hc⟩
  ·exact (hs.2 b (Nat.ne_of_lt (Nat.lt_of_lt_of_le (Heap.lt_size e) (I.ok.cab x c hfn hc)))).trans (I.base.keep b o e n hb hx)
  ·obtain ⟨sl,e1⟩:=I.base.slot b o e n hb hx
   exact ⟨sl,(hs.2 b (Nat.ne_of_lt (Nat.lt_of_lt_of_le (Heap.lt_size e) (I.ok.cab x c hfn hc)))).trans e1⟩
  ·obtain ⟨o',e1⟩:=I.base.there b o e hx
   exact ⟨o',(hs.2 b (Nat.ne_of_lt (Nat.lt_of_lt_of_le (Heap.lt_size e) (I.ok.cab x c hfn hc)))).trans e1⟩
  ·by_cases hj:j=i
   ·subst hj
    rw [hi] at e1; cases e1
    rw [List.getElem?_set_self hiσ] at e2
    cases e2
    exact ⟨u,r,.inr ⟨.inl hk,c,hc,hc'⟩⟩
   ·rw [List.getElem?_set_ne (Ne.symm hj)] at e2
    obtain ⟨u',r',q⟩:=hl j y v' e1 e2 e3
    refine ⟨u',r',?_⟩
    rcases q with q | ⟨k,c',e,z'⟩
    ·exact .inl q
    ·refine .inr ⟨k,c',e,z'.sameBut hs ?_⟩
     rintro rfl
     exact hj (nodup_ix hN e1 (I.ok.inj _ _ _ e hc ▸ hi))
  ·by_cases hcc:c'=c
   ·subst hcc; exact ⟨_,hc'⟩
   ·obtain ⟨w2,z2⟩:=I.cell y c' e
    exact ⟨w2,z2.sameBut hs hcc⟩
  ·obtain ⟨e,n,ne,nf,d⟩:=I.pin p hp
   refine ⟨(hs.2 p.1 ?_).trans e,n,ne,nf,d⟩
   intro q
   rw [q,hoc] at e
   have q':oc=p.2:=Option.some.inj e
   exact d w' (by rw [← q']; exact hocd)
theorem store_ok {M:Model} {A:Around} {E:Value→Shared→Prop} {i:Nat} {x:Str} {v:V} {u:Value} {Q:Unit→Shared→Prop} (I:Inv X pins σ H s) (hN:X.N.Nodup) (hi:X.N[i]?=some x) (hx:Loc X.env.scope x) (r:RelV v u)
  (h:∀ s',Inv X pins (σ.set i (some v)) H s'→Q () s') (hf:X.fn x=true∨X.env.scope.names.lookup x=some .local:=by first | exact .inl rfl | exact .inr rfl | assumption):wpAny M A (storeName X.env x u) Q E s :=
 store_ok2 I hN hi hx r (fun s' I' _=>h s' I') hf
theorem Inv.call' {s':Shared} {ch:List Addr} (I:Inv X pins σ H s) (ho:s'.os=s.os) (u:Un (frs X.stack) ch H H' s.heap s'.heap) (hok:HOk X.prog X.w H' s'.heap) (hg:AllBare s'.gens)
  (hch:∀ b∈ch,(b∈X.ex∨X.s_0.heap.objs.size≤b)∧b≠X.env.locals∧(∀ x c,X.env.cells.lookup x=some c→c≠b)∧∀ p∈X.pn++pins,p.1≠b):Inv X pins σ H' s':=by
 obtain ⟨h',g',d',t',o'⟩:=s'
 have e:o'=s.os:=ho
 subst e
 exact I.call (g':=g') (t':=t') (d':=d') u hok hg hch
end
abbrev XK:=Value→Option Addr→Hp→Prop
abbrev St:=List (Option V)
abbrev VK:=V→Hp→Prop
abbrev TE:=St→Hp→VK→Prop
abbrev TT:=St→Hp→(Bool→Hp→Prop)→Prop
abbrev TA:=St→Hp→(List V→Hp→Prop)→Prop
structure Ends where
 nx:St→Hp→Prop
 rt:VK
 bk:St→Hp→Prop:=fun _ _=>False
 ct:St→Hp→Prop:=fun _ _=>False
abbrev TS:=Ends→St→Hp→Prop
def EP (X:Cx) (pins:List (Addr×Obj)) (σ:St) (Q:VK) (u:Value) (s':Shared):Prop:=∃ v H',Inv X pins σ H' s'∧RelV v u∧Q v H'
def TP (X:Cx) (pins:List (Addr×Obj)) (σ:St) (Q:Bool→Hp→Prop) (b:Bool) (s':Shared):Prop:=∃ H',Inv X pins σ H' s'∧Q b H'
def AP (X:Cx) (pins:List (Addr×Obj)) (σ:St) (Q:List V→Hp→Prop) (us:List Value) (s':Shared):Prop:=∃ vs H',Inv X pins σ H' s'∧Vals vs us∧Q vs H'
def SP (X:Cx) (pins:List (Addr×Obj)) (D:Ends) (f:Flow) (s':Shared):Prop :=
 match f with
 | .next=>∃ σ' H',Inv X pins σ' H' s'∧D.nx σ' H'
 | .brk=>∃ σ' H',Inv X pins σ' H' s'∧D.bk σ' H'
 | .cont=>∃ σ' H',Inv X pins σ' H' s'∧D.ct σ' H'
 | .ret u=>∃ v σ' H',Inv X pins σ' H' s'∧RelV v u∧D.rt v H'
def PE (X:Cx) (e:Expr) (t:TE):Prop :=
 ∀ (pins:List (Addr×Obj)) (s:Shared) (σ:St) (H:Hp) (Q:VK),Inv X pins σ H s→t σ H Q→wpAny (model X.prog X.w) X.A (eval e X.env) (EP X pins σ Q) X.xe s
def PT (X:Cx) (e:Expr) (t:TT):Prop :=
 ∀ (pins:List (Addr×Obj)) (s:Shared) (σ:St) (H:Hp) (Q:Bool→Hp→Prop),Inv X pins σ H s→t σ H Q→wpAny (model X.prog X.w) X.A (isTrue e X.env (eval e X.env)) (TP X pins σ Q) X.xe s
def PW (X:Cx) (e:Expr) (t:TT):Prop :=
 ∀ (whole:Sem Value) (pins:List (Addr×Obj)) (s:Shared) (σ:St) (H:Hp) (Q:Bool→Hp→Prop),Inv X pins σ H s→t σ H Q→wpAny (model X.prog X.w) X.A (isTrue e X.env whole) (TP X pins σ Q) X.xe s
theorem PW.pt {X:Cx} {e:Expr} {t:TT} (h:PW X e t):PT X e t:=h _
def PA (X:Cx) (es:List Expr) (t:TA):Prop :=
 ∀ (pos:Pos) (pins:List (Addr×Obj)) (s:Shared) (σ:St) (H:Hp) (Q:List V→Hp→Prop),Inv X pins σ H s→t σ H Q→wpAny (model X.prog X.w) X.A (spliced (backTo pos (starEach es X.env))) (AP X pins σ Q) X.xe s
def PS (X:Cx) (st:Stmt) (t:TS):Prop :=
 ∀ (pins:List (Addr×Obj)) (s:Shared) (σ:St) (H:Hp) (D:Ends),Inv X pins σ H s→t D σ H→wpAny (model X.prog X.w) X.A (exec st X.env) (SP X pins D) X.xe s
def PSs (X:Cx) (st:List Stmt) (t:TS):Prop :=
 ∀ (pins:List (Addr×Obj)) (s:Shared) (σ:St) (H:Hp) (D:Ends),Inv X pins σ H s→t D σ H→wpAny (model X.prog X.w) X.A (execs st X.env) (SP X pins D) X.xe s
theorem thn {α:Type} {t:Sem α} {Q Q':α→Shared→Prop} {M:Model} {A:Around} {E:Value→Shared→Prop} {s:Shared} (h:wpAny M A t Q E s) (hQ:∀ a s,Q a s→Q' a s):wpAny M A t Q' E s:=wpAny_mono h hQ fun _ _ x=>x
end L2
namespace L2
open PySem PySem.Spec PyProof.Rows
section
variable {X:Cx}
def tVar (i:Nat):TE:=fun σ H Q=>∃ v,σ[i]?=some (some v)∧Q v H
def tC (v:V):TE:=fun _ H Q=>Q v H
theorem pe_var {i:Nat} {x:Str} {pos:Pos} (hN:X.N[i]?=some x) (hv:Vis X.env.scope x) (hd:(x == ("__debug__":Str))=false:=by decide) (hcd:(x == ("__classdict__":Str))=false:=by decide):PE X (.Name x pos) (tVar i):=by
 intro pins s σ H Q I h
 obtain ⟨v,e,h⟩:=h
 obtain ⟨m,hn,hl⟩:=I.loc
 obtain ⟨u,r,l⟩:=hl i x v hN e hv
 have fin:EP X pins σ Q u s:=⟨v,H,I,r,h⟩
 rcases l with ⟨hk,hm⟩ | ⟨hk,c,hc,hcell⟩
 ·exact wpAny_Name (wpAny_loadName_local I.ok.kind hk hn hm fin) hd
 ·rcases hk with hk | hk
  ·exact wpAny_Name (wpAny_loadName_cell I.ok.kind hk hc hcell fin) hd
  ·exact wpAny_Name (wpAny_loadName_free I.ok.kind hk hc hcell fin hcd) hd
theorem pe_int {i j pos}:PE X (.Constant (.int i) j pos) (tC (.int i)):=fun _ _ _ H _ I h=>wpAny_Constant_int ⟨.int i,H,I.tok _,⟨_,rfl⟩,h⟩
theorem pe_bl {b j pos}:PE X (.Constant (.bool b) j pos) (tC (.bl b)):=fun _ _ _ H _ I h=>Constant_bool ⟨.bl b,H,I,rfl,h⟩
def Gl (X:Cx) (x:Str):Prop:=X.env.kindOf x=some .globalImplicit
theorem ld_glob {E:Value→Shared→Prop} {pins:List (Addr×Obj)} {s:Shared} {σ:St} {H:Hp} {x:Str} {u:Value} {pos:Pos} {Q:Value→Shared→Prop} (I:Inv X pins σ H s) (hg:Gl X x) (hm:X.mg x=some u) (h:Q u s)
  (hd:(x == ("__debug__":Str))=false:=by decide):wpAny (model X.prog X.w) X.A (eval (.Name x pos) X.env) Q E s :=
 Calls.Name_function_global I.ok.kind hg (Calls.loadGlobal_global (by rw [I.ok.glob]; exact I.mod.glob.keeps I.bk) hm h) hd
theorem ld_blt {E:Value→Shared→Prop} {pins:List (Addr×Obj)} {s:Shared} {σ:St} {H:Hp} {x:Str} {u:Value} {pos:Pos} {Q:Value→Shared→Prop} (I:Inv X pins σ H s) (hg:Gl X x) (hm:X.mg x=none) (hv:bootBuiltins x=some u) (h:Q u s)
  (hn:x≠"__name__":=by decide) (hd:(x == ("__debug__":Str))=false:=by decide):wpAny (model X.prog X.w) X.A (eval (.Name x pos) X.env) Q E s:=by
 obtain ⟨mb,h1,h2⟩:=I.mod.blt
 exact Calls.Name_function_global I.ok.kind hg (Calls.loadGlobal_builtin (by rw [I.ok.glob]; exact I.mod.glob.keeps I.bk) hm (by rw [I.ok.blt]; exact h1.keeps I.bk) ((h2 x hn).trans hv) h) hd
theorem pe_glob {x:Str} {v:V} {u:Value} {pos:Pos} (hg:Gl X x) (hm:X.mg x=some u) (r:RelV v u) (hd:(x == ("__debug__":Str))=false:=by decide):PE X (.Name x pos) (tC v) :=
 fun _ _ _ H _ I h=>ld_glob I hg hm ⟨v,H,I,r,h⟩ hd
variable {a b:Expr} {ta tb:TE} {pos:Pos}
def PC (X:Cx) (op:CmpOp) (a b:Expr) (t:TE):Prop :=
 ∀ (pins:List (Addr×Obj)) (s:Shared) (σ:St) (H:Hp) (Q:VK),Inv X pins σ H s→t σ H Q →
  wpAny (model X.prog X.w) X.A (eval a X.env) (fun v s₁=>wpAny (model X.prog X.w) X.A (eval b X.env) (fun u s₂=>wpAny (model X.prog X.w) X.A (compareOp op v u) (EP X pins σ Q) X.xe s₂) X.xe s₁) X.xe s
def tB (t:TE):TT:=fun σ H Q=>t σ H fun x H1=>∃ c,x=.bl c∧Q c H1
theorem pe_cmp {op:CmpOp} {t:TE} (h:PC X op a b t) (h1:behindInMarks op b=false:=by first | exact nobehind _ (by decide) (by decide) | rfl):PE X (.Compare a [op] [b] pos) t:=fun pins s σ H Q I hw=>wpAny_Compare1 (h pins s σ H Q I hw) h1
theorem pt_cmp {op:CmpOp} {t:TE} (h:PC X op a b t) (h1:behindInMarks op b=false:=by first | exact nobehind _ (by decide) (by decide) | rfl):PT X (.Compare a [op] [b] pos) (tB t):=by
 intro pins s σ H Q I hw
 refine wpAny_isTrue_Compare1 (thn (h pins s σ H _ I hw) fun v s1 h1=>thn h1 fun u s2 h2=>thn h2 fun c s3 ⟨x,H1,I1,r1,q1⟩=>?_) h1
 obtain ⟨d,rfl,q⟩:=q1
 cases r1
 exact wpAny_truthy_bool ⟨H1,I1,q⟩
theorem pt_val {e:Expr} {t:TE} (h:PE X e t) (he:∀ whole,isTrue e X.env whole=(do let v ← whole; standAt e.pos; holding [v] (truthy v)):=by intro _; rfl):PT X e (tB t):=by
 intro pins s σ H Q I hw
 refine isTrue_plain (thn (h pins s σ H _ I hw) fun v s1 ⟨x,H1,I1,r1,q1⟩=>?_) (he _)
 obtain ⟨d,rfl,q⟩:=q1
 cases r1
 exact wpAny_truthy_bool ⟨H1,I1,q⟩
variable {tA tB':TT} {rest:List Expr}
def tAnd (t u:TT):TT:=fun σ H Q=>t σ H fun c H1=>if c=true then u σ H1 Q else Q false H1
def tOr (t u:TT):TT:=fun σ H Q=>t σ H fun c H1=>if c=true then Q true H1 else u σ H1 Q
def tNot (t:TT):TT:=fun σ H Q=>t σ H fun c H1=>Q (!c) H1
theorem pw_and1 (ha:PT X a tA):PW X (.BoolOp .And [a] pos) tA:=by
 intro wh pins s σ H Q I h
 refine isTrue_and (thn (ha pins s σ H Q I h) fun c s1 e=>?_)
 cases c with
 | true=>exact isTrue_and_nil e
 | false=>exact e
theorem pw_or1 (ha:PT X a tA):PW X (.BoolOp .Or [a] pos) tA:=by
 intro wh pins s σ H Q I h
 refine isTrue_or (thn (ha pins s σ H Q I h) fun c s1 e=>?_)
 cases c with
 | false=>exact isTrue_or_nil e
 | true=>exact e
theorem pw_and (ha:PT X a tA) (hb:PW X (.BoolOp .And (b::rest) pos) tB'):PW X (.BoolOp .And (a::b::rest) pos) (tAnd tA tB'):=by
 intro wh pins s σ H Q I h
 refine isTrue_and (thn (ha pins s σ H _ I h) fun c s1 ⟨H1,I1,q1⟩=>?_)
 cases c with
 | true=>exact hb wh pins s1 σ H1 Q I1 q1
 | false=>exact ⟨H1,I1,q1⟩
theorem pw_or (ha:PT X a tA) (hb:PW X (.BoolOp .Or (b::rest) pos) tB'):PW X (.BoolOp .Or (a::b::rest) pos) (tOr tA tB'):=by
 intro wh pins s σ H Q I h
 refine isTrue_or (thn (ha pins s σ H _ I h) fun c s1 ⟨H1,I1,q1⟩=>?_)
 cases c with
 | true=>exact ⟨H1,I1,q1⟩
 | false=>exact hb wh pins s1 σ H1 Q I1 q1
theorem pt_not (ha:PT X a tA):PT X (.UnaryOp .Not a pos) (tNot tA):=by
 intro pins s σ H Q I h
 exact isTrue_not (ha pins s σ H (fun c H1=>Q (!c) H1) I h)
def tAndV (ta tb:TE):TE:=fun σ H Q=>ta σ H fun x H1=>∃ c,x=.bl c∧if c=true then tb σ H1 Q else Q (.bl false) H1
theorem pe_one {op} {t:TE} (h:PE X a t):PE X (.BoolOp op [a] pos) t:=fun pins s σ H Q I hw=>BoolOp_one (h pins s σ H Q I hw)
theorem pe_and (ha:PE X a ta) (hb:PE X (.BoolOp .And (b::rest) pos) tb):PE X (.BoolOp .And (a::b::rest) pos) (tAndV ta tb):=by
 intro pins s σ H Q I h
 refine BoolOp_and (thn (ha pins s σ H _ I h) fun v s1 ⟨x,H1,I1,r1,q1⟩=>?_)
 obtain ⟨c,rfl,q1⟩:=q1
 cases r1
 refine wpAny_truthy_bool ?_
 cases c with
 | true=>exact hb pins s1 σ H1 Q I1 q1
 | false=>exact ⟨.bl false,H1,I1,rfl,q1⟩
def tIf (t:TT) (ta tb:TE):TE:=fun σ H Q=>t σ H fun c H1=>if c=true then ta σ H1 Q else tb σ H1 Q
theorem pe_ifExp {c:Expr} (hc:PT X c tA) (ha:PE X a ta) (hb:PE X b tb):PE X (.IfExp c a b pos) (tIf tA ta tb):=by
 intro pins s σ H Q I h
 refine wpAny_IfExp (thn (hc pins s σ H _ I h) fun d s1 ⟨H1,I1,q1⟩=>?_)
 cases d with
 | true=>exact ha pins s1 σ H1 Q I1 q1
 | false=>exact hb pins s1 σ H1 Q I1 q1
end
end L2
namespace L2
open PySem PySem.Spec PyProof.Rows
def SqL (K:PySem.W.Frag) (H:Hp) (a:Addr) (xs:List V):Prop :=
 Rd H a (.lst xs) ∨
  ∃ (o:Obj) (its:Array Value) (n:Nat),K.lookup a=some o∧o.cls=.type "list"∧o.dict=none∧o.data=.seq its n∧its.size≤sizeLine∧Vals xs its.toList
def SqT (K:PySem.W.Frag) (H:Hp) (a:Addr) (xs:List V):Prop :=
 Rd H a (.tup xs) ∨
  ∃ (o:Obj) (its:Array Value) (n:Nat),K.lookup a=some o∧o.cls=.type "tuple"∧o.data=.seq its n∧its.size≤sizeLine∧Vals xs its.toList
def absV:Value→Option V
 | .none=>some .non
 | .bool b=>some (.bl b)
 | .int i _=>some (.int i)
 | .str x _=>some (.str x)
 | .bytes b _=>some (.byt b)
 | .float b _=>some (.flt b)
 | .ref a=>some (.ref a)
 | .type n=>some (.ty n)
 | _=>none
theorem RelV.abs {x:V} {u:Value} (r:RelV x u):absV u=some x:=by
 cases x with
 | non=>cases r; rfl
 | bl _=>cases r; rfl
 | int _=>obtain ⟨t,rfl⟩:=r; rfl
 | str _=>obtain ⟨t,rfl⟩:=r; rfl
 | byt _=>obtain ⟨t,rfl⟩:=r; rfl
 | flt _=>obtain ⟨t,rfl⟩:=r; rfl
 | ref _=>cases r; rfl
 | ty _=>cases r; rfl
theorem RelV.inj {x y:V} {u:Value} (r:RelV x u) (q:RelV y u):x=y:=Option.some.inj (r.abs.symm.trans q.abs)
theorem Vals.inj:∀ {xs ys:List V} {us:List Value},Vals xs us→Vals ys us→xs=ys
 | _,_,_,.nil,.nil=>rfl
 | _,_,_,.cons r t,.cons r' t'=>by rw [r.inj r',Vals.inj t t']
section
variable {X:Cx} {pins:List (Addr×Obj)} {σ:St} {H:Hp} {s:Shared} {a:Addr} {xs ys:List V}
theorem SqL.of {K:PySem.W.Frag} (h:H a=some (.lst xs)):SqL K H a xs:=.inl (.inl h)
theorem Inv.list (I:Inv X pins σ H s) (h:SqL X.K H a xs):∃ its:List Value,Vals xs its∧PlainL s.heap a its.toArray∧xs.length≤sizeLine:=by
 rcases h with h | ⟨o,its,n,hk,hc,hd,hs,hz,r⟩
 ·obtain ⟨z,its,n,r,e⟩:=h.ok I.hok
  exact ⟨its,r,⟨_,n,e,rfl,rfl,rfl⟩,z⟩
 ·refine ⟨its.toList,r,⟨o,n,I.kIn a o hk,hc,hd,by simpa using hs⟩,?_⟩
  have e:=r.length
  simp only [Array.length_toList] at e
  omega
theorem Inv.tuple (I:Inv X pins σ H s) (h:SqT X.K H a xs):∃ its:List Value,Vals xs its∧IsTup s.heap a its.toArray∧xs.length≤sizeLine:=by
 rcases h with h | ⟨o,its,n,hk,hc,hs,hz,r⟩
 ·obtain ⟨z,its,r,p⟩:=h.ok I.hok
  exact ⟨its,r,p,z⟩
 ·refine ⟨its.toList,r,⟨o,I.kIn a o hk,hc,n,by simpa using hs⟩,?_⟩
  have e:=r.length
  simp only [Array.length_toList] at e
  omega
theorem Inv.list_inj (I:Inv X pins σ H s) (h:SqL X.K H a xs) (h':SqL X.K H a ys):xs=ys:=by
 obtain ⟨its,r,⟨o,n,e,_,_,d⟩,_⟩:=I.list h
 obtain ⟨its',r',⟨o',n',e',_,_,d'⟩,_⟩:=I.list h'
 rw [e] at e'; cases e'
 rw [d] at d'
 injection d' with d1 _
 have:its=its':=by simpa using congrArg Array.toList d1
 subst this
 exact r.inj r'
theorem Inv.tuple_inj (I:Inv X pins σ H s) (h:SqT X.K H a xs) (h':SqT X.K H a ys):xs=ys:=by
 obtain ⟨its,r,⟨o,e,_,n,d⟩,_⟩:=I.tuple h
 obtain ⟨its',r',⟨o',e',_,n',d'⟩,_⟩:=I.tuple h'
 rw [e] at e'; cases e'
 rw [d] at d'
 injection d' with d1 _
 have:its=its':=by simpa using congrArg Array.toList d1
 subst this
 exact r.inj r'
end
abbrev Cx.wish (X:Cx) (E:Value→Shared→Prop):Cx:={ X with xe:=E }
abbrev Cx.nox (X:Cx):Cx:=X.wish fun _ _=>False
theorem Cx.Ok.wish {X:Cx} (ok:X.Ok) (E:Value→Shared→Prop):(X.wish E).Ok :=
 ⟨ok.mod,ok.kind,ok.glob,ok.blt,ok.above,ok.inj,ok.has,ok.cab,ok.hd,ok.frames,ok.stk,ok.exf,ok.bs,ok.bsz,ok.noex,ok.exfs,ok.funs,ok.frf⟩
theorem Cx.Ok.unwish {X:Cx} {E:Value→Shared→Prop} (ok:(X.wish E).Ok):X.Ok :=
 ⟨ok.mod,ok.kind,ok.glob,ok.blt,ok.above,ok.inj,ok.has,ok.cab,ok.hd,ok.frames,ok.stk,ok.exf,ok.bs,ok.bsz,ok.noex,ok.exfs,ok.funs,ok.frf⟩
section
variable {X:Cx} {pins:List (Addr×Obj)} {σ:St} {H:Hp} {s:Shared} {E:Value→Shared→Prop}
theorem Inv.wish (I:Inv X pins σ H s) (E:Value→Shared→Prop):Inv (X.wish E) pins σ H s:=⟨I.ok.wish E,I.os,I.bare,I.base,I.loc,I.cell,I.free,I.freeC,I.pin,I.hok,I.len⟩
theorem Inv.unwish (I:Inv (X.wish E) pins σ H s):Inv X pins σ H s:=⟨I.ok.unwish,I.os,I.bare,I.base,I.loc,I.cell,I.free,I.freeC,I.pin,I.hok,I.len⟩
theorem SP.unwish {D:Ends} {f:Flow} {s':Shared} (h:SP (X.wish E) pins D f s'):SP X pins D f s':=by
 cases f with
 | next=>obtain ⟨σ',H',I,q⟩:=h; exact ⟨σ',H',I.unwish,q⟩
 | brk=>obtain ⟨σ',H',I,q⟩:=h; exact ⟨σ',H',I.unwish,q⟩
 | cont=>obtain ⟨σ',H',I,q⟩:=h; exact ⟨σ',H',I.unwish,q⟩
 | ret u=>obtain ⟨v,σ',H',I,r,q⟩:=h; exact ⟨v,σ',H',I.unwish,r,q⟩
theorem PSs.nox {st:List Stmt} {t:TS} (h:PSs X.nox st t):PSs X st t:=fun pins s σ H D I hw =>
 wpAny_mono (h pins s σ H D (I.wish _) hw) (fun _ _ q=>q.unwish) fun _ _ z=>False.elim z
end
section
variable {X:Cx} {st:Stmt} {rest:List Stmt} {t u:TS} {e:Expr} {te:TE} {pos:Pos}
def tNext:TS:=fun D σ H=>D.nx σ H
def tSeq (t u:TS):TS:=fun D σ H=>t { D with nx:=u D } σ H
theorem pss_nil:PSs X [] tNext:=fun _ _ σ H _ I h=>wpAny_execs_nil ⟨σ,H,I,h⟩
theorem pss_cons (h1:PS X st t) (h2:PSs X rest u):PSs X (st::rest) (tSeq t u):=by
 intro pins s σ H D I h
 refine wpAny_execs_cons (thn (h1 pins s σ H { D with nx:=u D } I h) fun f s1 q=>?_)
 cases f with
 | next =>
  obtain ⟨σ',H',I',q⟩:=q
  exact h2 pins s1 σ' H' D I' q
 | ret v=>exact q
 | brk=>exact q
 | cont=>exact q
theorem pss_one (h1:PS X st t):PSs X [st] t:=by
 intro pins s σ H D I h
 refine wpAny_execs_cons (thn (h1 pins s σ H D I h) fun f s1 q=>?_)
 cases f with
 | next=>exact wpAny_execs_nil q
 | ret v=>exact q
 | brk=>exact q
 | cont=>exact q
def tBreak:TS:=fun D σ H=>D.bk σ H
theorem ps_break:PS X (.Break pos) tBreak:=fun _ _ σ H _ I h=>wpAny_Break ⟨σ,H,I,h⟩
theorem Inv.quiet {pins:List (Addr×Obj)} {σ:St} {H:Hp} {s:Shared} (I:Inv X pins σ H s):interactive X.env=false:=by simp [interactive,I.ok.kind]
def tDrop (te:TE):TS:=fun D σ H=>te σ H fun _ H1=>D.nx σ H1
theorem ps_expr (he:PE X e te) (hs:swapsWith e none pos.line X.env=pure false:=by rfl):PS X (.Expr e pos) (tDrop te):=by
 intro pins s σ H D I h
 exact wpAny_Expr_any (thn (he pins s σ H _ I h) fun v s1 ⟨x,H1,I1,r1,q1⟩=>⟨σ,H1,I1,q1⟩) I.quiet hs
def tRet (te:TE):TS:=fun D σ H=>te σ H D.rt
theorem ps_ret (he:PE X e te):PS X (.Return (some e) pos) (tRet te):=by
 intro pins s σ H D I h
 exact wpAny_Return_some (thn (he pins s σ H _ I h) fun v s1 ⟨x,H1,I1,r1,q1⟩=>⟨x,σ,H1,I1,r1,q1⟩)
def tIfS (c:TT) (t u:TS):TS:=fun D σ H=>c σ H fun b H1=>if b=true then t D σ H1 else u D σ H1
theorem ps_if {c:Expr} {a b:List Stmt} {tc:TT} (hc:PT X c tc) (ha:PSs X a t) (hb:PSs X b u):PS X (.If c a b pos) (tIfS tc t u):=by
 intro pins s σ H D I h
 refine wpAny_If (thn (hc pins s σ H _ I h) fun d s1 ⟨H1,I1,q1⟩=>?_)
 cases d with
 | true=>exact ha pins s1 σ H1 D I1 q1
 | false=>exact hb pins s1 σ H1 D I1 q1
end
abbrev TG:=V→St→Hp→(St→Hp→Prop)→Prop
abbrev TGs:=List V→St→Hp→(St→Hp→Prop)→Prop
def PG (X:Cx) (target:Expr) (t:TG):Prop :=
 ∀ (pins:List (Addr×Obj)) (s:Shared) (σ:St) (H:Hp) (v:V) (u:Value) (Q:St→Hp→Prop),Inv X pins σ H s→RelV v u→t v σ H Q →
  wpAny (model X.prog X.w) X.A (assign target X.env u) (fun _ s'=>∃ σ' H',Inv X pins σ' H' s'∧Q σ' H') X.xe s
def PGs (X:Cx) (ts:List Expr) (t:TGs):Prop :=
 ∀ (pins:List (Addr×Obj)) (s:Shared) (σ:St) (H:Hp) (vs:List V) (us:List Value) (Q:St→Hp→Prop),Inv X pins σ H s→Vals vs us→t vs σ H Q →
  wpAny (model X.prog X.w) X.A (assignInOrder ((assignEach ts X.env).map (·.2)) us) (fun _ s'=>∃ σ' H',Inv X pins σ' H' s'∧Q σ' H') X.xe s
abbrev TIp:=V→V→Hp→VK→Prop
def PIp (X:Cx) (op:Operator) (t:TIp):Prop :=
 ∀ (pins:List (Addr×Obj)) (s:Shared) (σ:St) (H:Hp) (x y:V) (v u:Value) (Q:VK),Inv X pins σ H s→RelV x v→RelV y u→t x y H Q →
  wpAny (model X.prog X.w) X.A (inplaceOp op v u) (EP X pins σ Q) X.xe s
section
variable {X:Cx} {pos:Pos}
def gName (i:Nat):TG:=fun v σ H Q=>Q (σ.set i (some v)) H
theorem pg_name {i:Nat} {x:Str} (hN:X.N.Nodup) (hi:X.N[i]?=some x) (hx:Loc X.env.scope x) (hf:X.fn x=true∨X.env.scope.names.lookup x=some .local:=by first | exact .inl rfl | exact .inr rfl | assumption):PG X (.Name x pos) (gName i):=by
 intro pins s σ H v u Q I r h
 exact wpAny_assign_Name (store_ok I hN hi hx r (fun s' I'=>⟨_,H,I',h⟩) hf)
def gNil:TGs:=fun vs σ H Q=>vs=[]∧Q σ H
def gCons (t:TG) (u:TGs):TGs:=fun vs σ H Q=>∃ v r,vs=v::r∧t v σ H fun σ' H'=>u r σ' H' Q
theorem pgs_nil:PGs X [] gNil:=by
 intro pins s σ H vs us Q I r h
 obtain ⟨e,h⟩:=h
 subst e
 cases r
 exact assignInOrder_nil ⟨σ,H,I,h⟩
theorem pgs_cons {e:Expr} {es:List Expr} {t:TG} {u:TGs} (h1:PG X e t) (h2:PGs X es u)
  (hs:(assignEach (e::es) X.env).map (·.2)=assign e X.env::(assignEach es X.env).map (·.2):=by rfl):PGs X (e::es) (gCons t u):=by
 intro pins s σ H vs us Q I r h
 obtain ⟨v,vr,e1,h⟩:=h
 subst e1
 cases r with
 | cons r rr =>
  rw [hs]
  refine assignInOrder_cons (thn (h1 pins s σ H _ _ _ I r h) fun _ s1 ⟨σ1,H1,I1,q1⟩=>?_)
  exact h2 pins s1 σ1 H1 _ _ Q I1 rr q1
def gTup (K:PySem.W.Frag) (n:Nat) (t:TGs):TG:=fun v σ H Q=>∃ a xs,v=.ref a∧SqT K H a xs∧xs.length=n∧t xs σ H Q
theorem pg_tup {es:List Expr} {k:Nat} {t:TGs} {n:Nat} (hc:X.calm=true) (h:PGs X es t)
  (hn:(assignEach es X.env).length=n:=by rfl) (hst:(assignEach es X.env).findIdx? (·.1)=none:=by rfl):PG X (.Tuple es k pos) (gTup X.K n t):=by
 intro pins s σ H v u Q I r hw
 obtain ⟨a,xs,e1,hq,hl,hw⟩:=hw
 subst e1
 cases r
 obtain ⟨its,rv,ht,hz⟩:=I.tuple hq
 refine assign_Tuple_tuple (I.ok.hd hc) ht (by simp [hn,← hl,rv.length]) hst fun h' hx=>?_
 have I1:Inv X pins σ H { s with heap:=h' }:=I.kept (t':=s.toks) fun b o e=>hx b o (Nat.ne_of_lt (Heap.lt_size e)) e
 exact h pins _ σ H xs _ Q I1 (by simpa using rv) hw
def tAsg (te:TE) (g:TG):TS:=fun D σ H=>te σ H fun x H1=>g x σ H1 D.nx
theorem ps_set {i:Nat} {x:Str} {e:Expr} {te:TE} {pos':Pos} (hN:X.N.Nodup) (hi:X.N[i]?=some x) (hx:Loc X.env.scope x) (he:PE X e te) (hs:swapsWith e (some (.Name x pos')) pos.line X.env=pure false:=by rfl) (hf:X.fn x=true∨X.env.scope.names.lookup x=some .local:=by first | exact .inl rfl | exact .inr rfl | assumption) :
  PS X (.Assign [.Name x pos'] e pos) (tAsg te (gName i)):=by
 intro pins s σ H D I h
 refine wpAny_Assign_Name (thn (he pins s σ H _ I h) fun v s1 ⟨y,H1,I1,r1,q1⟩=>?_) hs
 exact store_ok I1 hN hi hx r1 (fun s2 I2=>⟨_,H1,I2,q1⟩) hf
def tAug (i:Nat) (te:TE) (ti:TIp):TS:=fun D σ H=>∃ x,σ[i]?=some (some x)∧te σ H fun y H1=>ti x y H1 fun z H2=>D.nx (σ.set i (some z)) H2
theorem ps_aug {i:Nat} {x:Str} {e:Expr} {te:TE} {op:Operator} {ti:TIp} {pos':Pos} (hN:X.N.Nodup) (hi:X.N[i]?=some x) (hx:Loc X.env.scope x) (he:PE X e te) (ho:PIp X op ti) (hf:X.fn x=true∨X.env.scope.names.lookup x=some .local:=by first | exact .inl rfl | exact .inr rfl | assumption) :
  PS X (.AugAssign (.Name x pos') op e pos) (tAug i te ti):=by
 intro pins s σ H D I h
 obtain ⟨v,e1,h⟩:=h
 obtain ⟨m,hn,hl⟩:=I.loc
 have vis:Vis X.env.scope x:=by rcases hx with k | k; exact .inl k; exact .inr (.inl k)
 obtain ⟨u,r,l⟩:=hl i x v hi e1 vis
 refine wpAny_AugAssign_Name ?_
 have go:wpAny (model X.prog X.w) X.A (eval e X.env) (fun w s₂=>wpAny (model X.prog X.w) X.A (inplaceOp op u w) (fun r s₃=>wpAny (model X.prog X.w) X.A (storeName X.env x r) (fun _=>SP X pins D .next) X.xe s₃) X.xe s₂) X.xe s:=by
  refine thn (he pins s σ H _ I h) fun w s1 ⟨y,H1,I1,r1,q1⟩=>?_
  refine thn (ho pins s1 σ H1 v y u w _ I1 r r1 q1) fun z s2 ⟨zv,H2,I2,r2,q2⟩=>?_
  exact store_ok I2 hN hi hx r2 (fun s3 I3=>⟨_,H2,I3,q2⟩) hf
 rcases l with ⟨hk,hm⟩ | ⟨hk,c,hc,hcell⟩
 ·exact wpAny_loadName_local I.ok.kind hk hn hm go
 ·rcases hk with hk | hk
  ·exact wpAny_loadName_cell I.ok.kind hk hc hcell go
  ·rcases hx with k | k
   ·have:X.env.scope.names.lookup x=some .free:=hk
    rw [k] at this; cases this
   ·have:X.env.scope.names.lookup x=some .free:=hk
    rw [k] at this; cases this
def ipI (f:Int→Int→Int):TIp:=fun x y H Q=>∃ i j,x=.int i∧y=.int j∧Q (.int (f i j)) H
theorem ip_add:PIp X .Add (ipI fun i j=>i + j):=by
 intro pins s σ H x y v u Q I r1 r2 h
 obtain ⟨i,j,e1,e2,q⟩:=h
 subst e1; subst e2
 obtain ⟨t,rfl⟩:=r1
 obtain ⟨t',rfl⟩:=r2
 exact iadd_int ⟨.int _,H,I.tok _,⟨_,rfl⟩,q⟩
end
section
variable {X:Cx} {pos:Pos}
def tWhile (c:TT) (tb:TS):TS:=fun D σ H=>∃ W:Nat→St→Hp→Prop,(∃ m,W m σ H)∧∀ m σ H,W m σ H →
 c σ H fun b H1=>if b=true then ∃ N:St→Hp→Prop,(∀ σ' H',N σ' H'→∃ m',m' < m∧W m' σ' H')∧tb { D with nx:=N,ct:=N,bk:=D.nx } σ H1 else D.nx σ H1
theorem ps_while {c:Expr} {body:List Stmt} {tc:TT} {tb:TS} (hp:PassesOwn (model X.prog X.w) X.A X.env X.xe) (hc:PT X c tc) (hb:PSs X body tb):PS X (.While c body [] pos) (tWhile tc tb):=by
 intro pins s σ H D I h
 obtain ⟨W,⟨m0,w0⟩,turn⟩:=h
 refine wpAny_While (codeAny_whileLoop (fun n s'=>∃ σ' H',Inv X pins σ' H' s'∧W n σ' H') ?_ m0 ⟨σ,H,I,w0⟩)
 rintro n s1 ⟨σ1,H1,I1,w1⟩
 refine wpAny_passesOwn hp (thn (hc pins s1 σ1 H1 _ I1 (turn n σ1 H1 w1)) fun b s2 ⟨H2,I2,q2⟩=>?_)
 cases b with
 | true =>
  obtain ⟨N,hN,q2⟩:=q2
  rw [if_pos rfl]
  refine wpAny_passesOwn hp (thn (hb pins s2 σ1 H2 _ I2 q2) fun f s3 q3=>?_)
  cases f with
  | next =>
   obtain ⟨σ3,H3,I3,n3⟩:=q3
   obtain ⟨m',hm,w3⟩:=hN σ3 H3 n3
   exact ⟨m',hm,σ3,H3,I3,w3⟩
  | cont =>
   obtain ⟨σ3,H3,I3,n3⟩:=q3
   obtain ⟨m',hm,w3⟩:=hN σ3 H3 n3
   exact ⟨m',hm,σ3,H3,I3,w3⟩
  | brk=>exact q3
  | ret v=>exact q3
 | false =>
  rw [if_neg Bool.false_ne_true]
  exact wpAny_execs_nil ⟨σ1,H2,I2,q2⟩
end
structure It where
 go:Nat→Hp→Prop
 yld:Nat→Hp→V→Hp→Prop
 stop:Nat→Hp→Prop
def FpOk (X:Cx) (pins:List (Addr×Obj)) (H:Hp) (b:Addr):Prop :=
 H b=none∧b≠X.env.locals∧b ∉ X.fs∧(b∈X.ex∨X.s_0.heap.objs.size≤b)∧(∀ x c,X.env.cells.lookup x=some c→c≠b)∧∀ p∈X.pn++pins,p.1≠b
theorem Inv.fpOk {X:Cx} {pins:List (Addr×Obj)} {σ:St} {H H':Hp} {s:Shared} {b:Addr} (I:Inv X pins σ H s) (hb:s.heap.objs.size≤b) (hn:H' b=none):FpOk X pins H' b:=by
 refine ⟨hn,Nat.ne_of_gt (Nat.lt_of_lt_of_le I.lt hb),I.nofs hb,.inr (Nat.le_trans I.sz hb),fun x c e z=>?_,fun p hp z=>?_⟩
 ·obtain ⟨v,q⟩:=I.cell x c e
  exact absurd (Nat.lt_of_lt_of_le q.lt (by rw [z]; exact hb)) (Nat.lt_irrefl _)
 ·exact absurd (Nat.lt_of_lt_of_le (Heap.lt_size (I.pin p hp).1) (by rw [z]; exact hb)) (Nat.lt_irrefl _)
structure Turn (P:Program) (w:World) (K:PySem.W.Frag) (tg:Expr) (J:It) (fp:List Addr) (it:Addr) (tn:Nat→Heap→Prop):Prop where
 mem:it∈fp
 obj:∀ i h,tn i h→∀ b∈fp,∃ o,h.get? b=some o∧∀ v,o.data ≠ .cell v
 keep:∀ i h h',tn i h→(∀ b∈fp,∀ o,h.get? b=some o→h'.get? b=some o)→tn i h'
 item:∀ (X:Cx),X.prog=P→X.w=w→X.K=K→X.calm=true→∀ (i:Nat) (pins:List (Addr×Obj)) (s:Shared) (σ:St) (H:Hp) (E:Value→Shared→Prop),Inv X pins σ H s→(∀ b∈fp,FpOk X pins H b)→tn i s.heap→J.go i H →
  wpAny (model P w) X.A (pyNext (.ref it)) (fun r s1=>∃ u,r=some u ∧
   wpAny (model P w) X.A (letOwnedTupleGo tg (.ref it) u) (fun _ s2=>∃ x H',Inv X pins σ H' s2∧RelV x u∧J.yld i H x H'∧tn (i + 1) s2.heap∧∀ b∈fp,H' b=none) E s1) E s
 done:∀ (X:Cx),X.prog=P→X.w=w→X.K=K→X.calm=true→∀ (i:Nat) (pins:List (Addr×Obj)) (s:Shared) (σ:St) (H:Hp) (E:Value→Shared→Prop),Inv X pins σ H s→(∀ b∈fp,FpOk X pins H b)→tn i s.heap→J.stop i H →
  wpAny (model P w) X.A (pyNext (.ref it)) (fun r s1=>r=none∧Inv X pins σ H s1) E s
 self:∀ (A:Around) (i:Nat) (s:Shared) (Q:Value→Shared→Prop) (E:Value→Shared→Prop),tn i s.heap→Q (.ref it) s→wpAny (model P w) A (pyIter (.ref it)) Q E s
abbrev TI:=St→Hp→(It→Hp→Prop)→Prop
def PIE (X:Cx) (pins:List (Addr×Obj)) (σ:St) (tg:Expr) (R:It→Hp→Prop) (itv:Value) (s2:Shared):Prop :=
 ∃ (it:Addr) (fp:List Addr) (tn:Nat→Heap→Prop) (J:It) (H':Hp),itv=.ref it∧Inv X pins σ H' s2∧Turn X.prog X.w X.K tg J fp it tn∧tn 0 s2.heap∧(∀ b∈fp,FpOk X pins H' b)∧R J H'
def PI (X:Cx) (tg iter:Expr) (wi:TI):Prop :=
 ∀ (pins:List (Addr×Obj)) (s:Shared) (σ:St) (H:Hp) (R:It→Hp→Prop),Inv X pins σ H s→wi σ H R →
  wpAny (model X.prog X.w) X.A (eval iter X.env) (fun v s1=>wpAny (model X.prog X.w) X.A (pyIter v) (PIE X pins σ tg R) X.xe s1) X.xe s
theorem go_of {M : Model} {A : Around} {E : Value → Shared → Prop} {s : Shared} {tg : Expr} {it : Addr} {u : Value} {o : Obj} {n : String} {vs : Array Value} {Q : Unit → Shared → Prop} (ho : s.heap.get? it = some o) (hc : o.cls = .type n) (hd : o.data = .fields vs)
    (hn : ["enumerate", "zip", "dict_itemiterator", "dict_reverseitemiterator", "odict_iterator", "itertools.zip_longest", "itertools.pairwise"].contains n = false) (hQ : Q () s) : wpAny M A (letOwnedTupleGo tg (.ref it) u) Q E s := by
  unfold letOwnedTupleGo
  cases tg <;> first
    | exact wpAny_pure hQ
    | (cases u <;> first
        | exact wpAny_pure hQ
        | (refine wpAny_bind (wpAny_load ho ?_)
           rw [hc, hd]
           show wpAny M A (if (["enumerate", "zip", "dict_itemiterator", "dict_reverseitemiterator", "odict_iterator", "itertools.zip_longest", "itertools.pairwise"].contains n && vs[0]? == some (rawInt _)) = true then _ else _) Q E s
           rw [if_neg (by intro h; rw [hn, Bool.false_and] at h; cases h)]
           exact wpAny_pure hQ))
def Itl (K:PySem.W.Frag) (a:Addr):It :=
 ⟨fun i H=>∃ xs x,SqL K H a xs∧xs[i]?=some x,fun i H x H'=>H'=H∧∀ xs,SqL K H a xs→xs[i]?=some x,fun i H=>∃ xs,SqL K H a xs∧xs.length≤i⟩
def Itt (K:PySem.W.Frag) (a:Addr):It :=
 ⟨fun i H=>∃ xs x,SqT K H a xs∧xs[i]?=some x,fun i H x H'=>H'=H∧∀ xs,SqT K H a xs→xs[i]?=some x,fun i H=>∃ xs,SqT K H a xs∧xs.length≤i⟩
theorem turn_list {P:Program} {w:World} {K:PySem.W.Frag} {tg:Expr} (a it:Addr):Turn P w K tg (Itl K a) [it] it (fun i h=>h.IsListIter it a i) where
 mem:=by simp
 obj:=fun i h st b hb=>by
  have e:b=it:=by simpa using hb
  subst e
  obtain ⟨o,e,c,d⟩:=st
  exact ⟨o,e,fun v z=>by rw [d] at z; cases z⟩
 keep:=fun i h h' st k=>st.at fun o e=>k it (by simp) o e
 item:=by
  intro X hP hw hK hc i pins s σ H E I hf st hg
  subst hP hw hK
  obtain ⟨xs,x,hq,hx⟩:=hg
  obtain ⟨its,rv,p,hz⟩:=I.list hq
  obtain ⟨u,hu,ru⟩:=rv.get hx
  obtain ⟨f0,f1,f2,f3,f4,f5⟩:=hf it (by simp)
  refine wpAny_pyNext_list_item st p.isList (x:=u) (by simpa using hu) fun h' st' sb=>?_
  have I1:Inv X pins σ H { s with heap:=h' }:=I.turned (t':=s.toks) (fun b o hb e=>(sb.2 b hb).trans e) f0 f1 f3 f4 f5
  obtain ⟨o,e,c,d⟩:=id st'
  exact ⟨u,rfl,go_of (s:={ s with heap:=h' }) e c d (by decide) ⟨x,H,I1,ru,⟨rfl,fun ys hy=>by rw [I.list_inj hy hq]; exact hx⟩,st',fun b hb=>(hf b hb).1⟩⟩
 done:=by
  intro X hP hw hK hc i pins s σ H E I hf st hg
  subst hP hw hK
  obtain ⟨xs,hq,hx⟩:=hg
  obtain ⟨its,rv,p,hz⟩:=I.list hq
  obtain ⟨f0,f1,f2,f3,f4,f5⟩:=hf it (by simp)
  have hl:=rv.length
  exact wpAny_pyNext_list_end (I.ok.hd hc) st p.isList (by simp; omega) fun h' eb=>⟨rfl,I.turned (t':=s.toks) (fun b o hb e=>eb b o hb e) f0 f1 f3 f4 f5⟩
 self:=fun _ _ _ _ _ st h=>wpAny_pyIter_listiter st h
theorem turn_tuple {P:Program} {w:World} {K:PySem.W.Frag} {tg:Expr} (a it:Addr):Turn P w K tg (Itt K a) [it] it (fun i h=>h.IsTupleIter it a i) where
 mem:=by simp
 obj:=fun i h st b hb=>by
  have e:b=it:=by simpa using hb
  subst e
  obtain ⟨o,e,c,d⟩:=st
  exact ⟨o,e,fun v z=>by rw [d] at z; cases z⟩
 keep:=fun i h h' st k=>st.at fun o e=>k it (by simp) o e
 item:=by
  intro X hP hw hK hc i pins s σ H E I hf st hg
  subst hP hw hK
  obtain ⟨xs,x,hq,hx⟩:=hg
  obtain ⟨its,rv,p,hz⟩:=I.tuple hq
  obtain ⟨u,hu,ru⟩:=rv.get hx
  obtain ⟨f0,f1,f2,f3,f4,f5⟩:=hf it (by simp)
  refine wpAny_pyNext_tuple_item st (show s.heap.IsTuple a its.toArray from p) (x:=u) (by simpa using hu) fun h' st' sb=>?_
  have I1:Inv X pins σ H { s with heap:=h' }:=I.turned (t':=s.toks) (fun b o hb e=>(sb.2 b hb).trans e) f0 f1 f3 f4 f5
  obtain ⟨o,e,c,d⟩:=id st'
  exact ⟨u,rfl,go_of (s:={ s with heap:=h' }) e c d (by decide) ⟨x,H,I1,ru,⟨rfl,fun ys hy=>by rw [I.tuple_inj hy hq]; exact hx⟩,st',fun b hb=>(hf b hb).1⟩⟩
 done:=by
  intro X hP hw hK hc i pins s σ H E I hf st hg
  subst hP hw hK
  obtain ⟨xs,hq,hx⟩:=hg
  obtain ⟨its,rv,p,hz⟩:=I.tuple hq
  obtain ⟨f0,f1,f2,f3,f4,f5⟩:=hf it (by simp)
  have hl:=rv.length
  exact wpAny_pyNext_tuple_end (I.ok.hd hc) st (show s.heap.IsTuple a its.toArray from p) (by simp; omega) fun h' eb=>⟨rfl,I.turned (t':=s.toks) (fun b o hb e=>eb b o hb e) f0 f1 f3 f4 f5⟩
 self:=fun _ _ _ _ _ st h=>wpAny_pyIter_tupleiter st h
end L2
namespace L2
open PySem PySem.Spec PyProof.Rows
section
variable {X:Cx} {tg:Expr}
def iList (K:PySem.W.Frag) (tl:TE):TI:=fun σ H R=>tl σ H fun x H1=>∃ a,x=.ref a∧(∃ xs,SqL K H1 a xs)∧R (Itl K a) H1
def iTup (K:PySem.W.Frag) (tl:TE):TI:=fun σ H R=>tl σ H fun x H1=>∃ a,x=.ref a∧(∃ xs,SqT K H1 a xs)∧R (Itt K a) H1
theorem pi_list {l:Expr} {tl:TE} (hl:PE X l tl):PI X tg l (iList X.K tl):=by
 intro pins s σ H R I h
 refine thn (hl pins s σ H _ I h) fun v s1 ⟨x,H1,I1,r1,q1⟩=>?_
 obtain ⟨a,e,⟨xs,hq⟩,q⟩:=q1
 subst e
 cases r1
 obtain ⟨its,rv,p,hz⟩:=I1.list hq
 refine wpAny_pyIter_list p.isList ?_
 refine ⟨s1.heap.objs.size,[s1.heap.objs.size],_,_,H1,rfl,I1.kept (t':=s1.toks) fun b o e=>Heap.get?_push_of_some _ e,turn_list a _,⟨_,Heap.get?_push_size _ rfl,rfl,rfl⟩,fun b hb=>?_,q⟩
 have e:b=s1.heap.objs.size:=by simpa using hb
 subst e
 exact I1.fpOk (Nat.le_refl _) (I1.hok.fresh (Nat.le_refl _))
theorem pi_tup {l:Expr} {tl:TE} (hl:PE X l tl):PI X tg l (iTup X.K tl):=by
 intro pins s σ H R I h
 refine thn (hl pins s σ H _ I h) fun v s1 ⟨x,H1,I1,r1,q1⟩=>?_
 obtain ⟨a,e,⟨xs,hq⟩,q⟩:=q1
 subst e
 cases r1
 obtain ⟨its,rv,p,hz⟩:=I1.tuple hq
 refine wpAny_pyIter_tuple (show s1.heap.IsTuple a its.toArray from p) ?_
 refine ⟨s1.heap.objs.size,[s1.heap.objs.size],_,_,H1,rfl,I1.kept (t':=s1.toks) fun b o e=>Heap.get?_push_of_some _ e,turn_tuple a _,⟨_,Heap.get?_push_size _ rfl,rfl,rfl⟩,fun b hb=>?_,q⟩
 have e:b=s1.heap.objs.size:=by simpa using hb
 subst e
 exact I1.fpOk (Nat.le_refl _) (I1.hok.fresh (Nat.le_refl _))
def tFor (wi:TI) (g:TG) (tb:TS):TS:=fun D σ H=>wi σ H fun J H1=>∃ W:Nat→Nat→St→Hp→Prop,(∃ m,W 0 m σ H1)∧∀ i m σ H,W i m σ H →
 (J.stop i H∧D.nx σ H)∨(J.go i H∧∃ N:St→Hp→Prop,(∀ σ' H',N σ' H'→∃ m',m' < m∧W (i + 1) m' σ' H')∧∀ x H',J.yld i H x H'→g x σ H' fun σ2 H2=>tb { D with nx:=N,ct:=N,bk:=D.nx } σ2 H2)
def pinsAt (fp:List Addr) (h:Heap):List (Addr×Obj):=fp.filterMap fun b=>(h.get? b).map fun o=>(b,o)
theorem mem_pinsAt {fp:List Addr} {h:Heap} {b:Addr} {o:Obj} (hb:b∈fp) (e:h.get? b=some o):(b,o)∈pinsAt fp h:=List.mem_filterMap.mpr ⟨b,hb,by rw [e]; rfl⟩
theorem of_pinsAt {fp:List Addr} {h:Heap} {p:Addr×Obj} (hp:p∈pinsAt fp h):p.1∈fp∧h.get? p.1=some p.2:=by
 obtain ⟨b,hb,e⟩:=List.mem_filterMap.mp hp
 cases q:h.get? b with
 | none=>rw [q] at e; cases e
 | some o =>
  rw [q] at e
  have e':(b,o)=p:=Option.some.inj e
  subst e'
  exact ⟨hb,q⟩
theorem Inv.pinned {pins:List (Addr×Obj)} {σ:St} {H:Hp} {s:Shared} {fp:List Addr} (I:Inv X pins σ H s) (hf:∀ b∈fp,FpOk X pins H b) (ho:∀ b∈fp,∃ o,s.heap.get? b=some o∧∀ v,o.data ≠ .cell v):Inv X (pins++pinsAt fp s.heap) σ H s :=
 I.pins_of fun p hp=>(List.mem_append.mp hp).elim (fun z=>I.pin p (List.mem_append_right _ z)) fun z=>by
  obtain ⟨hb,e⟩:=of_pinsAt z
  obtain ⟨f0,f1,f2,_⟩:=hf p.1 hb
  obtain ⟨o,e',d⟩:=ho p.1 hb
  rw [e] at e'; cases e'
  exact ⟨e,f0,f1,f2,d⟩
theorem Inv.unpinned {pins pl:List (Addr×Obj)} {σ:St} {H:Hp} {s:Shared} (I:Inv X (pins++pl) σ H s):Inv X pins σ H s:=I.pins_of fun p hp=>I.pin p (List.mem_append_right _ (List.mem_append_left _ hp))
theorem ps_for {iter:Expr} {body:List Stmt} {wi:TI} {g:TG} {tb:TS} {pos:Pos} (hp:PassesOwn (model X.prog X.w) X.A X.env X.xe) (hc:X.calm=true) (hi:PI X tg iter wi) (hg:PG X tg g) (hb:PSs X body tb)
  (hs:∀ x,foldedSetIterable iter X.env x=pure x:=by intro _; rfl):PS X (.For tg iter body [] pos) (tFor wi g tb):=by
 intro pins s σ H D I h
 refine wpAny_For (thn (hi pins s σ H _ I h) fun v s1 h1=>thn h1 fun itv s2 h2=>?_) hs
 obtain ⟨it,fp,tn,J,H2,e,I2,T,st2,f2,W,⟨m0,w0⟩,turn⟩:=h2
 subst e
 have stat:∀ {H':Hp},(∀ b∈fp,H' b=none)→∀ b∈fp,FpOk X pins H' b:=fun hn b hb=>⟨hn b hb,(f2 b hb).2⟩
 refine codeAny_forLoop_any (fun n s'=>∃ i σ' H',Inv X pins σ' H' s'∧tn i s'.heap∧(∀ b∈fp,H' b=none)∧W i n σ' H') ?_ m0 ⟨0,σ,H2,I2,st2,fun b hb=>(f2 b hb).1,w0⟩
 rintro n s3 ⟨i,σ3,H3,I3,st3,fr3,w3⟩
 rcases turn i n σ3 H3 w3 with ⟨stop,qn⟩ | ⟨go,N,hN,step⟩
 ·refine wpAny_passesOwn hp (thn (T.done X rfl rfl rfl hc i pins s3 σ3 H3 X.xe I3 (stat fr3) st3 stop) fun r s4 ⟨hr,I4⟩=>?_)
  subst hr
  exact wpAny_execs_nil ⟨σ3,H3,I4,qn⟩
 ·refine wpAny_passesOwn hp (thn (T.item X rfl rfl rfl hc i pins s3 σ3 H3 X.xe I3 (stat fr3) st3 go) fun r s4 ⟨u,hr,h4⟩=>?_)
  subst hr
  refine wpAny_passesOwn hp (thn h4 fun _ s5 ⟨x,H5,I5,r5,y5,st5,fr5⟩=>?_)
  have I5':=I5.pinned (stat fr5) (T.obj _ _ st5)
  refine wpAny_passesOwn hp (thn (hg _ s5 σ3 H5 x u _ I5' r5 (step x H5 y5)) fun _ s6 ⟨σ6,H6,I6,q6⟩=>?_)
  refine wpAny_passesOwn hp (thn (hb _ s6 σ6 H6 _ I6 q6) fun f s7 q7=>?_)
  have again:∀ {σ7:St} {H7:Hp},Inv X (pins++pinsAt fp s5.heap) σ7 H7 s7→N σ7 H7→∃ m,m < n∧∃ i σ' H',Inv X pins σ' H' s7∧tn i s7.heap∧(∀ b∈fp,H' b=none)∧W i m σ' H':=fun {σ7 H7} I7 n7=>by
   obtain ⟨m',hm,w7⟩:=hN σ7 H7 n7
   refine ⟨m',hm,i + 1,σ7,H7,I7.unpinned,T.keep _ _ _ st5 fun b hb o e=>(I7.pin (b,o) (List.mem_append_right _ (List.mem_append_right _ (mem_pinsAt hb e)))).1,fun b hb=>?_,w7⟩
   obtain ⟨o,e,d⟩:=T.obj _ _ st5 b hb
   exact (I7.pin (b,o) (List.mem_append_right _ (List.mem_append_right _ (mem_pinsAt hb e)))).2.1
  cases f with
  | next=>obtain ⟨σ7,H7,I7,n7⟩:=q7; exact again I7 n7
  | cont=>obtain ⟨σ7,H7,I7,n7⟩:=q7; exact again I7 n7
  | brk=>obtain ⟨σ7,H7,I7,q7⟩:=q7; exact ⟨σ7,H7,I7.unpinned,q7⟩
  | ret v=>obtain ⟨x7,σ7,H7,I7,r7,q7⟩:=q7; exact ⟨x7,σ7,H7,I7.unpinned,r7,q7⟩
end
theorem for_list {K:PySem.W.Frag} {a:Addr} {xs:List V} {g:TG} {tb:TS} {D:Ends} {σ:St} {H:Hp} (Pv:Nat→St→Hp→Prop) (h0:Pv 0 σ H) (hl:∀ i σ H,i≤xs.length→Pv i σ H→SqL K H a xs)
  (hs:∀ i x σ H,xs[i]?=some x→Pv i σ H→g x σ H fun σ2 H2=>tb { D with nx:=Pv (i + 1),ct:=Pv (i + 1),bk:=D.nx } σ2 H2) (hd:∀ σ H,Pv xs.length σ H→D.nx σ H) :
  ∃ W:Nat→Nat→St→Hp→Prop,(∃ m,W 0 m σ H)∧∀ i m σ H,W i m σ H →
   ((Itl K a).stop i H∧D.nx σ H)∨((Itl K a).go i H∧∃ N:St→Hp→Prop,(∀ σ' H',N σ' H'→∃ m',m' < m∧W (i + 1) m' σ' H')∧∀ x H',(Itl K a).yld i H x H'→g x σ H' fun σ2 H2=>tb { D with nx:=N,ct:=N,bk:=D.nx } σ2 H2):=by
 refine ⟨fun i m σ H=>m=xs.length - i∧i≤xs.length∧Pv i σ H,⟨xs.length,by simp,Nat.zero_le _,h0⟩,?_⟩
 rintro i m σ H ⟨rfl,hi,p⟩
 have q:=hl i σ H hi p
 by_cases hlt:i < xs.length
 ·refine .inr ⟨⟨xs,xs[i],q,by simp [hlt]⟩,Pv (i + 1),fun σ' H' p'=>⟨xs.length - (i + 1),by omega,rfl,hlt,p'⟩,fun x H' y=>?_⟩
  obtain ⟨e,y⟩:=y
  subst e
  exact hs i x σ _ (y xs q) p
 ·have e:i=xs.length:=by omega
  subst e
  exact .inl ⟨⟨xs,q,Nat.le_refl _⟩,hd σ H p⟩
end L2
namespace L2
open PySem PySem.Spec PyProof.Rows
abbrev R2:=V→V→Hp→VK→Prop
def OpR (X:Cx) (f:Value→Value→Sem Value) (r:R2):Prop :=
 ∀ (pins:List (Addr×Obj)) (s:Shared) (σ:St) (H:Hp) (x y:V) (v u:Value) (Q:VK),Inv X pins σ H s→RelV x v→RelV y u→r x y H Q →
  wpAny (model X.prog X.w) X.A (f v u) (EP X pins σ Q) X.xe s
def UnR (X:Cx) (f:Value→Sem Value) (r:V→Hp→VK→Prop):Prop :=
 ∀ (pins:List (Addr×Obj)) (s:Shared) (σ:St) (H:Hp) (x:V) (v:Value) (Q:VK),Inv X pins σ H s→RelV x v→r x H Q →
  wpAny (model X.prog X.w) X.A (f v) (EP X pins σ Q) X.xe s
def CallR (X:Cx) (f:Value) (r:List V→Hp→VK→Prop):Prop :=
 ∀ (pins:List (Addr×Obj)) (s:Shared) (σ:St) (H:Hp) (xs:List V) (us:List Value) (Q:VK),Inv X pins σ H s→Vals xs us→r xs H Q →
  wpAny (model X.prog X.w) X.A (call f us) (EP X pins σ Q) X.xe s
def tOp (r:R2) (ta tb:TE):TE:=fun σ H Q=>ta σ H fun x H1=>tb σ H1 fun y H2=>r x y H2 Q
def tUn (r:V→Hp→VK→Prop) (ta:TE):TE:=fun σ H Q=>ta σ H fun x H1=>r x H1 Q
def rI (C:Int→Int→Prop) (g:Int→Int→V):R2:=fun x y H Q=>∃ i j,x=.int i∧y=.int j∧C i j∧Q (g i j) H
def rI0 (g:Int→Int→V):R2:=fun x y H Q=>∃ i j,x=.int i∧y=.int j∧Q (g i j) H
def rU (g:Int→V):V→Hp→VK→Prop:=fun x H Q=>∃ i,x=.int i∧Q (g i) H
section
variable {X:Cx} {a b c:Expr} {ta tb tc:TE} {pos:Pos}
theorem binT (ha:PE X a ta) (hb:PE X b tb) {pins:List (Addr×Obj)} {s:Shared} {σ:St} {H:Hp} {R:V→V→Hp→Prop} (I:Inv X pins σ H s)
  (h:ta σ H fun x H1=>tb σ H1 fun y H2=>R x y H2) {Q:Value→Shared→Prop} {f:Value→Value→Sem Value}
  (hf:∀ v u s2 x y H2,Inv X pins σ H2 s2→RelV x v→RelV y u→R x y H2→wpAny (model X.prog X.w) X.A (f v u) Q X.xe s2) :
  wpAny (model X.prog X.w) X.A (eval a X.env) (fun v s₁=>wpAny (model X.prog X.w) X.A (eval b X.env) (fun u s₂=>wpAny (model X.prog X.w) X.A (f v u) Q X.xe s₂) X.xe s₁) X.xe s:=by
 refine thn (ha pins s σ H _ I h) fun v s1 ⟨x,H1,I1,r1,q1⟩=>?_
 refine thn (hb pins s1 σ H1 _ I1 q1) fun u s2 ⟨y,H2,I2,r2,q2⟩=>?_
 exact hf v u s2 x y H2 I2 r1 r2 q2
theorem pe_op {op:Operator} {r:R2} (ho:OpR X (binaryOp op) r) (ha:PE X a ta) (hb:PE X b tb):PE X (.BinOp a op b pos) (tOp r ta tb):=by
 intro pins s σ H Q I h
 exact wpAny_BinOp (binT ha hb I h fun v u s2 x y H2 I2 rx ry q=>ho pins s2 σ H2 x y v u Q I2 rx ry q)
theorem pe_un {op:UnaryOp} {r:V→Hp→VK→Prop} (ho:UnR X (unaryOp op) r) (ha:PE X a ta):PE X (.UnaryOp op a pos) (tUn r ta):=by
 intro pins s σ H Q I h
 exact UnaryOp_ (thn (ha pins s σ H _ I h) fun v s1 ⟨x,H1,I1,r1,q1⟩=>ho pins s1 σ H1 x v Q I1 r1 q1)
theorem opI {f:Value→Value→Sem Value} {C:Int→Int→Prop} {g:Int→Int→Int}
  (rule:∀ (i j:Int) (t u:Tok) (s:Shared) (Q:Value→Shared→Prop) (E:Value→Shared→Prop),C i j→Q (.int (g i j) s.toks) { s with toks:=s.toks + 1 }→wpAny (model X.prog X.w) X.A (f (.int i t) (.int j u)) Q E s) :
  OpR X f (rI C fun i j=>.int (g i j)):=by
 intro pins s σ H x y v u Q I rx ry h
 obtain ⟨i,j,rfl,rfl,hc,q⟩:=h
 obtain ⟨t,rfl⟩:=rx
 obtain ⟨t',rfl⟩:=ry
 exact rule i j t t' s _ _ hc ⟨.int (g i j),H,I.tok _,⟨_,rfl⟩,q⟩
theorem opI0 {f:Value→Value→Sem Value} {g:Int→Int→Int}
  (rule:∀ (i j:Int) (t u:Tok) (s:Shared) (Q:Value→Shared→Prop) (E:Value→Shared→Prop),Q (.int (g i j) s.toks) { s with toks:=s.toks + 1 }→wpAny (model X.prog X.w) X.A (f (.int i t) (.int j u)) Q E s) :
  OpR X f (rI0 fun i j=>.int (g i j)):=by
 intro pins s σ H x y v u Q I rx ry h
 obtain ⟨i,j,rfl,rfl,q⟩:=h
 obtain ⟨t,rfl⟩:=rx
 obtain ⟨t',rfl⟩:=ry
 exact rule i j t t' s _ _ ⟨.int (g i j),H,I.tok _,⟨_,rfl⟩,q⟩
theorem opB0 {f:Value→Value→Sem Value} {g:Int→Int→Bool}
  (rule:∀ (i j:Int) (t u:Tok) (s:Shared) (Q:Value→Shared→Prop) (E:Value→Shared→Prop),Q (.bool (g i j)) s→wpAny (model X.prog X.w) X.A (f (.int i t) (.int j u)) Q E s) :
  OpR X f (rI0 fun i j=>.bl (g i j)):=by
 intro pins s σ H x y v u Q I rx ry h
 obtain ⟨i,j,rfl,rfl,q⟩:=h
 obtain ⟨t,rfl⟩:=rx
 obtain ⟨t',rfl⟩:=ry
 exact rule i j t t' s _ _ ⟨.bl (g i j),H,I,rfl,q⟩
def CDiv (i j:Int):Prop:=0 < j∧j < 1073741824
theorem op_add:OpR X (binaryOp .Add) (rI0 fun i j=>.int (i + j)):=opI0 fun _ _ _ _ _ _ _ q=>add_int q
theorem op_sub:OpR X (binaryOp .Sub) (rI0 fun i j=>.int (i - j)):=opI0 fun _ _ _ _ _ _ _ q=>sub_int q
theorem op_fdiv:OpR X (binaryOp .FloorDiv) (rI CDiv fun i j=>.int (i / j)):=opI fun i j _ _ _ _ _ hc q=>by
 have h1:(0:Int) < j:=hc.1
 have h2:j < 1073741824:=hc.2
 exact floordiv_int (by omega) (by rw [Int.fdiv_eq_ediv_of_nonneg i (by omega)]; exact q) (.inl (PyProof.noPylong_small (by omega)))
theorem op_mod:OpR X (binaryOp .Mod) (rI (fun _ j=>0 < j) fun i j=>.int (i % j)):=opI fun i j _ _ _ _ _ hc q=>by
 have h1:(0:Int) < j:=hc
 exact mod_int' (by omega) (by rw [Int.fmod_eq_emod_of_nonneg i (by omega)]; exact q)
theorem unI {f:Value→Sem Value} {g:Int→Int}
  (rule:∀ (i:Int) (t:Tok) (s:Shared) (Q:Value→Shared→Prop) (E:Value→Shared→Prop),Q (.int (g i) s.toks) { s with toks:=s.toks + 1 }→wpAny (model X.prog X.w) X.A (f (.int i t)) Q E s) :
  UnR X f (rU fun i=>.int (g i)):=by
 intro pins s σ H x v Q I rx h
 obtain ⟨i,rfl,q⟩:=h
 obtain ⟨t,rfl⟩:=rx
 exact rule i t s _ _ ⟨.int (g i),H,I.tok _,⟨_,rfl⟩,q⟩
theorem un_neg:UnR X (unaryOp .USub) (rU fun i=>.int (-i)):=unI fun _ _ _ _ _ q=>neg_int q
end
def scal:V→V→Bool
 | .non,.non=>true | .non,.int _=>true | .int _,.non=>true | .non,.bl _=>true | .bl _,.non=>true | .non,.str _=>true | .str _,.non=>true
 | .int _,.int _=>true | .bl _,.bl _=>true | .str _,.str _=>true | .byt _,.byt _=>true
 | .int _,.str _=>true | .str _,.int _=>true | .bl _,.str _=>true | .str _,.bl _=>true
 | _,_=>false
def rEq:R2:=fun x y H Q=>scal x y=true∧Q (.bl (decide (x=y))) H
def rNe:R2:=fun x y H Q=>scal x y=true∧Q (.bl (!decide (x=y))) H
theorem dec_int {i j:Int}:decide (V.int i=V.int j)=(i == j):=by
 rw [Bool.eq_iff_iff]
 simp
theorem dec_bl {i j:Bool}:decide (V.bl i=V.bl j)=(i == j):=by
 rw [Bool.eq_iff_iff]
 simp
theorem dec_str {i j:Str}:decide (V.str i=V.str j)=(i == j):=by
 rw [Bool.eq_iff_iff]
 simp
theorem dec_byt {i j:Array UInt8}:decide (V.byt i=V.byt j)=(i.toList == j.toList):=by
 rw [Bool.eq_iff_iff]
 cases i
 cases j
 simp
section
variable {X:Cx} {a b c:Expr} {ta tb tc:TE} {pos:Pos}
theorem fin_bl {pins:List (Addr×Obj)} {σ:St} {H:Hp} {s:Shared} {Q:VK} {k k':Bool} (I:Inv X pins σ H s) (q:Q (.bl k) H) (e:k=k'):EP X pins σ Q (.bool k') s:=by
 subst e
 exact ⟨.bl k,H,I,rfl,q⟩
theorem op_eq:OpR X (compareOp .Eq) rEq:=by
 intro pins s σ H x y v u Q I rx ry h
 obtain ⟨hs,q⟩:=h
 cases x with
 | non =>
  cases rx
  cases y with
  | non=>cases ry; exact PySem.EqNone.eq_none_none (fin_bl I q (by simp))
  | bl j=>cases ry; exact PySem.EqNone.eq_none_bool (fin_bl I q (by simp))
  | int j=>obtain ⟨t',rfl⟩:=ry; exact PySem.EqNone.eq_none_int (fin_bl I q (by simp))
  | str j=>obtain ⟨t',rfl⟩:=ry; exact PySem.EqNone.eq_none_str (fin_bl I q (by simp))
  | _=>exact absurd (show false=true from hs) Bool.false_ne_true
 | bl i =>
  cases rx
  cases y with
  | non=>cases ry; exact PySem.EqNone.eq_bool_none (fin_bl I q (by simp))
  | bl j=>cases ry; exact eq_bool (fin_bl I q dec_bl)
  | str j=>obtain ⟨t',rfl⟩:=ry; exact PySem.EqMixed.eq_bool_str (fin_bl I q (by simp))
  | _=>exact absurd (show false=true from hs) Bool.false_ne_true
 | int i =>
  obtain ⟨t,rfl⟩:=rx
  cases y with
  | non=>cases ry; exact PySem.EqNone.eq_int_none (fin_bl I q (by simp))
  | int j=>obtain ⟨t',rfl⟩:=ry; exact eq_int (fin_bl I q dec_int)
  | str j=>obtain ⟨t',rfl⟩:=ry; exact PySem.EqMixed.eq_int_str (fin_bl I q (by simp))
  | _=>exact absurd (show false=true from hs) Bool.false_ne_true
 | str i =>
  obtain ⟨t,rfl⟩:=rx
  cases y with
  | non=>cases ry; exact PySem.EqNone.eq_str_none (fin_bl I q (by simp))
  | bl j=>cases ry; exact PySem.EqMixed.eq_str_bool (fin_bl I q (by simp))
  | int j=>obtain ⟨t',rfl⟩:=ry; exact PySem.EqMixed.eq_str_int (fin_bl I q (by simp))
  | str j=>obtain ⟨t',rfl⟩:=ry; exact eq_str (fin_bl I q dec_str)
  | _=>exact absurd (show false=true from hs) Bool.false_ne_true
 | byt i =>
  obtain ⟨t,rfl⟩:=rx
  cases y with
  | byt j=>obtain ⟨t',rfl⟩:=ry; exact PySem.W.eq_bytes (fin_bl I q dec_byt)
  | _=>exact absurd (show false=true from hs) Bool.false_ne_true
 | _=>cases y <;> exact absurd (show false=true from hs) Bool.false_ne_true
theorem op_ne:OpR X (compareOp .NotEq) rNe:=by
 intro pins s σ H x y v u Q I rx ry h
 obtain ⟨hs,q⟩:=h
 cases x with
 | non =>
  cases rx
  cases y with
  | non=>cases ry; exact PySem.EqNone.ne_none_none (fin_bl I q (by simp))
  | bl j=>cases ry; exact PySem.EqNone.ne_none_bool (fin_bl I q (by simp))
  | int j=>obtain ⟨t',rfl⟩:=ry; exact PySem.EqNone.ne_none_int (fin_bl I q (by simp))
  | str j=>obtain ⟨t',rfl⟩:=ry; exact PySem.EqNone.ne_none_str (fin_bl I q (by simp))
  | _=>exact absurd (show false=true from hs) Bool.false_ne_true
 | bl i =>
  cases rx
  cases y with
  | non=>cases ry; exact PySem.EqNone.ne_bool_none (fin_bl I q (by simp))
  | bl j=>cases ry; exact ne_bool (fin_bl I q (congrArg not dec_bl))
  | str j=>obtain ⟨t',rfl⟩:=ry; exact PySem.EqMixed.ne_bool_str (fin_bl I q (by simp))
  | _=>exact absurd (show false=true from hs) Bool.false_ne_true
 | int i =>
  obtain ⟨t,rfl⟩:=rx
  cases y with
  | non=>cases ry; exact PySem.EqNone.ne_int_none (fin_bl I q (by simp))
  | int j=>obtain ⟨t',rfl⟩:=ry; exact ne_int (fin_bl I q (congrArg not dec_int))
  | str j=>obtain ⟨t',rfl⟩:=ry; exact PySem.EqMixed.ne_int_str (fin_bl I q (by simp))
  | _=>exact absurd (show false=true from hs) Bool.false_ne_true
 | str i =>
  obtain ⟨t,rfl⟩:=rx
  cases y with
  | non=>cases ry; exact PySem.EqNone.ne_str_none (fin_bl I q (by simp))
  | bl j=>cases ry; exact PySem.EqMixed.ne_str_bool (fin_bl I q (by simp))
  | int j=>obtain ⟨t',rfl⟩:=ry; exact PySem.EqMixed.ne_str_int (fin_bl I q (by simp))
  | str j=>obtain ⟨t',rfl⟩:=ry; exact ne_str (fin_bl I q (congrArg not dec_str))
  | _=>exact absurd (show false=true from hs) Bool.false_ne_true
 | byt i =>
  obtain ⟨t,rfl⟩:=rx
  cases y with
  | byt j=>obtain ⟨t',rfl⟩:=ry; exact PySem.W.ne_bytes (fin_bl I q (congrArg not dec_byt))
  | _=>exact absurd (show false=true from hs) Bool.false_ne_true
 | _=>cases y <;> exact absurd (show false=true from hs) Bool.false_ne_true
theorem op_lt:OpR X (compareOp .Lt) (rI0 fun i j=>.bl (decide (i < j))):=opB0 fun _ _ _ _ _ _ _ q=>lt_int q
theorem op_le:OpR X (compareOp .LtE) (rI0 fun i j=>.bl (decide (i≤j))):=opB0 fun _ _ _ _ _ _ _ q=>le_int q
theorem op_gt:OpR X (compareOp .Gt) (rI0 fun i j=>.bl (decide (j < i))):=opB0 fun _ _ _ _ _ _ _ q=>gt_int q
theorem nomark (b:Expr) {op:CmpOp} (h:op ≠ .In:=by decide) (h2:op ≠ .NotIn:=by decide):behindInMarks op b=false:=by
 have e1:(op == CmpOp.In)=false:=by cases op <;> first | rfl | exact absurd rfl h
 have e2:(op == CmpOp.NotIn)=false:=by cases op <;> first | rfl | exact absurd rfl h2
 cases b <;> simp [behindInMarks,e1,e2]
theorem pe_cmpR {op:CmpOp} {r:R2} (ho:OpR X (compareOp op) r) (ha:PE X a ta) (hb:PE X b tb) (hm:behindInMarks op b=false):PE X (.Compare a [op] [b] pos) (tOp r ta tb):=by
 intro pins s σ H Q I h
 exact wpAny_Compare1 (binT ha hb I h fun v u s2 x y H2 I2 rx ry q=>ho pins s2 σ H2 x y v u Q I2 rx ry q) hm
def tTest (t:TE):TT:=fun σ H Q=>t σ H fun x H'=>∃ k,x=.bl k∧Q k H'
theorem pt_cmpR {op:CmpOp} {r:R2} (ho:OpR X (compareOp op) r) (ha:PE X a ta) (hb:PE X b tb) (hm:behindInMarks op b=false):PT X (.Compare a [op] [b] pos) (tTest (tOp r ta tb)):=by
 intro pins s σ H Q I h
 refine wpAny_isTrue_Compare1 (thn (ha pins s σ H _ I h) fun v s1 ⟨x,H1,I1,r1,q1⟩=>thn (hb pins s1 σ H1 _ I1 q1) fun u s2 ⟨y,H2,I2,r2,q2⟩ =>
  thn (ho pins s2 σ H2 x y v u _ I2 r1 r2 q2) fun c s3 ⟨z,H3,I3,r3,k,e,q3⟩=>?_) hm
 subst e
 cases r3
 exact wpAny_truthy_bool ⟨H3,I3,q3⟩
def tChain (r r':R2) (ta tb tc:TE):TE:=fun σ H Q=>ta σ H fun x H1=>tb σ H1 fun y H2=>r x y H2 fun z H3=>∃ k,z=.bl k ∧
 (if k=true then tc σ H3 fun w' H4=>r' y w' H4 Q else Q (.bl false) H3)
theorem pe_chain {op op':CmpOp} {r r':R2} (ho:OpR X (compareOp op) r) (ho':OpR X (compareOp op') r') (ha:PE X a ta) (hb:PE X b tb) (hc:PE X c tc)
  (hm:lastMarks [op,op'] [b,c]=false:=by with_unfolding_all rfl):PE X (.Compare a [op,op'] [b,c] pos) (tChain r r' ta tb tc):=by
 intro pins s σ H Q I h
 refine Compare_chain (thn (ha pins s σ H _ I h) fun v s1 ⟨x,H1,I1,r1,q1⟩=>chain_link (thn (hb pins s1 σ H1 _ I1 q1) fun u s2 ⟨y,H2,I2,r2,q2⟩ =>
  thn (ho pins s2 σ H2 x y v u _ I2 r1 r2 q2) fun d s3 ⟨z,H3,I3,r3,k,e,q3⟩=>?_)) hm
 subst e
 cases r3
 refine wpAny_truthy_bool ?_
 cases k with
 | false=>exact ite_ff ⟨.bl false,H3,I3,rfl,q3⟩
 | true=>exact ite_tt (chain_last (thn (hc pins s3 σ H3 _ I3 q3) fun w' s4 ⟨z',H4,I4,r4,q4⟩=>ho' pins s4 σ H4 y z' u w' Q I4 r2 r4 q4))
theorem pt_chain {op op':CmpOp} {r r':R2} (ho:OpR X (compareOp op) r) (ho':OpR X (compareOp op') r') (ha:PE X a ta) (hb:PE X b tb) (hc:PE X c tc)
  (hm:lastMarks [op,op'] [b,c]=false:=by with_unfolding_all rfl):PT X (.Compare a [op,op'] [b,c] pos) (tTest (tChain r r' ta tb tc)):=by
 intro pins s σ H Q I h
 refine isTrue_chain (thn (ha pins s σ H _ I h) fun v s1 ⟨x,H1,I1,r1,q1⟩=>test_link (thn (hb pins s1 σ H1 _ I1 q1) fun u s2 ⟨y,H2,I2,r2,q2⟩ =>
  thn (ho pins s2 σ H2 x y v u _ I2 r1 r2 q2) fun d s3 ⟨z,H3,I3,r3,k,e,q3⟩=>?_)) hm
 subst e
 cases r3
 refine wpAny_truthy_bool ?_
 cases k with
 | false =>
  obtain ⟨k',e',q'⟩:=q3
  cases e'
  exact ite_ff ⟨H3,I3,q'⟩
 | true =>
  refine ite_tt (test_last (thn (hc pins s3 σ H3 _ I3 q3) fun w' s4 ⟨z',H4,I4,r4,q4⟩=>thn (ho' pins s4 σ H4 y z' u w' _ I4 r2 r4 q4) fun d' s5 ⟨z2,H5,I5,r5,k2,e2,q5⟩=>?_))
  subst e2
  cases r5
  exact wpAny_truthy_bool ⟨H5,I5,q5⟩
theorem line63:(sizeLine:Nat) < 2 ^ 63:=by rw [sizeLine_eq]; decide
theorem vals1 {x:V} {us:List Value} (r:Vals [x] us):∃ u,us=[u]∧RelV x u:=by
 cases r with
 | cons r1 r2=>cases r2; exact ⟨_,rfl,r1⟩
theorem vals2 {x y:V} {us:List Value} (r:Vals [x,y] us):∃ u w',us=[u,w']∧RelV x u∧RelV y w':=by
 cases r with
 | cons r1 r2 =>
  cases r2 with
  | cons r3 r4=>cases r4; exact ⟨_,_,rfl,r1,r3⟩
theorem call_max2 (hc:X.calm=true):CallR X (.builtin "max") (fun xs H Q=>∃ i j,xs=[.int i,.int j]∧Q (.int (if j > i then j else i)) H):=by
 intro pins s σ H xs us Q I r h
 obtain ⟨i,j,rfl,q⟩:=h
 obtain ⟨u,w',rfl,⟨t,rfl⟩,⟨t',rfl⟩⟩:=vals2 r
 refine max_two_ints (I.ok.hd hc) fun h' tk k=>⟨_,H,I.kept k,?_,q⟩
 by_cases hj:j > i
 ·rw [if_pos hj,if_pos hj]; exact ⟨_,rfl⟩
 ·rw [if_neg hj,if_neg hj]; exact ⟨_,rfl⟩
end
end L2
namespace L2
open PySem PySem.Spec PyProof.Rows
structure ObjM (h:Heap) (x dx C:Addr) (mA:Str→Option Value):Prop where
 obj:h.get? x=some (PySem.W.instObj C dx)
 ns:h.Ns1 dx mA
 ne:dx≠x
theorem lookIn_ns {h:Heap} {dx:Addr} {mA:Str→Option Value} (n:h.Ns1 dx mA):∃ od,h.get? dx=some od∧∀ name,PySem.W.lookIn name od=some (mA name):=by
 obtain ⟨o,es,ep,ho,hd,hk,_,hm⟩:=n
 refine ⟨o,ho,fun name=>?_⟩
 have e:=hm name
 unfold nsFind findBy at e
 rw [← Array.find?_toList] at e
 unfold PySem.W.lookIn
 rw [hd]
 dsimp only
 split
 ·rename_i y q
  rw [q] at e
  exact congrArg some e
 ·rename_i q
  rw [q] at e
  have a:es.toList.any (·.refKey)=false:=by
   rw [List.any_eq_false]
   intro y hy
   obtain ⟨z,t,hkey⟩:=hk y (Array.mem_toList_iff.mp hy)
   simp [DictEntry.refKey,hkey]
  have a':¬ es.toList.any (·.refKey)=true:=by rw [a]; exact Bool.false_ne_true
  rw [if_neg a']
  exact congrArg some e
theorem ObjM.look {h:Heap} {x dx C:Addr} {mA:Str→Option Value} (I:ObjM h x dx C mA):∃ od,PySem.W.InstAt h x (PySem.W.instObj C dx) C (some od)∧∀ name,PySem.W.lookIn name od=some (mA name) :=
 let ⟨od,ho,hl⟩:=lookIn_ns I.ns
 ⟨od,⟨I.obj,rfl,rfl,ho⟩,hl⟩
section
variable {prog:Program} {w:World} {A:Around} {E:Value→Shared→Prop} {s:Shared} {K:PySem.W.Frag} {x dx C f:Addr} {mA:Str→Option Value} {name:Str} {v:Value}
theorem get_map {expr:Bool} {Q:Value→Shared→Prop} (X:K.In s.heap) (I:ObjM s.heap x dx C mA) (hg:PySem.W.plainGet K C name=true) (hh:PySem.W.hasDictIn K C=true)
  (ha:PySem.W.findIn K (.ref C) name=some none) (hv:mA name=some v) (hv':PySem.W.handedIn v=true) (h:Q v { s with toks:=s.toks + 1 }) :
  wpAny (model prog w) A (getAttr (.ref x) name expr) Q E s:=by
 obtain ⟨od,J,hl⟩:=I.look
 exact PySem.W.get_value X J (PySem.W.plainGet_of hg).1 (PySem.W.findObj_own hh ha rfl (by rw [hl,hv])) hv' h
theorem set_map {ns:List Str} {Q:Unit→Shared→Prop} (X:K.In s.heap) (I:ObjM s.heap x dx C mA)
  (hs:PySem.W.findIn K (.ref C) "__setattr__"=some (some (.builtin "object.__setattr__"))) (hp:PySem.W.plainOver K C=true) (ht:PySem.W.takerIn K C name=some none) (hh:PySem.W.hasDictIn K C=true)
  (hw:PySem.Within mA ns) (hsz:ns.length≤sizeLine)
  (h:∀ h',ObjM h' x dx C (fun y=>if y=name then some v else mA y)→Heap.SameBut dx s.heap h'→Q () { s with heap:=h',toks:=s.toks + 2 }) :
  wpAny (model prog w) A (setAttr (.ref x) name v) Q E s:=by
 obtain ⟨od,J,hl⟩:=I.look
 refine PySem.W.set_plain X J hs (PySem.W.osa_open (s:={ s with toks:=s.toks + 1 }) (r:=none) X J hp ht fun b=>?_)
 obtain ⟨cd,hc,hd'⟩:=PySem.W.any_some hh
 have hx:s.heap.get? x=some ⟨.ref C,some dx,.plain,#[]⟩:=I.obj
 refine wpAny_bind (wpAny_pure (wpAny_bind (wpAny_bind (wpAny_loadPart hx (wpAny_bind (PySem.W.Looks.here (s:={ s with toks:=s.toks + 1 }) (PySem.W.looks_clsIn X hc) ?_))))))
 rw [hd']
 refine wpAny_pure (a:=some dx) (wpAny_bind (wpAny_pure (wpAny_bind ?_)))
 refine wpAny_nsSet1 (s:={ s with toks:=s.toks + 1 }) I.ns fun h' hn2 hs2=>?_
 obtain ⟨oD,esD,epD,hoD,hdD,hcD⟩:=hn2.count (PySem.Within.cons name v hw)
 refine wpAny_bind (wpAny_lookBehind hoD (by rw [hdD]; exact pastItsLine_dict (Nat.le_trans hcD (by rw [List.length_cons]; omega))) ?_)
 exact wpAny_pure (h _ ⟨(hs2.2 _ (Ne.symm I.ne)).trans I.obj,hn2,I.ne⟩ hs2)
theorem make_map {R:Result→Shared→Prop} {vs:List Value} {kw:List (Str×Value)} (X:K.In s.heap) (hm:PySem.W.makesIn K C=true)
  (hi:PySem.W.findIn K (.ref C) "__init__"=some (some (.ref f))) (hf:PySem.W.typeIn K (.ref f)=some (.type "function"))
  (h:codeAny (model prog w) (A.under (.builtin "type.__call__" ⟨.ref C::vs,kw⟩)) (.call (.ref f) ⟨.ref (s.heap.objs.size + 1)::vs,kw⟩) (PySem.W.InitBack (s.heap.objs.size + 1) R)
   { s with heap:=(s.heap.push PySem.W.emptyDict).push (PySem.W.instObj C s.heap.objs.size) }) :
  codeAny (model prog w) A (.call (.ref C) ⟨vs,kw⟩) R s:=by
 obtain ⟨hh,g,d,t,os⟩:=s
 exact PySem.W.make_core (PySem.W.makes_of X hm) (PySem.W.looks_findIn X hi) (fun self=>PySem.W.bind_fn X self hf) (.inl rfl) h
end
def putF (f:Str) (v:V):List (Str×V)→List (Str×V)
 | []=>[(f,v)]
 | (g,x)::r=>if g=f then (g,v)::r else (g,x)::putF f v r
theorem lookup_putF (f g:Str) (v:V):∀ fs:List (Str×V),(putF f v fs).lookup g=if g=f then some v else fs.lookup g
 | []=>by
  show List.lookup g [(f,v)]=_
  by_cases h:g=f
  ·have hb:(g == f)=true:=beq_iff_eq.mpr h
   simp only [List.lookup,hb,if_pos h]
  ·have hb:(g == f)=false:=beq_eq_false_iff_ne.mpr h
   simp only [List.lookup,hb,if_neg h]
 | (k,x)::r=>by
  have ih:=lookup_putF f g v r
  rw [show putF f v ((k,x)::r)=(if k=f then (k,v)::r else (k,x)::putF f v r) from rfl]
  by_cases hk:k=f
  ·rw [if_pos hk]
   by_cases h:g=k
   ·have hb:(g == k)=true:=beq_iff_eq.mpr h
    simp only [List.lookup,hb,if_pos (h.trans hk)]
   ·have hb:(g == k)=false:=beq_eq_false_iff_ne.mpr h
    simp only [List.lookup,hb,if_neg (fun e:g=f=>h (e.trans hk.symm))]
  ·rw [if_neg hk]
   by_cases h:g=k
   ·have hb:(g == k)=true:=beq_iff_eq.mpr h
    simp only [List.lookup,hb,if_neg (fun e:g=f=>hk (h.symm.trans e))]
   ·have hb:(g == k)=false:=beq_eq_false_iff_ne.mpr h
    simp only [List.lookup,hb]
    exact ih
theorem keys_putF (f:Str) (v:V):∀ fs:List (Str×V),f∈(putF f v fs).map (·.1)∧∀ g,g∈fs.map (·.1)→g∈(putF f v fs).map (·.1)
 | []=>⟨by simp [putF],fun g h=>by simp at h⟩
 | (k,x)::r=>by
  obtain ⟨i1,i2⟩:=keys_putF f v r
  rw [show putF f v ((k,x)::r)=(if k=f then (k,v)::r else (k,x)::putF f v r) from rfl]
  by_cases hk:k=f
  ·rw [if_pos hk]
   subst hk
   exact ⟨by simp,fun g h=>by simpa using h⟩
  ·rw [if_neg hk]
   refine ⟨?_,fun g h=>?_⟩
   ·rw [List.map_cons]
    exact List.mem_cons_of_mem _ i1
   ·rw [List.map_cons] at h ⊢
    rcases List.mem_cons.mp h with e | e
    ·exact List.mem_cons.mpr (.inl e)
    ·exact List.mem_cons_of_mem _ (i2 g e)
theorem length_putF (f:Str) (v:V):∀ fs:List (Str×V),(putF f v fs).length≤fs.length + 1
 | []=>by simp [putF]
 | (k,x)::r=>by
  have ih:=length_putF f v r
  rw [show putF f v ((k,x)::r)=(if k=f then (k,v)::r else (k,x)::putF f v r) from rfl]
  by_cases hk:k=f
  ·rw [if_pos hk,List.length_cons,List.length_cons]; omega
  ·rw [if_neg hk,List.length_cons,List.length_cons]; omega
theorem RelO.some_of {v:V} {o:Option Value} (r:RelO (some v) o):∃ u,o=some u∧RelV v u:=by
 cases o with
 | none=>exact (show False from r).elim
 | some u=>exact ⟨u,rfl,r⟩
theorem handed_of {v:V} {u:Value} (r:RelV v u):PySem.W.handedIn u=true:=by
 cases v with
 | non=>cases (show u=Value.none from r); rfl
 | bl b=>cases (show u=Value.bool b from r); rfl
 | int i=>obtain ⟨t,e⟩:=(show ∃ t,u=Value.int i t from r); cases e; rfl
 | str x=>obtain ⟨t,e⟩:=(show ∃ t,u=Value.str x t from r); cases e; rfl
 | byt b=>obtain ⟨t,e⟩:=(show ∃ t,u=Value.bytes b t from r); cases e; rfl
 | flt b=>obtain ⟨t,e⟩:=(show ∃ t,u=Value.float b t from r); cases e; rfl
 | ref a=>cases (show u=Value.ref a from r); rfl
 | ty n=>cases (show u=Value.type n from r); rfl
section
variable {P:Program} {w:World} {H H':Hp} {h h':Heap} {a C dx:Addr} {fs fs':List (Str×V)}
theorem ins_get (hok:HOk P w H h) (e:H a=some (.ins C dx fs)):∃ mA,ObjM h a dx C mA∧(∀ f,RelO (fs.lookup f) (mA f))∧PySem.Within mA (fs.map (·.1))∧fs.length≤1000∧H dx=some (.own a):=by
 obtain ⟨d,z,ne,ob,mA,n,r,q⟩:=(show ObjOk P w H h a (.ins C dx fs) from hok a _ e)
 exact ⟨mA,⟨ob,n,ne⟩,r,q,z,d⟩
end
structure Cls (K:PySem.W.Frag) (C:Addr):Prop where
 pg:PySem.W.plainGet K C Str.empty=true
 hd:PySem.W.hasDictIn K C=true
 po:PySem.W.plainOver K C=true
 sa:PySem.W.findIn K (.ref C) "__setattr__"=some (some (.builtin "object.__setattr__"))
theorem Cls.get {K:PySem.W.Frag} {C:Addr} (c:Cls K C) (f:Str):PySem.W.plainGet K C f=true:=c.pg
def NoAttr (K:PySem.W.Frag) (C:Addr) (f:Str):Prop:=PySem.W.findIn K (.ref C) f=some none
theorem NoAttr.taker {K:PySem.W.Frag} {C:Addr} {f:Str} (n:NoAttr K C f):PySem.W.takerIn K C f=some none:=by
 unfold PySem.W.takerIn
 rw [show PySem.W.findIn K (.ref C) f=some none from n]
 rfl
section
variable {X:Cx} {pins:List (Addr×Obj)} {σ:St} {H:Hp} {s:Shared} {a C dx:Addr} {fs:List (Str×V)} {f:Str} {v:V} {A:Around} {E:Value→Shared→Prop}
theorem getattr_ok {b:Bool} {Q:Value→Shared→Prop} (I:Inv X pins σ H s) (e:H a=some (.ins C dx fs)) (c:Cls X.K C) (n:NoAttr X.K C f) (l:fs.lookup f=some v)
  (h:∀ u s',Inv X pins σ H s'→RelV v u→Q u s'):wpAny (model X.prog X.w) A (getAttr (.ref a) f b) Q E s:=by
 obtain ⟨mA,O,r,_,_,_⟩:=ins_get I.hok e
 obtain ⟨u,hu,ru⟩:=RelO.some_of (v:=v) (o:=mA f) (by rw [← l]; exact r f)
 exact get_map I.kIn O (c.get f) c.hd n hu (handed_of ru) (h u _ (I.tok _) ru)
theorem setattr_ok {y:V} {u:Value} {Q:Unit→Shared→Prop} (I:Inv X pins σ H s) (e:H a=some (.ins C dx fs)) (c:Cls X.K C) (n:NoAttr X.K C f) (hl:fs.length < 1000) (ry:RelV y u)
  (h:∀ s',Inv X pins σ (upd H a (.ins C dx (putF f y fs))) s'→Q () s'):wpAny (model X.prog X.w) A (setAttr (.ref a) f u) Q E s:=by
 obtain ⟨mA,O,r,wi,_,ho⟩:=ins_get I.hok e
 have hz:(fs.map (·.1)).length≤sizeLine:=by rw [List.length_map,sizeLine_eq]; omega
 refine set_map I.kIn O c.sa c.po n.taker c.hd wi hz fun h' O' sb=>h _ ?_
 have hd:∃ o,h'.get? dx=some o:=let ⟨o,_,_,e',_⟩:=O'.ns; ⟨o,e'⟩
 refine I.write (x:=a) (e:=dx) (by rw [e]; exact True.intro) (.inr ho) (fun b q hb z=>(sb.2 b hb).trans z) hd ?_
 refine ⟨by rw [upd_ne O.ne]; exact ho,?_,O.ne,O'.obj,_,O'.ns,fun g=>?_,fun g hg=>?_⟩
 ·have:=length_putF f y fs; omega
 ·show RelO ((putF f y fs).lookup g) (if g=f then some u else mA g)
  rw [lookup_putF]
  by_cases q:g=f
  ·rw [if_pos q,if_pos q]; exact ry
  ·rw [if_neg q,if_neg q]; exact r g
 ·by_cases q:g=f
  ·rw [q]; exact (keys_putF f y fs).1
  ·refine (keys_putF f y fs).2 g (wi g fun z=>hg ?_)
   show (if g=f then some u else mA g)=none
   rw [if_neg q]; exact z
theorem Inv.made (I:Inv X pins σ H s):Inv X pins σ (upd (upd H s.heap.objs.size (.own (s.heap.objs.size + 1))) (s.heap.objs.size + 1) (.ins C s.heap.objs.size []))
  { s with heap:=(s.heap.push PySem.W.emptyDict).push (PySem.W.instObj C s.heap.objs.size) }:=by
 have e1:(s.heap.push PySem.W.emptyDict).get? s.heap.objs.size=some PySem.W.emptyDict:=Heap.get?_push_size s.heap rfl
 have e2:((s.heap.push PySem.W.emptyDict).push (PySem.W.instObj C s.heap.objs.size)).get? (s.heap.objs.size + 1)=some (PySem.W.instObj C s.heap.objs.size):=by
  have:=Heap.get?_push_size (s.heap.push PySem.W.emptyDict) (o:=PySem.W.instObj C s.heap.objs.size) rfl
  rwa [Heap.size_push] at this
 have e3:(s.heap.push PySem.W.emptyDict).Ns s.heap.objs.size (fun _=>none):=⟨PySem.W.emptyDict,#[],_,e1,rfl,(fun e he=>absurd he (by simp)),fun _=>rfl⟩
 have I1:=I.laid (a:=s.heap.objs.size) (o:=.own (s.heap.objs.size + 1)) (h':=s.heap.push PySem.W.emptyDict) (t':=s.toks) (fun b u q=>Heap.get?_push_of_some _ q) (Nat.le_refl _) ⟨_,e1⟩
 refine I1.laid (a:=s.heap.objs.size + 1) (o:=.ins C s.heap.objs.size []) (t':=s.toks) (fun b u q=>Heap.get?_push_of_some _ q) (Nat.le_of_eq (Heap.size_push _ _)) ?_
 have ne:s.heap.objs.size≠s.heap.objs.size + 1:=Nat.ne_of_lt (Nat.lt_succ_self _)
 refine ⟨by rw [upd_ne ne,upd_same],Nat.zero_le _,ne,e2,fun _=>none,(Heap.Ns1.of_empty e3).at fun o q=>Heap.get?_push_of_some _ q,fun _=>True.intro,fun y hy=>absurd rfl hy⟩
theorem attr_of {prog:Program} {w:World} {env:Env} {e:Expr} {f:Str} {pos:Pos} {s:Shared} {Q:Value→Shared→Prop} (hb:attributeBase e f env (eval e env)=eval e env)
  (h:wpAny (model prog w) A (eval e env) (fun o s₁=>wpAny (model prog w) A (getAttr o f true) Q E s₁) E s):wpAny (model prog w) A (eval (.Attribute e f pos) env) Q E s :=
 Attribute_any_ h (by rw [arm_eval_Attribute,hb])
end
def tFld (K:PySem.W.Frag) (ta:TE) (f:Str):TE:=fun σ H Q=>ta σ H fun x H1=>∃ a C dx fs v,x=.ref a∧H1 a=some (.ins C dx fs)∧Cls K C∧NoAttr K C f∧fs.lookup f=some v∧Q v H1
def sFld (K:PySem.W.Frag) (ta tv:TE) (f:Str):TS:=fun D σ H=>tv σ H fun y H1=>ta σ H1 fun x H2=>∃ a C dx fs,x=.ref a∧H2 a=some (.ins C dx fs)∧Cls K C∧NoAttr K C f∧fs.length < 1000 ∧
 D.nx σ (upd H2 a (.ins C dx (putF f y fs)))
def InOp (X:Cx) (op:Operator) (rd:V→V→Hp→VK→Prop):Prop :=
 ∀ (pins:List (Addr×Obj)) (s:Shared) (σ:St) (H:Hp) (x y:V) (u v:Value) (Q:VK),Inv X pins σ H s→RelV x u→RelV y v→rd x y H Q→wpAny (model X.prog X.w) X.A (inplaceOp op u v) (EP X pins σ Q) X.xe s
section
variable {X:Cx} {o e value:Expr} {f:Str} {pos pos' tpos:Pos} {ta tv:TE}
theorem pe_fld (he:PE X e ta) (hb:attributeBase e f X.env (eval e X.env)=eval e X.env):PE X (.Attribute e f pos) (tFld X.K ta f):=by
 intro pins s σ H Q I h
 refine attr_of hb (thn (he pins s σ H _ I h) fun u s1 ⟨x,H1,I1,rx,a,C,dx,fs,v,ex,ea,c,n,l,q⟩=>?_)
 subst ex
 obtain rfl:u=Value.ref a:=rx
 exact getattr_ok I1 ea c n l fun u' s2 I2 ru=>⟨v,H1,I2,ru,q⟩
theorem ps_fld (ha:PE X o ta) (hv:PE X value tv) (hs:swapsWith value (some (.Attribute o f pos')) pos.line X.env=pure false):PS X (.Assign [.Attribute o f pos'] value pos) (sFld X.K ta tv f):=by
 intro pins s σ H D I h
 refine plainObj_wpAny_Assign_Attribute (thn (hv pins s σ H _ I h) fun u s1 ⟨y,H1,I1,ry,q⟩=>thn (ha pins s1 σ H1 _ I1 q) fun ov s2 ⟨x,H2,I2,rx,a,C,dx,fs,ex,ea,c,n,l,q2⟩=>?_) hs
 subst ex
 obtain rfl:ov=Value.ref a:=rx
 exact setattr_ok I2 ea c n l ry fun s3 I3=>⟨σ,_,I3,q2⟩
def rAdd:V→V→Hp→VK→Prop:=fun x y H Q=>∃ i j,x=.int i∧y=.int j∧Q (.int (i + j)) H
def rSub:V→V→Hp→VK→Prop:=fun x y H Q=>∃ i j,x=.int i∧y=.int j∧Q (.int (i - j)) H
theorem in_add:InOp X .Add rAdd:=by
 rintro pins s σ H x y u v Q I rx ry ⟨i,j,rfl,rfl,q⟩
 obtain ⟨t,rfl⟩:=(show ∃ t,u=Value.int i t from rx)
 obtain ⟨t',rfl⟩:=(show ∃ t',v=Value.int j t' from ry)
 exact PyProof.Rows.iadd_int ⟨.int (i + j),H,I.tok _,⟨_,rfl⟩,q⟩
theorem in_sub:InOp X .Sub rSub:=by
 rintro pins s σ H x y u v Q I rx ry ⟨i,j,rfl,rfl,q⟩
 obtain ⟨t,rfl⟩:=(show ∃ t,u=Value.int i t from rx)
 obtain ⟨t',rfl⟩:=(show ∃ t',v=Value.int j t' from ry)
 exact PyProof.Rows.isub_int ⟨.int (i - j),H,I.tok _,⟨_,rfl⟩,q⟩
end
section
variable {X:Cx} {pins:List (Addr×Obj)} {σ:St} {H:Hp} {s:Shared} {A:Around} {E:Value→Shared→Prop} {Q:Value→Shared→Prop} {c:Value} {b:Bool}
end
end L2
namespace L2
open PySem PySem.Spec PyProof.Rows
structure Room (k:Nat) (A:Around):Prop where
 hd:A.handled=none
 dp:A.depth + 3 * k + 5 < recursionLimit
 un:A.units + 16 * k + 200 < cLine
theorem Room.mono {j k:Nat} {A:Around} (r:Room k A) (h:j≤k):Room j A:=⟨r.hd,by have:=r.dp; omega,by have:=r.un; omega⟩
theorem Room.deeper {k:Nat} {A:Around} (r:Room (k + 1) A) (env:Env):Room k (A.deeper env) :=
 ⟨r.hd,by have:=r.dp; show A.depth + 1 + 3 * k + 5 < _; omega,by have:=r.un; show A.units + 3 + 16 * k + 200 < _; omega⟩
theorem make_depth {A:Around} {C:Addr} {us:List Value} {kw:List (Str×Value)}:(A.under (.builtin "type.__call__" ⟨.ref C::us,kw⟩)).depth=A.depth + 1:=by
 first | rfl | simp [Around.under,Code.weight,Code.isCreation,Code.isGuard,Code.isCaller,Code.frames,Code.isFrame,guardIds]
theorem make_units {A:Around} {C:Addr} {us:List Value} {kw:List (Str×Value)}:(A.under (.builtin "type.__call__" ⟨.ref C::us,kw⟩)).units=A.units + 1:=by
 first | rfl | simp [Around.under,Code.cUnits,Code.frames,Code.isFrame]
theorem Room.make {k:Nat} {A:Around} (r:Room (k + 1) A) (C:Addr) (us:List Value) (kw:List (Str×Value)):Room k (A.under (.builtin "type.__call__" ⟨.ref C::us,kw⟩)) :=
 ⟨r.hd,by have:=r.dp; rw [make_depth]; omega,by have:=r.un; rw [make_units]; omega⟩
theorem Room.depth {k:Nat} {A:Around} (r:Room k A):A.depth < recursionLimit:=by have:=r.dp; omega
theorem Room.units {k:Nat} {A:Around} (r:Room k A):A.units + 64 < cLine:=by have:=r.un; omega
def tNil:TA:=fun _ H Q=>Q [] H
def tCons (ta:TE) (tr:TA):TA:=fun σ H Q=>ta σ H fun x H1=>tr σ H1 fun xs H2=>Q (x::xs) H2
section
variable {X:Cx} {e:Expr} {es:List Expr} {te:TE} {t:TA} {pos:Pos}
theorem pa_nil:PA X [] tNil:=fun _ _ _ _ H Q I h=>Calls.spliced_nil ⟨[],H,I,.nil,h⟩
theorem pa_cons (ha:PE X e te) (hr:PA X es t) (hs:starEach (e::es) X.env=(false,eval e X.env)::starEach es X.env:=by rfl):PA X (e::es) (tCons te t):=by
 intro pos pins s σ H Q I h
 rw [hs]
 show wpAny _ _ (spliced ((false,eval e X.env)::backTo pos (starEach es X.env))) _ _ s
 refine Calls.spliced_cons (thn (ha pins s σ H _ I h) fun u s1 ⟨x,H1,I1,r1,q1⟩=>?_)
 exact thn (hr pos pins s1 σ H1 _ I1 q1) fun us s2 ⟨xs,H2,I2,r2,q2⟩=>⟨x::xs,H2,I2,.cons r1 r2,q2⟩
def tLst (t:TA):TE:=fun σ H Q=>t σ H fun xs H1=>xs.length≤sizeLine∧∀ p,H1 p=none→Q (.ref p) (upd H1 p (.lst xs))
theorem pe_lst (h:PA X es t):PE X (.List es pos) (tLst t):=by
 intro pins s σ H Q I hq
 refine wpAny_List_spliced (thn (h pos pins s σ H _ I hq) fun us s1 ⟨xs,H1,I1,r,z,q⟩=>⟨by rw [← r.length]; exact z,?_⟩)
 have hf:H1 s1.heap.objs.size=none:=I1.hok.fresh (Nat.le_refl _)
 refine ⟨.ref s1.heap.objs.size,upd H1 s1.heap.objs.size (.lst xs),I1.laid (t':=s1.toks) (fun b u e=>Heap.get?_push_of_some _ e) (Nat.le_refl _) ?_,rfl,q _ hf⟩
 exact ⟨z,us,0,r,Heap.get?_push_size _ rfl⟩
end
abbrev Sp:=List V→Hp→VK→XK→Prop
abbrev CXT:=List Env→Hp→Shared→XK→Value→Shared→Prop
structure Env0 (P:Program) (w:World) (K:PySem.W.Frag) (mg:Str→Option Value) (base:Heap) (A:Around) (outer:List Env) (s:Shared) (H:Hp):Prop where
 frames:A.frames=some outer
 mod:Mod K mg base
 bs:∀ b o,base.get? b=some o→s.heap.get? b=some o∧H b=none
 bsz:base.objs.size≤s.heap.objs.size
 funs:s.heap.FunFrames base outer
 frf:∀ b∈frs outer,H b=none
 hok:HOk P w H s.heap
 bare:AllBare s.gens
def CE (outer:List Env) (P:Program) (w:World) (H:Hp) (s:Shared) (Q:VK) (u:Value) (s':Shared):Prop :=
 ∃ v H',s'.os=s.os∧AllBare s'.gens∧Un (frs outer) [] H H' s.heap s'.heap∧HOk P w H' s'.heap∧RelV v u∧Q v H'
def CR (CX:CXT) (outer:List Env) (P:Program) (w:World) (H:Hp) (s:Shared) (Q:VK) (E:XK) (r:Result) (s':Shared):Prop :=
 match r with
 | .ok (.ret u)=>CE outer P w H s Q u s'
 | .ok _=>False
 | .error e=>CX outer H s E e s'
structure FnOk (P:Program) (w:World) (K:PySem.W.Frag) (mg:Str→Option Value) (base:Heap) (CX:CXT) (k:Nat) (f:Addr) (fd:FuncData) (ps:List Str) (sp:Sp):Prop where
 len:∀ vs H Q E,sp vs H Q E→vs.length=ps.length
 run:∀ (A:Around) (outer:List Env) (s:Shared) (H:Hp) (args:Args) (us:List Value) (vs:List V) (Q:VK) (E:XK),Room k A→Env0 P w K mg base A outer s H→BindsTo s fd args (ps.zip us)→Vals vs us→sp vs H Q E →
  codeAny (model P w) A (.call (.ref f) args) (CR CX outer P w H s Q E) s
theorem Env0.make {P:Program} {w:World} {K:PySem.W.Frag} {mg:Str→Option Value} {base:Heap} {A:Around} {outer:List Env} {s:Shared} {H:Hp} (e:Env0 P w K mg base A outer s H) (C:Addr) (us:List Value) (kw:List (Str×Value)) :
  Env0 P w K mg base (A.under (.builtin "type.__call__" ⟨.ref C::us,kw⟩)) outer s H:=⟨by first | exact e.frames | (simpa [Around.under,Code.envs,Code.isFrame,pushEnvs] using e.frames),e.mod,e.bs,e.bsz,e.funs,e.frf,e.hok,e.bare⟩
section
variable {X:Cx} {pins:List (Addr×Obj)} {σ:St} {H:Hp} {s s':Shared}
theorem Inv.env0 (I:Inv X pins σ H s):Env0 X.prog X.w X.K X.mg X.base X.A X.stack s H :=
 ⟨I.ok.frames,I.ok.mod,I.bs,Nat.le_trans I.ok.bsz I.sz,I.stack,I.stkFree,I.hok,I.bare⟩
theorem Inv.after {Q:VK} {u:Value} (I:Inv X pins σ H s) (h:CE X.stack X.prog X.w H s Q u s'):EP X pins σ Q u s':=by
 obtain ⟨v,H',os,bare,un,hok,r,q⟩:=h
 obtain ⟨hh,g,d,t,os'⟩:=s'
 obtain rfl:os'=s.os:=os
 exact ⟨v,H',I.call (h':=hh) (g':=g) (d':=d) (t':=t) (ch:=[]) un hok bare (fun b z=>absurd z (by simp)),r,q⟩
end
def tCall (sp:Sp) (dvs:List V) (E:XK) (t:TA):TE:=fun σ H Q=>t σ H fun vs H1=>sp (vs++dvs) H1 Q E
def tMake (C:Addr) (sp:Sp) (dvs:List V) (E:XK) (t:TA):TE:=fun σ H Q=>t σ H fun vs H1=>∀ x dx,H1 x=none→H1 dx=none→dx≠x →
 sp (.ref x::(vs++dvs)) (upd (upd H1 dx (.own x)) x (.ins C dx [])) (fun v H2=>v=.non∧Q (.ref x) H2) E
def Binds (K:PySem.W.Frag) (fd:FuncData) (ps:List Str) (ds:List Value):Prop :=
 ∀ (s:Shared) (us:List Value),K.In s.heap→(us++ds).length=ps.length→BindsTo s fd ⟨us,[]⟩ (ps.zip (us++ds))
theorem Binds.all {K:PySem.W.Frag} {fd:FuncData} {ps:List Str} (h:∀ us:List Value,us.length=ps.length→bindArgs fd ⟨us,[]⟩=pure (ps.zip us)):Binds K fd ps []:=fun s us _ hl=>by
 rw [List.append_nil] at hl ⊢
 exact .of_eq (h us hl)
def Passes (CX:CXT) (X:Cx) (E:XK):Prop:=∀ (pins:List (Addr×Obj)) (σ:St) (H:Hp) (s:Shared) (e:Value) (s':Shared),Inv X pins σ H s→CX X.stack H s E e s'→X.xe e s'
section
variable {X:Cx} {CX:CXT} {k:Nat} {f C:Addr} {fd:FuncData} {ps:List Str} {sp:Sp} {dvs:List V} {ds:List Value} {E:XK} {x m:Str} {p pos apos:Pos} {e o:Expr} {es:List Expr} {ta:TE} {t:TA}
theorem run_fn {pins:List (Addr×Obj)} {σ:St} {H:Hp} {s:Shared} {Q:VK} {us:List Value} {vs:List V} (F:FnOk X.prog X.w X.K X.mg X.base CX k f fd ps sp) (hr:Room k X.A) (hb:Binds X.K fd ps ds) (hd:Vals dvs ds) (hx:Passes CX X E)
  (I:Inv X pins σ H s) (r:Vals vs us) (h:sp (vs++dvs) H Q E):wpAny (model X.prog X.w) X.A (call (.ref f) us) (EP X pins σ Q) X.xe s:=by
 have r2:Vals (vs++dvs) (us++ds):=r.append hd
 have hl:(us++ds).length=ps.length:=by rw [← r2.length]; exact F.len _ _ _ _ h
 refine wpAny_call (codeAny_mono (F.run X.A X.stack s H ⟨us,[]⟩ (us++ds) (vs++dvs) Q E hr I.env0 (hb s us I.kIn hl) r2 h) fun r s' hq=>?_)
 cases r with
 | error e=>exact hx pins σ H s e s' I hq
 | ok fl =>
  cases fl with
  | ret u=>exact I.after hq
  | next=>exact False.elim hq
  | brk=>exact False.elim hq
  | cont=>exact False.elim hq
theorem pe_call (F:FnOk X.prog X.w X.K X.mg X.base CX k f fd ps sp) (hr:Room k X.A) (hg:Gl X x) (hm:X.mg x=some (.ref f)) (hk:PySem.W.keepIn X.K (.ref f)=true) (hb:Binds X.K fd ps ds) (hd:Vals dvs ds) (hx:Passes CX X E)
  (ha:PA X (e::es) t) (hdb:(x == ("__debug__":Str))=false:=by decide) (he:starEach (e::es) X.env=(false,eval e X.env)::starEach es X.env:=by rfl) (hpl:(backTo pos (starEach es X.env)).any (·.1)=false:=by rfl) :
  PE X (.Call (.Name x p) (e::es) [] pos) (tCall sp dvs E t):=by
 intro pins s σ H Q I h
 refine wpAny_Call_Name_kw (ld_glob I hg hm ?_ hdb)
 refine PySem.W.callWith_K (h₀:=X.base) I.ok.mod.kin hk (thn (ha pos pins s σ H _ I h) fun us s1 ⟨vs,H1,I1,r,q⟩=>⟨I1.kIn,?_⟩) he hpl
 exact run_fn F hr hb hd hx I1 r q
structure Mk (K:PySem.W.Frag) (C f:Addr):Prop where
 makes:PySem.W.makesIn K C=true
 init:PySem.W.findIn K (.ref C) "__init__"=some (some (.ref f))
 fn:PySem.W.isFn K (.ref f)=true
 kp:PySem.W.keepIn K (.ref C)=true
theorem run_make {pins:List (Addr×Obj)} {σ:St} {H:Hp} {s:Shared} {Q:VK} {us:List Value} {vs:List V} (M:Mk X.K C f) (F:FnOk X.prog X.w X.K X.mg X.base CX k f fd ps sp) (hr:Room (k + 1) X.A) (hb:Binds X.K fd ps ds) (hd:Vals dvs ds)
  (hx:Passes CX X E) (I:Inv X pins σ H s) (r:Vals vs us)
  (h:∀ x dx,H x=none→H dx=none→dx≠x→sp (.ref x::(vs++dvs)) (upd (upd H dx (.own x)) x (.ins C dx [])) (fun v H2=>v=.non∧Q (.ref x) H2) E) :
  wpAny (model X.prog X.w) X.A (call (.ref C) us) (EP X pins σ Q) X.xe s:=by
 have hq:=h (s.heap.objs.size + 1) s.heap.objs.size (I.hok.fresh (Nat.le_succ _)) (I.hok.fresh (Nat.le_refl _)) (Nat.ne_of_lt (Nat.lt_succ_self _))
 have I2:=Inv.made (C:=C) I
 have r2:Vals (V.ref (s.heap.objs.size + 1)::(vs++dvs)) (Value.ref (s.heap.objs.size + 1)::(us++ds)):=.cons rfl (r.append hd)
 have hl:(Value.ref (s.heap.objs.size + 1)::us++ds).length=ps.length:=by
  have e:=r2.length
  rw [F.len _ _ _ _ hq] at e
  exact e.symm
 refine wpAny_call (make_map (f:=f) I.kIn M.makes M.init (beq_iff_eq.mp M.fn) (codeAny_mono (F.run _ X.stack _ _ ⟨Value.ref (s.heap.objs.size + 1)::us,[]⟩ (Value.ref (s.heap.objs.size + 1)::(us++ds)) _ _ E (hr.make C us [])
  (I2.env0.make C us []) (hb _ (Value.ref (s.heap.objs.size + 1)::us) I2.kIn hl) r2 hq) fun r s' hq'=>?_))
 cases r with
 | error e=>exact hx pins σ _ _ e s' I2 hq'
 | ok fl =>
  cases fl with
  | ret u =>
   obtain ⟨v,H',I3,rv,ev,q3⟩:=I2.after hq'
   subst ev
   exact ⟨rv,⟨V.ref (s.heap.objs.size + 1),H',I3,rfl,q3⟩⟩
  | next=>exact False.elim hq'
  | brk=>exact False.elim hq'
  | cont=>exact False.elim hq'
theorem pe_make (M:Mk X.K C f) (F:FnOk X.prog X.w X.K X.mg X.base CX k f fd ps sp) (hr:Room (k + 1) X.A) (hg:Gl X x) (hm:X.mg x=some (.ref C)) (hb:Binds X.K fd ps ds) (hd:Vals dvs ds) (hx:Passes CX X E)
  (ha:PA X (e::es) t) (hdb:(x == ("__debug__":Str))=false:=by decide) (he:starEach (e::es) X.env=(false,eval e X.env)::starEach es X.env:=by rfl) (hpl:(backTo pos (starEach es X.env)).any (·.1)=false:=by rfl) :
  PE X (.Call (.Name x p) (e::es) [] pos) (tMake C sp dvs E t):=by
 intro pins s σ H Q I h
 refine wpAny_Call_Name_kw (ld_glob I hg hm ?_ hdb)
 refine PySem.W.callWith_K (h₀:=X.base) I.ok.mod.kin M.kp (thn (ha pos pins s σ H _ I h) fun us s1 ⟨vs,H1,I1,r,q⟩=>⟨I1.kIn,?_⟩) he hpl
 exact run_make M F hr hb hd hx I1 r q
theorem pe_make0 (M:Mk X.K C f) (F:FnOk X.prog X.w X.K X.mg X.base CX k f fd ps sp) (hr:Room (k + 1) X.A) (hg:Gl X x) (hm:X.mg x=some (.ref C)) (hb:Binds X.K fd ps ds) (hd:Vals dvs ds) (hx:Passes CX X E)
  (hdb:(x == ("__debug__":Str))=false:=by decide):PE X (.Call (.Name x p) [] [] pos) (tMake C sp dvs E tNil):=by
 intro pins s σ H Q I h
 refine wpAny_Call_Name_kw (ld_glob I hg hm ?_ hdb)
 exact PySem.W.callWith_K0 I.kIn M.kp (run_make (us:=[]) M F hr hb hd hx I .nil h)
end
section
variable {X:Cx} {CX:CXT} {k:Nat} {f C:Addr} {fd:FuncData} {ps ks:List Str} {sp:Sp} {E:XK} {x m:Str} {p pos apos kpos:Pos} {e o:Expr} {es:List Expr} {kws:List Keyword} {te ta:TE} {t tk:TA} {nm:Option Str}
variable {g:List Value→List Value→List Value} {gV:List V→List V→List V}
end
structure FnScope (N P:List Str) (sc:Scope):Prop where
 kind:sc.kind=.function
 co:sc.isCoroutine=false
 gen:sc.isGenerator=false
 nd:N.Nodup
 pre:N.take P.length=P
 par:∀ x∈P,sc.names.lookup x=some .local∨sc.names.lookup x=some .cell
 nofree:∀ y∈sc.names,y.2 ≠ .free
theorem bindL_out {kindOf:Str→Option NameKind} {x:Str}:∀ {binds:List (Str×Value)} {m:Str→Option Value},(∀ v,(x,v) ∉ binds)→bindL kindOf binds m x=m x
 | [],_,_=>rfl
 | (n,v)::r,m,h=>by
  unfold bindL
  rw [bindL_out fun w hw=>h w (List.mem_cons_of_mem _ hw)]
  split
  ·have:x≠n:=by rintro rfl; exact h v List.mem_cons_self
   simp [this]
  ·rfl
theorem bindC_out {kindOf:Str→Option NameKind} {x:Str}:∀ {binds:List (Str×Value)} {m:Str→Option Value},(∀ v,(x,v) ∉ binds)→bindC kindOf binds m x=m x
 | [],_,_=>rfl
 | (n,v)::r,m,h=>by
  unfold bindC
  rw [bindC_out fun w hw=>h w (List.mem_cons_of_mem _ hw)]
  split
  ·rfl
  ·have:x≠n:=by rintro rfl; exact h v List.mem_cons_self
   simp [this]
theorem bindL_get {kindOf:Str→Option NameKind} {x:Str} {v:Value}:∀ {P:List Str} {vs:List Value} {i:Nat} {m:Str→Option Value},P.Nodup→P[i]?=some x→vs[i]?=some v→kindOf x=some .local →
  bindL kindOf (P.zip vs) m x=some v
 | [],_,_,_,_,h,_,_=>by simp at h
 | _::_,[],_,_,_,_,h,_=>by simp at h
 | p::P,w::vs,0,m,nd,h1,h2,hk=>by
  simp at h1 h2; subst h1; subst h2
  show bindL kindOf ((p,w)::P.zip vs) m p=_
  unfold bindL
  rw [bindL_out fun v hv=>(List.nodup_cons.mp nd).1 (List.of_mem_zip hv).1,if_pos hk]
  simp
 | p::P,w::vs,i + 1,m,nd,h1,h2,hk=>by
  show bindL kindOf ((p,w)::P.zip vs) m x=_
  unfold bindL
  exact bindL_get (i:=i) (List.nodup_cons.mp nd).2 (by simpa using h1) (by simpa using h2) hk
theorem bindC_get {kindOf:Str→Option NameKind} {x:Str} {v:Value}:∀ {P:List Str} {vs:List Value} {i:Nat} {m:Str→Option Value},P.Nodup→P[i]?=some x→vs[i]?=some v→kindOf x≠some .local →
  bindC kindOf (P.zip vs) m x=some v
 | [],_,_,_,_,h,_,_=>by simp at h
 | _::_,[],_,_,_,_,h,_=>by simp at h
 | p::P,w::vs,0,m,nd,h1,h2,hk=>by
  simp at h1 h2; subst h1; subst h2
  show bindC kindOf ((p,w)::P.zip vs) m p=_
  unfold bindC
  rw [bindC_out fun v hv=>(List.nodup_cons.mp nd).1 (List.of_mem_zip hv).1,if_neg hk]
  simp
 | p::P,w::vs,i + 1,m,nd,h1,h2,hk=>by
  show bindC kindOf ((p,w)::P.zip vs) m x=_
  unfold bindC
  exact bindC_get (i:=i) (List.nodup_cons.mp nd).2 (by simpa using h1) (by simpa using h2) hk
def start (N:List Str) (vs:List V):St:=vs.map some++List.replicate (N.length - vs.length) none
def cxOf (CX:CXT) (P:Program) (w:World) (K:PySem.W.Frag) (mg:Str→Option Value) (base:Heap) (N:List Str) (qual:Str) (scope:Scope) (f:Addr) (cd:Value) (A:Around) (outer:List Env) (s:Shared) (H:Hp) (E:XK):Cx where
 prog:=P
 w:=w
 K:=K
 mg:=mg
 base:=base
 A:=A.deeper (envOfC qual scope s.heap.objs.size f cd)
 N:=N
 s_0:=s
 H_0:=H
 env:=envOfC qual scope s.heap.objs.size f cd
 outer:=outer
 stack:=envOfC qual scope s.heap.objs.size f cd::outer
 ex:=[]
 calm:=true
 fn:=fun _=>true
 pn:=[]
 xe:=fun e s'=>wpAny (model P w) (A.deeper (envOfC qual scope s.heap.objs.size f cd)) (leaving (envOfC qual scope s.heap.objs.size f cd) e) (fun _ s''=>CX outer H s E e s'') (fun e' s''=>CX outer H s E e' s'') s'
theorem cell_has {sc:Scope} {n:Nat} {x:Str} (h:sc.names.lookup x=some .cell):∃ c,(cellsFrom n sc.names []).lookup x=some c:=by
 have q:=PySem.W.cellsFrom_some sc.names n [] (.inl h)
 exact Option.isSome_iff_exists.mp q
theorem inv_start {CX:CXT} {P:Program} {w:World} {K:PySem.W.Frag} {mg:Str→Option Value} {base:Heap} {N ps:List Str} {qual:Str} {scope:Scope} {f:Addr} {cd:Value} {A:Around} {outer:List Env} {s s1:Shared} {H:Hp} {E:XK} {us:List Value} {vs:List V}
  (S:FnScope N ps scope) (hd:A.handled=none) (e0:Env0 P w K mg base A outer s H) (hl:vs.length=ps.length) (r:Vals vs us)
  (x:InCallC s s.heap.objs.size (bindL (envOfC qual scope s.heap.objs.size f cd).kindOf (ps.zip us) fun _=>none) (cellsFrom (s.heap.objs.size + 1) scope.names []) (bindC (envOfC qual scope s.heap.objs.size f cd).kindOf (ps.zip us) fun _=>none) s1) :
  Inv (cxOf CX P w K mg base N qual scope f cd A outer s H E) [] (start N vs) H s1:=by
 have hpl:ps.length≤N.length:=by have:=congrArg List.length S.pre; rw [List.length_take] at this; omega
 obtain ⟨h1,tk,rfl,hk⟩:=x.done
 have noA:∀ b:Addr,b ∉ (cxOf CX P w K mg base N qual scope f cd A outer s H E).ex:=fun b z=>absurd (show b∈([]:List Addr) from z) (by simp)
 refine ⟨⟨e0.mod,S.kind,rfl,rfl,Nat.le_refl _,fun y z c h1 h2=>?_,fun y hy=>?_,fun y c _ h=>?_,fun _=>hd,Around.frames_deeper e0.frames,.inr ⟨rfl,rfl⟩,fun b z=>absurd z (noA b),e0.bs,e0.bsz,fun b _ _=>noA b,fun b z=>absurd z (noA b),e0.funs,e0.frf⟩,
  rfl,e0.bare,Un.kept hk,⟨_,x.toInCall.ns,fun i y v h1 h2 h3=>?_⟩,fun y c h=>⟨_,x.cell y c h⟩,e0.hok.fresh (Nat.le_refl _),fun y c h=>?_,fun p hp=>absurd (show p∈([]:List (Addr×Obj)) from hp) (by simp),e0.hok.kept hk,?_⟩
 ·exact name_of_addr x.apart (PySem.mem_of_lookup h1) (PySem.mem_of_lookup h2)
 ·have hy:scope.names.lookup y=some .cell∨scope.names.lookup y=some .free:=hy
  rcases hy with hy | hy
  ·exact cell_has hy
  ·exact absurd rfl (S.nofree _ (PySem.mem_of_lookup hy))
 ·exact Nat.le_of_lt (x.above y c (PySem.mem_of_lookup h))
 ·have hi:i < vs.length:=by
   unfold start at h2
   by_cases hi:i < vs.length
   ·exact hi
   ·rw [List.getElem?_append_right (by simpa using hi)] at h2
    rw [List.getElem?_replicate] at h2
    split at h2 <;> cases h2
  have ha:vs[i]?=some v:=by
   unfold start at h2
   rw [List.getElem?_append_left (by simpa using hi),List.getElem?_map] at h2
   cases e:vs[i]? with
   | none=>rw [e] at h2; cases h2
   | some a=>rw [e] at h2; cases h2; rfl
  obtain ⟨u,hu,rv⟩:=r.get ha
  have hp:ps[i]?=some y:=by
   rw [← S.pre,List.getElem?_take_of_lt (by omega)]; exact h1
  have ndP:ps.Nodup:=by rw [← S.pre]; exact S.nd.sublist (List.take_sublist _ _)
  refine ⟨u,rv,?_⟩
  rcases S.par y (List.mem_of_getElem? hp) with k | k
  ·exact .inl ⟨k,bindL_get ndP hp hu k⟩
  ·obtain ⟨c,e⟩:=cell_has (n:=s.heap.objs.size + 1) k
   refine .inr ⟨.inl k,c,e,?_⟩
   have q:=x.cell y c e
   rw [bindC_get ndP hp hu (by show scope.names.lookup y≠_; rw [k]; decide)] at q
   exact q
 ·exact e0.hok.fresh (Nat.le_of_lt (x.above y c (PySem.mem_of_lookup h)))
 ·unfold start
  show _=N.length
  rw [List.length_append,List.length_map,List.length_replicate]
  omega
theorem fn_of {CX:CXT} {P:Program} {w:World} {K:PySem.W.Frag} {mg:Str→Option Value} {base:Heap} {k:Nat} {f:Addr} {name qual:Str} {params:Arguments} {body:List Stmt} {scope:Scope} {dV kV doc pm cdv ct oc:Value} {an od:Option Addr}
  {osl:Array (Option Value)} {N ps:List Str} {sp:Sp} (lk:K.lookup f=some ⟨oc,od,.func (PySem.W.fnOf name qual params body scope dV kV doc pm an cdv ct),osl⟩) (hcd:PySem.W.codeIn K cdv qual=true) (S:FnScope N ps scope)
  (len:∀ vs H Q E,sp vs H Q E→vs.length=ps.length)
  (hbody:∀ (A:Around) (outer:List Env) (s:Shared) (H:Hp) (vs:List V) (Q:VK) (E:XK),Room k (A.deeper (envOfC qual scope s.heap.objs.size f cdv))→sp vs H Q E →
   ∃ t,PSs (cxOf CX P w K mg base N qual scope f cdv A outer s H E) body t∧t { nx:=fun _ H'=>Q .non H',rt:=Q } (start N vs) H) :
  FnOk P w K mg base CX (k + 1) f (PySem.W.fnOf name qual params body scope dV kV doc pm an cdv ct) ps sp:=by
 refine ⟨len,fun A outer s H args us vs Q E hr e0 hb r hsp=>?_⟩
 have hl:=len _ _ _ _ hsp
 have KX:K.In s.heap:=e0.mod.kin.keeps fun b o e=>(e0.bs b o e).1
 have lim:s.heap.NoLimit:=e0.mod.nolimit.keeps fun b o e=>(e0.bs b o e).1
 have hkind:∀ y∈ps.zip us,scope.names.lookup y.1=some .local∨(scope.names.lookup y.1=some .cell∧((cellsFrom (s.heap.objs.size + 1) scope.names []).lookup y.1).isSome=true):=fun ⟨n,v⟩ hy=>by
  rcases S.par n (List.of_mem_zip hy).1 with q | q
  ·exact .inl q
  ·exact .inr ⟨q,PySem.W.cellsFrom_some _ _ _ (.inl q)⟩
 refine codeAny_call_function hr.depth (KX _ _ lk) rfl S.co S.gen rfl (PySem.W.codeRec_of KX hcd) (hb _ _ _ _ ?_)
 refine wpAny_newFunctionEnv_cells S.kind hkind fun env he s1 x=>?_
 subst he
 refine ⟨lim.keeps x.toInCall.keep,codeAny_func ?_⟩
 obtain ⟨t,ht,hq⟩:=hbody A outer s H vs Q E (hr.deeper _) hsp
 have I:Inv (cxOf CX P w K mg base N qual scope f cdv A outer s H E) [] (start N vs) H s1:=inv_start S hr.hd e0 hl r x
 refine wpAny_mono (ht [] s1 (start N vs) H _ I hq) (fun fl s' hs=>?_) fun e s' hs=>hs
 have fin:∀ {σ':St} {H':Hp} {v:V} {u:Value},Inv (cxOf CX P w K mg base N qual scope f cdv A outer s H E) [] σ' H' s'→RelV v u→Q v H'→CE outer P w H s Q u s' :=
  fun {σ' H' v u} J rv q=>⟨v,H',J.os,J.bare,J.base,J.hok,rv,q⟩
 cases fl with
 | ret u =>
  obtain ⟨v,σ',H',J,rv,q⟩:=hs
  exact fin J rv q
 | next =>
  obtain ⟨σ',H',J,q⟩:=hs
  exact fin (v:=V.non) (u:=Value.none) J rfl q
 | brk =>
  obtain ⟨_,_,_,q⟩:=hs
  exact False.elim q
 | cont =>
  obtain ⟨_,_,_,q⟩:=hs
  exact False.elim q
end L2
namespace L2
open PySem PySem.Spec PyProof.Rows
section
variable {X:Cx} {x:Str} {p pos:Pos} {e:Expr} {es:List Expr} {t:TA} {id T:String} {r:List V→Hp→VK→Prop}
def tCB (r:List V→Hp→VK→Prop) (t:TA):TE:=fun σ H Q=>t σ H fun vs H1=>r vs H1 Q
theorem pe_callB (hc:CallR X (.builtin id) r) (hg:Gl X x) (hm:X.mg x=none) (hv:bootBuiltins x=some (.builtin id)) (ha:PA X (e::es) t) (hn:x≠"__name__":=by decide) (hdb:(x == ("__debug__":Str))=false:=by decide)
  (he:starEach (e::es) X.env=(false,eval e X.env)::starEach es X.env:=by rfl) (hpl:(backTo pos (starEach es X.env)).any (·.1)=false:=by rfl):PE X (.Call (.Name x p) (e::es) [] pos) (tCB r t):=by
 intro pins s σ H Q I h
 refine wpAny_Call_Name_kw (ld_blt I hg hm hv ?_ hn hdb)
 exact PyProof.Rows.callWith_builtin1 (thn (ha pos pins s σ H _ I h) fun us s1 ⟨vs,H1,I1,r1,q1⟩=>hc pins s1 σ H1 vs us Q I1 r1 q1) he hpl
theorem pe_callTy (hc:CallR X (.type T) r) (hg:Gl X x) (hm:X.mg x=none) (hv:bootBuiltins x=some (.type T)) (ha:PA X (e::es) t) (hn:x≠"__name__":=by decide) (hdb:(x == ("__debug__":Str))=false:=by decide)
  (he:starEach (e::es) X.env=(false,eval e X.env)::starEach es X.env:=by rfl) (hpl:(backTo pos (starEach es X.env)).any (·.1)=false:=by rfl):PE X (.Call (.Name x p) (e::es) [] pos) (tCB r t):=by
 intro pins s σ H Q I h
 refine wpAny_Call_Name_kw (ld_blt I hg hm hv ?_ hn hdb)
 exact PyProof.Rows.callWith_type1 (thn (ha pos pins s σ H _ I h) fun us s1 ⟨vs,H1,I1,r1,q1⟩=>hc pins s1 σ H1 vs us Q I1 r1 q1) he hpl
end
end L2
namespace HT
open PySem PyProof.Rows
section
open PySem.SeqAt
open PySem.AutoSeq1 (wpAny_loadPart')
open PySem.MeetsSeq PySem.MeetsSeq2 PySem.MeetsSeq3
end
section
variable {prog:Program} {w:World} {A:Around} {E:Value→Shared→Prop} {s:Shared}
def sIx (n d:Nat):Option Int→Nat
 | none=>d
 | some v=>if v < 0 then (v + (n:Int)).toNat else min v.toNat n
end
end HT
namespace L2
open PySem PySem.Spec PyProof.Rows
abbrev TO:=St→Hp→(Option Int→Hp→Prop)→Prop
def PO (X:Cx) (e:Option Expr) (t:TO):Prop :=
 ∀ (pins:List (Addr×Obj)) (s:Shared) (σ:St) (H:Hp) (Q:Option Int→Hp→Prop),Inv X pins σ H s→t σ H Q →
  wpAny (model X.prog X.w) X.A (evalPart e X.env) (fun u s'=>∃ o H',Inv X pins σ H' s'∧IsPart u o∧Q o H') X.xe s
def tNoPart:TO:=fun _ H Q=>Q none H
def tPart (t:TE):TO:=fun σ H Q=>t σ H fun x H1=>∃ i,x=.int i∧Q (some i) H1
section
variable {X:Cx} {e:Expr} {te:TE} {lo hi:Option Expr} {tl th:TO} {pos p2:Pos}
theorem po_none:PO X none tNoPart:=by
 intro pins s σ H Q I h
 rw [evalPart_none]
 exact wpAny_pure ⟨none,H,I,.none,h⟩
theorem po_some (h:PE X e te):PO X (some e) (tPart te):=by
 intro pins s σ H Q I hw
 rw [evalPart_some]
 refine thn (h pins s σ H _ I hw) fun u s1 ⟨x,H1,I1,r1,q1⟩=>?_
 obtain ⟨i,rfl,q⟩:=q1
 obtain ⟨t,rfl⟩:=r1
 exact ⟨some i,H1,I1,.int i t,q⟩
def SlR (X:Cx) (r:V→Option Int→Option Int→Hp→VK→Prop):Prop :=
 ∀ (pins:List (Addr×Obj)) (s:Shared) (σ:St) (H:Hp) (x:V) (v vl vu:Value) (lo hi:Option Int) (sl:Addr) (Q:VK),Inv X pins σ H s→RelV x v→s.heap.IsSliceOf sl vl vu .none→IsPart vl lo→IsPart vu hi→r x lo hi H Q →
  ∃ T id,typeLookup (.type T) "__getitem__"=pure (some (.builtin id))∧s.TypeIs v T∧wpAny (model X.prog X.w) X.A (getItem v (.ref sl)) (EP X pins σ Q) X.xe s
def tSl (r:V→Option Int→Option Int→Hp→VK→Prop) (te:TE) (tl th:TO):TE:=fun σ H Q=>te σ H fun x H1=>tl σ H1 fun l H2=>th σ H2 fun u H3=>r x l u H3 Q
theorem pe_slice {r:V→Option Int→Option Int→Hp→VK→Prop} (hr:SlR X r) (he:PE X e te) (hl:PO X lo tl) (hu:PO X hi th):PE X (.Subscript e (.Slice lo hi none p2) pos) (tSl r te tl th):=by
 intro pins s σ H Q I h
 refine Subscript_ (thn (he pins s σ H _ I h) fun v s1 ⟨x,H1,I1,r1,q1⟩=>?_)
 refine wpAny_Slice (thn (hl pins s1 σ H1 _ I1 q1) fun vl s2 ⟨l,H2,I2,pl,q2⟩=>thn (hu pins s2 σ H2 _ I2 q2) fun vu s3 ⟨u,H3,I3,pu,q3⟩=>?_)
 rw [evalPart_none]
 refine wpAny_pure ?_
 have I4:Inv X pins σ H3 { s3 with heap:=s3.heap.push { cls:=.type "slice",data:=.fields #[vl,vu,.none] } }:=I3.kept (t':=s3.toks) fun b ob q=>Heap.get?_push_of_some _ q
 obtain ⟨T,id,hT,ht,hg⟩:=hr pins { s3 with heap:=s3.heap.push { cls:=.type "slice",data:=.fields #[vl,vu,.none] } } σ H3 x v vl vu l u s3.heap.objs.size Q I4 r1 (Heap.IsSliceOf.new ..) pl pu q3
 show wpAny (model X.prog X.w) X.A (subscriptTail e (.Slice lo hi none p2) v (.ref s3.heap.objs.size)) (EP X pins σ Q) X.xe { s3 with heap:=s3.heap.push { cls:=.type "slice",data:=.fields #[vl,vu,.none] } }
 exact tail_any (ops:=[.ref s3.heap.objs.size,v]) ht hT hg (by with_unfolding_all rfl)
def cutV (xs:List V) (lo hi:Option Int):List V:=(xs.drop (HT.sIx xs.length 0 lo)).take (HT.sIx xs.length xs.length hi - HT.sIx xs.length 0 lo)
theorem cutV_length (xs:List V) (lo hi:Option Int):(cutV xs lo hi).length≤xs.length:=by
 unfold cutV
 rw [List.length_take,List.length_drop]
 omega
end
end L2
namespace L2
open PySem PySem.Spec PyProof.Rows
def ixN (n:Nat) (i:Int):Option Nat:=if 0≤i then (if i < n then some i.toNat else none) else if -(n:Int)≤i then some (i + n).toNat else none
def atI {α:Type} (xs:List α) (i:Int):Option α:=(ixN xs.length i).bind fun j=>xs[j]?
theorem ixN_seq {n:Nat} {i:Int} {j:Nat} (h:ixN n i=some j):seqIndex? i n=some j∧j < n ∧ -(n:Int)≤i∧i < n:=by
 unfold ixN at h
 by_cases h0:0≤i
 ·rw [if_pos h0] at h
  by_cases h1:i < n
  ·rw [if_pos h1] at h
   have e:i.toNat=j:=Option.some.inj h
   exact ⟨by rw [seqIndex_of h0 h1,e],by omega,by omega,h1⟩
  ·rw [if_neg h1] at h; cases h
 ·rw [if_neg h0] at h
  by_cases h1 : -(n:Int)≤i
  ·rw [if_pos h1] at h
   have e:(i + n).toNat=j:=Option.some.inj h
   exact ⟨by rw [seqIndex_neg (by omega) h1,e],by omega,h1,by omega⟩
  ·rw [if_neg h1] at h; cases h
theorem atI_get {α:Type} {xs:List α} {i:Int} {v:α} (h:atI xs i=some v):∃ j,seqIndex? i xs.length=some j∧xs[j]?=some v∧j < xs.length ∧ -(xs.length:Int)≤i∧i < xs.length:=by
 unfold atI at h
 cases e:ixN xs.length i with
 | none=>rw [e] at h; cases h
 | some j =>
  rw [e] at h
  obtain ⟨h1,h2,h3,h4⟩:=ixN_seq e
  exact ⟨j,h1,h,h2,h3,h4⟩
theorem atI_nat {α:Type} {xs:List α} {j:Nat} {v:α} (h:xs[j]?=some v):atI xs (j:Int)=some v:=by
 have hj:j < xs.length:=(List.getElem?_eq_some_iff.mp h).1
 have e:ixN xs.length (j:Int)=some j:=by
  unfold ixN
  rw [if_pos (by omega),if_pos (by omega)]; simp
 unfold atI; rw [e]; exact h
theorem atI_last {α:Type} (xs:List α) (v:α):atI (xs++[v]) (-1)=some v:=by
 have hl:(xs++[v]).length=xs.length + 1:=by simp
 have e:ixN (xs++[v]).length (-1)=some xs.length:=by
  unfold ixN
  rw [hl,if_neg (by decide),if_pos (by omega)]
  congr 1
  omega
 unfold atI
 rw [e]
 show (xs++[v])[xs.length]?=some v
 simp
def PlainIx (b:Expr):Prop:=∀ o i,subscripted b false o i=operate [o,i] (getItem o i)
def IxR (X:Cx) (r:R2):Prop :=
 ∀ (value slice:Expr) (pins:List (Addr×Obj)) (s:Shared) (σ:St) (H:Hp) (x y:V) (v u:Value) (Q:VK),Inv X pins σ H s→RelV x v→RelV y u→r x y H Q →
  subscripted slice false v u=operate [v,u] (getItem v u)→wpAny (model X.prog X.w) X.A (subscriptTail value slice v u) (EP X pins σ Q) X.xe s
def MtR (X:Cx) (id:String) (r:V→List V→Hp→VK→Prop):Prop :=
 ∀ (pins:List (Addr×Obj)) (s:Shared) (σ:St) (H:Hp) (x:V) (xs:List V) (v:Value) (us:List Value) (Q:VK),Inv X pins σ H s→RelV x v→Vals xs us→r x xs H Q →
  wpAny (model X.prog X.w) X.A (call (.builtin id) (v::us)) (EP X pins σ Q) X.xe s
section
variable {X:Cx} {a b:Expr} {ta tb:TE} {pos:Pos}
theorem pe_ix {r:R2} (hr:IxR X r) (ha:PE X a ta) (hb:PE X b tb) (hs:PlainIx b):PE X (.Subscript a b pos) (tOp r ta tb):=by
 intro pins s σ H Q I h
 exact Subscript_ (binT ha hb I h fun v u s2 x y H2 I2 rx ry q=>hr a b pins s2 σ H2 x y v u Q I2 rx ry q (hs _ _))
def rIxL (K:PySem.W.Frag):R2:=fun x y H Q=>∃ p xs i v,x=.ref p∧y=.int i∧SqL K H p xs∧atI xs i=some v∧Q v H
def rIxT (K:PySem.W.Frag):R2:=fun x y H Q=>∃ p xs i v,x=.ref p∧y=.int i∧SqT K H p xs∧atI xs i=some v∧Q v H
theorem ix_list:IxR X (rIxL X.K):=by
 intro value slice pins s σ H x y v u Q I rx ry h hs
 obtain ⟨p,xs,i,z,rfl,rfl,hq,he,q⟩:=h
 cases rx
 obtain ⟨t,rfl⟩:=ry
 obtain ⟨its,r,pl,hz⟩:=I.list hq
 obtain ⟨j,h1,h2,h3,h4,h5⟩:=atI_get he
 obtain ⟨w,ew,rw'⟩:=r.get h2
 have hl:=r.length
 have hn:=line63
 have fin:EP X pins σ Q w s:=⟨z,H,I,rw',q⟩
 by_cases h0:0≤i
 ·have hj:i.toNat=j:=by
   rw [seqIndex_of h0 h5] at h1
   exact Option.some.inj h1
  exact item_listR pl.isList h0 (by omega) (by rw [hj]; simpa using ew) fin hs
 ·have hj:(i + (its.toArray.size:Int)).toNat=j:=by
   rw [seqIndex_neg (by omega) h4] at h1
   rw [List.size_toArray,← hl]
   exact Option.some.inj h1
  exact subscriptTail_builtinR (x:=w) pl.isList.typeIs slot_list_getitem.lookup
   (wpAny_getItem_list_neg (Q:=fun r s'=>r=w∧EP X pins σ Q r s') pl.isList (by omega) (by rw [List.size_toArray] <;> omega) (by omega) (by rw [hj]; simpa using ew) ⟨rfl,fin⟩) hs
theorem ix_tup:IxR X (rIxT X.K):=by
 intro value slice pins s σ H x y v u Q I rx ry h hs
 obtain ⟨p,xs,i,z,rfl,rfl,hq,he,q⟩:=h
 cases rx
 obtain ⟨t,rfl⟩:=ry
 obtain ⟨its,r,pl,hz⟩:=I.tuple hq
 obtain ⟨j,h1,h2,h3,h4,h5⟩:=atI_get he
 obtain ⟨w,ew,rw'⟩:=r.get h2
 have hl:=r.length
 have hn:=line63
 have fin:EP X pins σ Q w s:=⟨z,H,I,rw',q⟩
 exact subscriptTail_builtinR (x:=w) pl.typeIs slot_tuple_getitem.lookup
  (getItem_tuple (j:=j) (Q:=fun r s'=>r=w∧EP X pins σ Q r s') pl (by omega) (by omega) (by rw [List.size_toArray,← hl]; exact h1) (by simpa using ew) ⟨rfl,fin⟩) hs
theorem slice_bounds (lo hi:Option Int) (n:Nat):(sliceBounds lo hi none n).1=((HT.sIx n 0 lo:Nat):Int)∧(sliceBounds lo hi none n).2.1=((HT.sIx n n hi:Nat):Int)∧(sliceBounds lo hi none n).2.2=1:=by
 refine ⟨?_,?_,rfl⟩
 ·cases lo with
  | none=>simp [sliceBounds,HT.sIx]
  | some i =>
   simp only [sliceBounds,HT.sIx,Option.getD_none,show (1:Int) > 0 by decide,if_true]
   by_cases h:i < 0
   ·simp only [h,if_true] <;> omega
   ·simp only [h,if_false] <;> omega
 ·cases hi with
  | none=>simp [sliceBounds,HT.sIx]
  | some i =>
   simp only [sliceBounds,HT.sIx,Option.getD_none,show (1:Int) > 0 by decide,if_true]
   by_cases h:i < 0
   ·simp only [h,if_true] <;> omega
   ·simp only [h,if_false] <;> omega
theorem slicePick_cut (its:List Value) (lo hi:Option Int):slicePick its.toArray lo hi none=((its.drop (HT.sIx its.length 0 lo)).take (HT.sIx its.length its.length hi - HT.sIx its.length 0 lo)).toArray:=by
 obtain ⟨h1,h2,h3⟩:=slice_bounds lo hi its.toArray.size
 unfold slicePick
 rw [h1,h2,h3]
 simp only [sliceRange_one,pick_run,List.size_toArray] <;> rfl
def rSlL (K:PySem.W.Frag):V→Option Int→Option Int→Hp→VK→Prop:=fun x lo hi H Q=>∃ a xs,x=.ref a∧SqL K H a xs∧∀ p,H p=none→Q (.ref p) (upd H p (.lst (cutV xs lo hi)))
theorem sl_list:SlR X (rSlL X.K):=by
 intro pins s σ H x v vl vu lo hi sl Q I rx hs pl pu h
 obtain ⟨a,xs,rfl,hx,q⟩:=h
 cases rx
 obtain ⟨its,r,ht,hz⟩:=I.list hx
 have hlen:=r.length
 refine ⟨"list",_,slot_list_getitem.lookup,ht.isList.typeIs,?_⟩
 refine wpAny_getItem_list_slice ht.isList hs pl pu .none (by simp) ?_ (by rw [List.size_toArray] <;> omega)
 rw [slicePick_cut,← hlen]
 refine ⟨.ref s.heap.objs.size,_,I.laid (t':=s.toks) (o:=.lst (cutV xs lo hi)) (fun b ob q=>Heap.get?_push_of_some _ q) (Nat.le_refl _) ?_,rfl,q _ (I.hok.fresh (Nat.le_refl _))⟩
 exact ⟨Nat.le_trans (cutV_length xs lo hi) hz,_,0,(r.drop (HT.sIx xs.length 0 lo)).take (HT.sIx xs.length xs.length hi - HT.sIx xs.length 0 lo),Heap.get?_push_size _ rfl⟩
def flatV:V→Bool
 | .non=>true
 | .bl _=>true
 | .int _=>true
 | .str _=>true
 | _=>false
def eqV:V→V→Bool
 | .non,.non=>true
 | .bl a,.bl b=>a == b
 | .bl a,.int b=>(if a then 1 else 0) == b
 | .int a,.bl b=>a == (if b then 1 else 0)
 | .int a,.int b=>a == b
 | .str a,.str b=>a == b
 | _,_=>false
theorem eqAt_V {A:Around} {s:Shared} {y x:V} {u v:Value} (ry:RelV y u) (rx:RelV x v) (fy:flatV y=true) (fx:flatV x=true):SeqAt.EqAt A s u v (eqV y x):=by
 cases y with
 | non =>
  cases ry
  cases x with
  | non=>cases rx; exact SeqAt.EqAt.same _
  | bl b=>cases rx; exact SeqAt.EqAt.none_bool b
  | int b=>obtain ⟨t,rfl⟩:=rx; exact SeqAt.EqAt.none_int b t
  | str b=>obtain ⟨t,rfl⟩:=rx; exact SeqAt.EqAt.none_str b t
  | _=>exact absurd (show false=true from fx) Bool.false_ne_true
 | bl a =>
  cases ry
  cases x with
  | non=>cases rx; exact SeqAt.EqAt.bool_none a
  | bl b=>cases rx; exact SeqAt.EqAt.bool_bool a b
  | int b=>obtain ⟨t,rfl⟩:=rx; exact SeqAt.EqAt.bool_int a b t
  | str b=>obtain ⟨t,rfl⟩:=rx; exact SeqAt.EqAt.bool_str a b t
  | _=>exact absurd (show false=true from fx) Bool.false_ne_true
 | int a =>
  obtain ⟨t',rfl⟩:=ry
  cases x with
  | non=>cases rx; exact SeqAt.EqAt.int_none a t'
  | bl b=>cases rx; exact SeqAt.EqAt.int_bool a t' b
  | int b=>obtain ⟨t,rfl⟩:=rx; exact SeqAt.EqAt.int_int a t' b t
  | str b=>obtain ⟨t,rfl⟩:=rx; exact SeqAt.EqAt.int_str a t' b t
  | _=>exact absurd (show false=true from fx) Bool.false_ne_true
 | str a =>
  obtain ⟨t',rfl⟩:=ry
  cases x with
  | non=>cases rx; exact SeqAt.EqAt.str_none a t'
  | bl b=>cases rx; exact SeqAt.EqAt.str_bool a t' b
  | int b=>obtain ⟨t,rfl⟩:=rx; exact SeqAt.EqAt.str_int a t' b t
  | str b=>obtain ⟨t,rfl⟩:=rx; exact SeqAt.EqAt.str_str a t' b t
  | _=>exact absurd (show false=true from fx) Bool.false_ne_true
 | _=>exact absurd (show false=true from fy) Bool.false_ne_true
def eqU (x:V) (u:Value):Bool:=match u with
 | .none=>eqV .non x
 | .bool b=>eqV (.bl b) x
 | .int i _=>eqV (.int i) x
 | .str z _=>eqV (.str z) x
 | _=>false
theorem eqU_of {x y:V} {u:Value} (r:RelV y u) (f:flatV y=true):eqU x u=eqV y x:=by
 cases y with
 | non=>cases r; rfl
 | bl b=>cases r; rfl
 | int i=>obtain ⟨t,rfl⟩:=r; rfl
 | str z=>obtain ⟨t,rfl⟩:=r; rfl
 | _=>exact absurd (show false=true from f) Bool.false_ne_true
theorem any_eqU {x:V}:∀ {xs:List V} {us:List Value},Vals xs us→xs.all flatV=true→us.any (eqU x)=xs.any fun y=>eqV y x
 | _,_,.nil,_=>rfl
 | y::xs,u::us,.cons r t,f=>by
  rw [List.all_cons,Bool.and_eq_true] at f
  rw [List.any_cons,List.any_cons,eqU_of r f.1,any_eqU t f.2]
theorem mem_eqAt {A:Around} {s:Shared} {x:V} {v:Value} (rx:RelV x v) (fx:flatV x=true):∀ {xs:List V} {us:List Value},Vals xs us→xs.all flatV=true→∀ u∈us,SeqAt.EqAt A s u v (eqU x u)
 | _,_,.nil,_=>fun u hu=>by cases hu
 | y::xs,u::us,.cons r t,f=>fun u' hu=>by
  rw [List.all_cons,Bool.and_eq_true] at f
  rcases List.mem_cons.mp hu with rfl | hu
  ·rw [eqU_of r f.1]; exact eqAt_V r rx f.1 fx
  ·exact mem_eqAt rx fx t f.2 u' hu
def inV (x:V) (xs:List V):Bool:=xs.any fun y=>eqV y x
def rIn (K:PySem.W.Frag) (neg:Bool):R2:=fun x y H Q=>∃ p xs,y=.ref p∧(SqL K H p xs∨SqT K H p xs)∧flatV x=true∧xs.all flatV=true∧Q (.bl (if neg then !inV x xs else inV x xs)) H
theorem op_in_seq:OpR X (compareOp .In) (rIn X.K false):=by
 intro pins s σ H x y v u Q I rx ry h
 obtain ⟨p,xs,rfl,hq,fx,fs,q⟩:=h
 cases ry
 rcases hq with hq | hq
 ·obtain ⟨its,r,pl,hz⟩:=I.list hq
  refine SeqAt.in_listAt (eqU x) pl.isList (fun w hw=>mem_eqAt rx fx r fs w (by simpa using hw)) ⟨.bl _,H,I,rfl,?_⟩
  rw [show its.toArray.any (eqU x)=its.any (eqU x) by simp,any_eqU r fs]
  exact q
 ·obtain ⟨its,r,pl,hz⟩:=I.tuple hq
  refine SeqAt.in_tupleAt (eqU x) pl (fun w hw=>mem_eqAt rx fx r fs w (by simpa using hw)) ⟨.bl _,H,I,rfl,?_⟩
  rw [show its.toArray.any (eqU x)=its.any (eqU x) by simp,any_eqU r fs]
  exact q
theorem op_notIn_seq:OpR X (compareOp .NotIn) (rIn X.K true):=by
 intro pins s σ H x y v u Q I rx ry h
 obtain ⟨p,xs,rfl,hq,fx,fs,q⟩:=h
 cases ry
 rcases hq with hq | hq
 ·obtain ⟨its,r,pl,hz⟩:=I.list hq
  refine SeqAt.notIn_listAt (eqU x) pl.isList (fun w hw=>mem_eqAt rx fx r fs w (by simpa using hw)) ⟨.bl _,H,I,rfl,?_⟩
  rw [show its.toArray.any (eqU x)=its.any (eqU x) by simp,any_eqU r fs]
  exact q
 ·obtain ⟨its,r,pl,hz⟩:=I.tuple hq
  refine SeqAt.notIn_tupleAt (eqU x) pl (fun w hw=>mem_eqAt rx fx r fs w (by simpa using hw)) ⟨.bl _,H,I,rfl,?_⟩
  rw [show its.toArray.any (eqU x)=its.any (eqU x) by simp,any_eqU r fs]
  exact q
theorem call_len_seq:CallR X (.builtin "len") (fun xs H Q=>∃ p ys,xs=[.ref p]∧(SqL X.K H p ys∨SqT X.K H p ys)∧Q (.int ys.length) H):=by
 intro pins s σ H xs us Q I r h
 obtain ⟨p,ys,rfl,hq,q⟩:=h
 obtain ⟨u,rfl,rx⟩:=vals1 r
 cases rx
 have hn:=line63
 rcases hq with hq | hq
 ·obtain ⟨its,r',pl,hz⟩:=I.list hq
  have hlen:=r'.length
  exact Calls.call_len_list pl.isList (by simp only [List.size_toArray] <;> omega) ⟨.int ys.length,H,I.tok _,⟨s.toks + 1,by rw [List.size_toArray,hlen]⟩,q⟩
 ·obtain ⟨its,r',pl,hz⟩:=I.tuple hq
  have hlen:=r'.length
  exact len_tuple pl (by simp only [List.size_toArray] <;> omega) ⟨.int ys.length,H,I.tok _,⟨s.toks + 1,by rw [List.size_toArray,hlen]⟩,q⟩
def tyV (K:PySem.W.Frag) (T:String) (x:V) (H:Hp):Prop:=match x with
 | .str _=>T="str"
 | .int _=>T="int"
 | .ref p=>(T="list"∧∃ xs,SqL K H p xs)∨(T="tuple"∧∃ o,K.lookup p=some o∧o.cls=.type "tuple"∧o.dict=none) ∨
   (T="dict"∧((∃ kvs,H p=some (.dK kvs))∨∃ kvs,H p=some (.dT kvs)))∨(T="set"∧∃ S n,H p=some (.set S n))
 | _=>False
theorem tyV_is {pins:List (Addr×Obj)} {σ:St} {H:Hp} {s:Shared} {T:String} {x:V} {v:Value} (I:Inv X pins σ H s) (r:RelV x v) (ty:tyV X.K T x H) :
  s.TypeIs v T∧∀ a,v=.ref a→∃ ob,s.heap.get? a=some ob∧ob.dict=none:=by
 cases x with
 | str z =>
  obtain ⟨t,rfl⟩:=r
  cases (show T="str" from ty)
  exact ⟨typeIs_str s z t,fun _ e=>nomatch e⟩
 | int i =>
  obtain ⟨t,rfl⟩:=r
  cases (show T="int" from ty)
  exact ⟨typeIs_int s i t,fun _ e=>nomatch e⟩
 | ref p =>
  cases r
  rcases ty with ⟨rfl,xs,hq⟩ | ⟨rfl,o,hk,hc,hd⟩ | ⟨rfl,hk⟩ | ⟨rfl,S,n,hk⟩
  ·obtain ⟨its,_,pl,_⟩:=I.list hq
   refine ⟨pl.isList.typeIs,fun a e=>?_⟩
   cases e
   obtain ⟨o,n,e,c,hd,_⟩:=pl
   exact ⟨o,e,hd⟩
  ·refine ⟨⟨o,I.kIn p o hk,hc⟩,fun a e=>?_⟩
   cases e
   exact ⟨o,I.kIn _ o hk,hd⟩
  ·have z:∃ o,s.heap.get? p=some o∧o.ExactDict:=by
    rcases hk with ⟨kvs,hk⟩ | ⟨kvs,hk⟩
    ·obtain ⟨_,_,_,_,o,_,_,e,ex,_⟩:=I.hok p _ hk
     exact ⟨o,e,ex⟩
    ·obtain ⟨_,_,_,_,o,_,_,e,ex,_⟩:=I.hok p _ hk
     exact ⟨o,e,ex⟩
   obtain ⟨o,e,ex⟩:=z
   refine ⟨⟨o,e,ex.1⟩,fun a e2=>?_⟩
   cases e2
   exact ⟨o,e,ex.2.1⟩
  ·obtain ⟨o,_,_,_,e,ex,_⟩:=I.hok p _ hk
   refine ⟨⟨o,e,ex.1⟩,fun a e2=>?_⟩
   cases e2
   exact ⟨o,e,ex.2.1⟩
 | _=>exact False.elim ty
def tBM (K:PySem.W.Frag) (T:String) (r:V→List V→Hp→VK→Prop) (to:TE) (t:TA):TE:=fun σ H Q=>to σ H fun x H1=>tyV K T x H1∧t σ H1 fun xs H2=>r x xs H2 Q
variable {o e:Expr} {es:List Expr} {to:TE} {t:TA} {name:Str} {apos cpos:Pos} {T id:String} {r:V→List V→Hp→VK→Prop}
theorem pe_bm (pa:PlainAttrs T) (slot:Slot T name id) (hty:typeOf (.builtin id)=pure (.type "method_descriptor")) (hm:MtR X id r) (ho:PE X o to) (ha:PA X (e::es) t)
  (hbase:attributeBase o name X.env (eval o X.env)=eval o X.env:=by rfl)
  (hfew:((backTo cpos (starEach (e::es) X.env)).all (fun x=>!x.1) && (backToKw cpos (keywordEach [] X.env)).all (fun x=>x.1.isSome)
   && decide ((e::es).length + ([]:List Keyword).length + (if ([]:List Keyword).isEmpty then 0 else 1) < 30))=true:=by rfl)
  (hline:(apos.endLine == cpos.line)=true:=by rfl) (hs:starEach (e::es) X.env=(false,eval e X.env)::starEach es X.env:=by rfl) (hplain:(backTo cpos (starEach es X.env)).any (·.1)=false:=by rfl) :
  PE X (.Call (.Attribute o name apos) (e::es) [] cpos) (tBM X.K T r to t):=by
 intro pins s σ H Q I h
 refine wpAny_Call_method_late hbase hfew hline rfl (thn (ho pins s σ H _ I h) fun v s1 ⟨x,H1,I1,r1,ty,q1⟩=>?_)
 obtain ⟨h1,h2⟩:=tyV_is I1 r1 ty
 refine ⟨T,id,pa,slot,hty,h1,h2,?_⟩
 have hA:=ha cpos pins s1 σ H1 _ I1 q1
 rw [hs] at hA ⊢
 refine Calls.callWith_builtin (by show (false || (backTo cpos (starEach es X.env)).any (·.1))=false; rw [hplain] <;> rfl) (Calls.evalArgs_plain ?_)
 exact thn hA fun us s2 ⟨vs,H2,I2,r2,q2⟩=>hm pins s2 σ H2 x vs v us Q I2 r1 r2 q2
end
end L2
namespace L2
open PySem PySem.Spec PyProof.Rows
def MtM (X:Cx) (id:String) (r:V→List V→Hp→VK→Prop):Prop :=
 ∀ (pins:List (Addr×Obj)) (s:Shared) (σ:St) (H:Hp) (x:V) (xs:List V) (v:Value) (us:List Value) (Q:VK),Inv X pins σ H s→RelV x v→Vals xs us→r x xs H Q →
  wpAny (model X.prog X.w) X.A (call (.builtin id) (v::us)) (EP X pins σ Q) X.xe s
theorem Vals.one:∀ {x:V} {us:List Value},Vals [x] us→∃ u,us=[u]∧RelV x u
 | _,_,.cons r .nil=>⟨_,rfl,r⟩
section
variable {X:Cx} {pins:List (Addr×Obj)} {σ:St} {H:Hp} {s:Shared} {l b:Addr} {xs ys zs:List V}
theorem Inv.lset {its its':List Value} {n:Nat} {f:Array Value→Array Value} {t':Nat} (I:Inv X pins σ H s) (hH:H l=some (.lst xs))
  (e:s.heap.get? l=some { cls:=.type "list",data:=.seq its.toArray n }) (hf:f its.toArray=its'.toArray) (hv:Vals ys its') (hz:ys.length≤sizeLine) :
  Inv X pins σ (upd H l (.lst ys)) { s with heap:=s.heap.update l (Obj.mapSeq f),toks:=t' }:=by
 have q:=PySem.IsL.update e f
 rw [hf] at q
 refine I.write (x:=l) (e:=l) (by rw [hH]; exact trivial) (.inl rfl) (fun b' u hb hu=>(Heap.get?_update_other s.heap (Obj.mapSeq f) (Ne.symm hb)).trans hu) ⟨_,q⟩ ?_
 exact ⟨hz,its',_,hv,q⟩
theorem Inv.lnew {its:List Value} {t':Nat} (I:Inv X pins σ H s) (hv:Vals ys its) (hz:ys.length≤sizeLine) :
  Inv X pins σ (upd H s.heap.objs.size (.lst ys)) { s with heap:=s.heap.push { cls:=.type "list",data:=.seq its.toArray },toks:=t' } :=
 I.laid (fun _ _ q=>Heap.get?_push_of_some _ q) (Nat.le_refl _) ⟨hz,its,0,hv,Heap.get?_push_size _ rfl⟩
theorem Inv.fresh (I:Inv X pins σ H s):H s.heap.objs.size=none:=I.hok.fresh (Nat.le_refl _)
theorem Inv.lstM (I:Inv X pins σ H s) (hH:H l=some (.lst xs)):xs.length≤sizeLine∧∃ (its:List Value) (n:Nat),Vals xs its∧xs.length=its.length∧s.heap.get? l=some { cls:=.type "list",data:=.seq its.toArray n }:=by
 obtain ⟨z,its,n,r,e⟩:=I.hok l _ hH
 exact ⟨z,its,n,r,r.length,e⟩
theorem notLongL {n:Nat} (h:n≤sizeLine):Builtin.List.listTooLong n=false:=by
 unfold Builtin.List.listTooLong
 exact decide_eq_false (by omega)
end
section
variable {X:Cx}
def rAppend:V→List V→Hp→VK→Prop:=fun x vs H Q=>∃ l xs y,x=.ref l∧vs=[y]∧H l=some (.lst xs)∧xs.length < sizeLine∧Q .non (upd H l (.lst (xs++[y])))
theorem mt_append:MtM X "list.append" rAppend:=by
 intro pins s σ H x vs v us Q I rx rv h
 obtain ⟨l,xs,y,rfl,rfl,hH,hz,q⟩:=h
 cases rx
 obtain ⟨u,rfl,ru⟩:=rv.one
 obtain ⟨z,its,n,r,hl,e⟩:=I.lstM hH
 refine call_meets F.slot_list_append ⟨_,e,rfl⟩ F.entry_list_append (F.args_list_append_2 _ _) (PySem.list_append l its.toArray n u (by rw [List.size_toArray]; omega)) ⟨e,?_⟩
 refine ⟨.non,_,I.lset (its':=its++[u]) hH e (by simp) (r.append (.cons ru .nil)) ?_,rfl,q⟩
 rw [List.length_append,List.length_singleton]
 omega
def rExtend:V→List V→Hp→VK→Prop:=fun x vs H Q=>∃ l b xs zs,x=.ref l∧vs=[.ref b]∧H l=some (.lst xs)∧H b=some (.lst zs)∧xs.length + zs.length≤sizeLine∧Q .non (upd H l (.lst (xs++zs)))
theorem mt_extend:MtM X "list.extend" rExtend:=by
 intro pins s σ H x vs v us Q I rx rv h
 obtain ⟨l,b,xs,zs,rfl,rfl,hH,hB,hz,q⟩:=h
 cases rx
 obtain ⟨u,rfl,ru⟩:=rv.one
 cases ru
 obtain ⟨z,its,n,r,hl,e⟩:=I.lstM hH
 obtain ⟨z2,its2,n2,r2,hl2,e2⟩:=I.lstM hB
 have hsz:its.toArray.size + its2.toArray.size≤sizeLine:=by rw [List.size_toArray,List.size_toArray]; omega
 have hlong:¬ (!its.toArray.isEmpty && Builtin.List.listTooLong (its.toArray.size + its2.toArray.size))=true:=by
  rw [notLongL hsz,Bool.and_false]
  exact Bool.false_ne_true
 refine call_meets F.slot_list_extend ⟨_,e,rfl⟩ F.entry_list_extend (F.args_list_extend_2 _ _)
  (AutoSeq1.list_extend_list_list_0 l its.toArray n b its2.toArray n2 hlong (by rw [List.size_toArray]; omega) (by omega)) ⟨e,e2,?_⟩
 refine ⟨.non,_,I.lset (its':=its++its2) hH e (by simp) (r.append r2) ?_,rfl,q⟩
 rw [List.length_append]
 omega
def rCat:R2:=fun x y H Q=>∃ l b xs zs,x=.ref l∧y=.ref b∧H l=some (.lst xs)∧H b=some (.lst zs)∧xs.length + zs.length≤sizeLine∧∀ p,H p=none→Q (.ref p) (upd H p (.lst (xs++zs)))
theorem op_cat:OpR X (binaryOp .Add) rCat:=by
 intro pins s σ H x y v u Q I rx ry h
 obtain ⟨l,b,xs,zs,rfl,rfl,hH,hB,hz,q⟩:=h
 cases rx
 cases ry
 obtain ⟨z,its,n,r,hl,e⟩:=I.lstM hH
 obtain ⟨z2,its2,n2,r2,hl2,e2⟩:=I.lstM hB
 refine PySem.P.add_list e e2 ?_ (by rw [List.size_toArray,List.size_toArray]; omega)
 have ea:its.toArray++its2.toArray=(its++its2).toArray:=by simp
 rw [ea]
 exact ⟨.ref _,_,I.lnew (t':=s.toks) (r.append r2) (by rw [List.length_append]; omega),rfl,q _ I.fresh⟩
end
section
variable {prog:Program} {w:World} {A:Around} {E:Value→Shared→Prop} {s:Shared}
end
section
variable {X:Cx}
end
end L2
namespace L2
open PySem PySem.Spec PyProof.Rows
theorem Vals.ints:∀ {ns:List Int} {us:List Value},Vals (ns.map V.int) us→IntsAre us ns
 | [],us,h=>by
  rw [List.map_nil] at h
  cases h
  exact IntsAre.nil
 | n::ns,us,h=>by
  rw [List.map_cons] at h
  cases h with
  | cons r t =>
   obtain ⟨k,rfl⟩:=r
   exact IntsAre.cons n k (Vals.ints t)
theorem vals_of_ints:∀ {us:List Value} {ns:List Int},IntsAre us ns→Vals (ns.map V.int) us
 | _,_,.nil=>by rw [List.map_nil]; exact Paired.nil
 | _,_,.cons n t h=>by rw [List.map_cons]; exact Paired.cons (show RelV (V.int n) (Value.int n t) from ⟨t,rfl⟩) (vals_of_ints h)
theorem Vals.bls:∀ {bs:List Bool} {us:List Value},Vals (bs.map V.bl) us→us=bs.map Value.bool
 | [],us,h=>by
  rw [List.map_nil] at h
  cases h
  rfl
 | b::bs,us,h=>by
  rw [List.map_cons] at h
  cases h with
  | cons r t =>
   cases r
   rw [Vals.bls t,List.map_cons]
theorem Vals.ref1 {a:Addr} {us:List Value} (r:Vals [V.ref a] us):us=[Value.ref a]:=by
 cases r with
 | cons r t =>
  cases t
  cases r
  rfl
section
variable {prog:Program} {w:World} {A:Around} {E:Value→Shared→Prop} {s:Shared} {l:Addr} {its:List Value} {ns:List Int} {Q:Value→Shared→Prop}
theorem sum_raw (hh:A.handled=none) (hl:s.heap.IsList l its.toArray) (hi:IntsAre its ns)
  (h:∀ h' tk t',(∀ b o,s.heap.get? b=some o→h'.get? b=some o)→Q (.int ns.sum t') { s with heap:=h',toks:=tk }):wpAny (model prog w) A (call (.builtin "sum") [.ref l]) Q E s:=by
 obtain ⟨xs,e⟩:=hi.allInts.items
 have hn:numsOf (intItems xs).toList=ns:=by rw [← e]; exact hi.numsOf
 rw [nums_intItems] at hn
 rw [e] at hl
 refine PySem.sum_intListG hh hl fun h' tk t' hk=>?_
 have:=h h' tk t' hk
 rw [preSum_eq,List.take_of_length_le (by simp),hn]; exact this
theorem min_raw (hh:A.handled=none) (hl:s.heap.IsList l its.toArray) (hi:IntsAre its ns) (hne:0 < ns.length)
  (h:∀ h' tk M t',(∀ b o,s.heap.get? b=some o→h'.get? b=some o)→M∈ns→(∀ a,a∈ns→M≤a)→Q (.int M t') { s with heap:=h',toks:=tk }):wpAny (model prog w) A (call (.builtin "min") [.ref l]) Q E s:=by
 obtain ⟨xs,e⟩:=hi.allInts.items
 have hn:numsOf (intItems xs).toList=ns:=by rw [← e]; exact hi.numsOf
 rw [nums_intItems] at hn
 subst hn
 rw [e] at hl
 have hsz:0 < xs.size:=by simpa using hne
 refine PySem.min_intList hh hl hsz fun v h' tk hv hk=>?_
 obtain ⟨t,rfl⟩:=intItems_at hv
 obtain ⟨h1,h2⟩:=argBest_lt (numAt xs) (xs.size - 1)
 refine h h' tk _ t hk ?_ fun a ha=>?_
 ·rw [numAt_eq]; exact PySem.getD_mem (by rw [List.length_map,Array.length_toList]; omega)
 ·obtain ⟨j,hj,rfl⟩:=mem_getD ha
  rw [List.length_map,Array.length_toList] at hj
  rw [← numAt_eq]; exact h2 j (by omega)
end
section
variable {X:Cx}
def rSum (K:PySem.W.Frag):List V→Hp→VK→Prop:=fun vs H Q=>∃ (a:Addr) (ns:List Int),vs=[V.ref a]∧SqL K H a (ns.map V.int)∧Q (.int ns.sum) H
def rMin (K:PySem.W.Frag):List V→Hp→VK→Prop:=fun vs H Q=>∃ (a:Addr) (ns:List Int),vs=[V.ref a]∧SqL K H a (ns.map V.int)∧0 < ns.length∧∀ m,m∈ns→(∀ y,y∈ns→m≤y)→Q (.int m) H
theorem cr_sum (hc:X.calm=true):CallR X (.builtin "sum") (rSum X.K):=by
 intro pins s σ H vs us Q I r h
 obtain ⟨a,ns,rfl,hs,q⟩:=h
 obtain ⟨its,rv,hl,_⟩:=I.list hs
 rw [Vals.ref1 r]
 exact sum_raw (I.ok.hd hc) hl.isList rv.ints fun h' tk t' hk=>⟨.int _,H,I.kept hk,⟨_,rfl⟩,q⟩
theorem cr_min (hc:X.calm=true):CallR X (.builtin "min") (rMin X.K):=by
 intro pins s σ H vs us Q I r h
 obtain ⟨a,ns,rfl,hs,hne,q⟩:=h
 obtain ⟨its,rv,hl,_⟩:=I.list hs
 rw [Vals.ref1 r]
 exact min_raw (I.ok.hd hc) hl.isList rv.ints hne fun h' tk m t' hk h1 h2=>⟨.int _,H,I.kept hk,⟨_,rfl⟩,q m h1 h2⟩
theorem small64 {n:Nat} (h:n < 64):n≤sizeLine:=by rw [sizeLine_eq]; omega
end
section
variable {X:Cx}
def rIndex (K:PySem.W.Frag):V→List V→Hp→VK→Prop:=fun x xs H Q=>∃ (a:Addr) (ys:List V) (y:V) (j:Nat) (z:V),x=V.ref a∧xs=[y]∧SqL K H a ys∧flatV y=true∧ys.all flatV=true∧ys[j]?=some z∧eqV z y=true ∧
 (∀ (m:Nat) (z':V),m < j→ys[m]?=some z'→eqV z' y=false)∧Q (.int (j:Nat)) H
theorem flat_at {ys:List V} (f:ys.all flatV=true) {j:Nat} {z:V} (h:ys[j]?=some z):flatV z=true:=List.all_eq_true.mp f z (List.mem_of_getElem? h)
theorem mt_index:MtR X "list.index" (rIndex X.K):=by
 intro pins s σ H x xs v us Q I rx rxs h
 obtain ⟨a,ys,y,j,z,rfl,rfl,hs,fy,fys,hz,hzj,hno,q⟩:=h
 cases rx
 cases rxs with
 | cons ry rt =>
  rename_i uy ut
  cases rt
  obtain ⟨its,rv,⟨⟨cls,dd,data,sl⟩,n,ho,hc,hdn,hd⟩,hlen⟩:=I.list hs
  simp only at hc hd
  subst hc hd
  obtain ⟨u,hu,ru⟩:=rv.get hz
  obtain ⟨hjl,hje⟩:=List.getElem?_eq_some_iff.mp hu
  have hvl:=rv.length
  have hj:j < its.toArray.size:=by simpa using hjl
  have hsl:=sizeLine_eq
  refine call_meets PySem.F.slot_list_index ⟨_,ho,rfl⟩ PySem.F.entry_list_index (PySem.F.args_list_index_2 _ _)
   (SeqAt.list_indexAt a its.toArray n dd sl uy (eqU y) j hj (by omega) ?_ ?_) ⟨ho,fun u' hu'=>mem_eqAt ry fy rv fys u' (by simpa using hu'),?_⟩
  ·have e1:its.toArray[j]=u:=by simpa using hje
   rw [e1,eqU_of ru (flat_at fys hz)]
   exact hzj
  ·intro m hm hmj
   have hml:m < its.length:=by simpa using hm
   have hmy:m < ys.length:=by omega
   have hy':ys[m]?=some ys[m]:=List.getElem?_eq_getElem hmy
   obtain ⟨u2,hu2,ru2⟩:=rv.get hy'
   obtain ⟨_,hme⟩:=List.getElem?_eq_some_iff.mp hu2
   have e1:its.toArray[m]=u2:=by simpa using hme
   rw [e1,eqU_of ru2 (flat_at fys hy')]
   exact hno m _ hmj hy'
  ·exact ⟨.int (j:Nat),H,I.tok _,⟨_,rfl⟩,q⟩
end
section
variable {X:Cx}
end
theorem iter_any {prog:Program} {w:World} {A:Around} {E:Value→Shared→Prop} {s:Shared} {l:Addr} {items:Array Value} {Q:Value→Shared→Prop} (hl:s.heap.IsList l items)
  (h:∀ s₂:Shared,s₂ = { s with heap:=s.heap.push { cls:=.type "list_iterator",data:=.fields #[.ref l,.int 0 0] } } →
   (s₂.heap.IsListIter s.heap.objs.size l 0∧s₂.heap.IsList l items)→l≠s.heap.objs.size→Q (.ref s.heap.objs.size) s₂):wpAny (model prog w) A (pyIter (.ref l)) Q E s:=by
 have hlt:l < s.heap.objs.size:=by obtain ⟨_,e,_⟩:=hl; exact Heap.lt_size e
 exact wpAny_pyIter_list hl (h _ rfl ⟨⟨_,Heap.get?_push_size _ rfl,rfl,rfl⟩,hl.push _⟩ (Nat.ne_of_lt hlt))
theorem truth_bools {prog:Program} {w:World} {A:Around} {bs:List Bool} {its:List Value} (e:its=bs.map Value.bool) :
  TruthOf prog w A (fun i v=>its.toArray[i]?=some v) (fun i=>bs.getD i false):=fun i v s Q E hv hq=>by
 have hv':its[i]?=some v:=by simpa using hv
 rw [e,List.getElem?_map] at hv'
 obtain ⟨b,hb,rfl⟩:=Option.map_eq_some_iff.mp hv'
 have hg:bs.getD i false=b:=by rw [List.getD_eq_getElem?_getD,hb] <;> rfl
 have hq':Q (bs.getD i false) s:=hq
 rw [hg] at hq'
 exact wpAny_truthy_bool hq'
theorem any_range:∀ bs:List Bool,(List.range bs.length).any (fun i=>bs.getD i false)=bs.any id
 | []=>rfl
 | b::bs=>by
  rw [List.length_cons,List.range_succ_eq_map,List.any_cons,List.any_map,List.any_cons,← any_range bs]
  all_goals rfl
theorem all_range:∀ bs:List Bool,(List.range bs.length).all (fun i=>bs.getD i false)=bs.all id
 | []=>rfl
 | b::bs=>by
  rw [List.length_cons,List.range_succ_eq_map,List.all_cons,List.all_map,List.all_cons,← all_range bs]
  all_goals rfl
section
variable {X:Cx}
def rAny (K:PySem.W.Frag):List V→Hp→VK→Prop:=fun vs H Q=>∃ (a:Addr) (bs:List Bool),vs=[V.ref a]∧SqL K H a (bs.map V.bl)∧Q (.bl (bs.any id)) H
def rAll (K:PySem.W.Frag):List V→Hp→VK→Prop:=fun vs H Q=>∃ (a:Addr) (bs:List Bool),vs=[V.ref a]∧SqL K H a (bs.map V.bl)∧Q (.bl (bs.all id)) H
theorem cr_any (hc:X.calm=true):CallR X (.builtin "any") (rAny X.K):=by
 intro pins s σ H vs us Q I r h
 obtain ⟨a,bs,rfl,hs,q⟩:=h
 obtain ⟨its,rv,hl,_⟩:=I.list hs
 rw [Vals.ref1 r]
 have hb:=rv.bls
 refine call_any_walk (iter_any hl.isList fun s₂ e2 st hne=>?_)
 subst e2
 refine ⟨_,_,_,_,_,_,_,rfl,Walks.list (A:=X.A.in1) (I.ok.hd hc) _ a hne its.toArray,st,truth_bools hb,fun h' tk hk=>?_⟩
 refine ⟨.bl _,H,I.kept fun b o eo=>hk b o (fun hmem=>?_) (Heap.get?_push_of_some _ eo),?_,q⟩
 ·rcases List.mem_cons.mp hmem with e1 | hmem
  ·exact absurd (e1 ▸ Heap.lt_size eo) (Nat.lt_irrefl _)
  ·cases hmem
 ·show Value.bool _=Value.bool _
  rw [← any_range,hb,List.size_toArray,List.length_map]
theorem cr_all (hc:X.calm=true):CallR X (.builtin "all") (rAll X.K):=by
 intro pins s σ H vs us Q I r h
 obtain ⟨a,bs,rfl,hs,q⟩:=h
 obtain ⟨its,rv,hl,_⟩:=I.list hs
 rw [Vals.ref1 r]
 have hb:=rv.bls
 refine call_all_walk (iter_any hl.isList fun s₂ e2 st hne=>?_)
 subst e2
 refine ⟨_,_,_,_,_,_,_,rfl,Walks.list (A:=X.A.in1) (I.ok.hd hc) _ a hne its.toArray,st,truth_bools hb,fun h' tk hk=>?_⟩
 refine ⟨.bl _,H,I.kept fun b o eo=>hk b o (fun hmem=>?_) (Heap.get?_push_of_some _ eo),?_,q⟩
 ·rcases List.mem_cons.mp hmem with e1 | hmem
  ·exact absurd (e1 ▸ Heap.lt_size eo) (Nat.lt_irrefl _)
  ·cases hmem
 ·show Value.bool _=Value.bool _
  rw [← all_range,hb,List.size_toArray,List.length_map]
end
section
variable {X:Cx} {pins:List (Addr×Obj)} {σ:St} {H:Hp} {s:Shared}
end
section
variable {X:Cx}
end
end L2
namespace L2
open PySem PySem.Spec PyProof.Rows
abbrev CellAt (h:Heap) (c:Addr) (v:Option Value):Prop:=h.IsCell c v
def relS (scope sc:Scope):Scope :=
 { scope with names:=scope.names.map fun (n,k)=>if (k == .free && sc.kind == .function && sc.names.lookup n == some .cell) then (n,.cell) else (n,k) }
def cloFrom (cells:List (Str×Addr)):List (Str×NameKind)→List (Str×Addr)→List (Str×Addr)
 | [],acc=>acc
 | (n,k)::r,acc=>if k == .free then cloFrom cells r ((n,(cells.lookup n).getD 0)::acc) else cloFrom cells r acc
theorem closure_loop (env:Env) (f:Str×NameKind→List (Str×Addr)→Sem (ForInStep (List (Str×Addr))))
  (hf:∀ n k c,f (n,k) c=if k == .free then (do let a ← cellOf env n; pure (.yield ((n,a)::c))) else pure (.yield c)) :
  ∀ (names:List (Str×NameKind)) (acc:List (Str×Addr)),(∀ y∈names,y.2=.free→∃ c,env.cells.lookup y.1=some c)→forIn names acc f=pure (cloFrom env.cells names acc)
 | [],acc,_=>by rw [List.forIn_nil]; rfl
 | (n,k)::r,acc,h=>by
  rw [List.forIn_cons,hf]
  have ih:=fun acc=>closure_loop env f hf r acc fun y hy=>h y (List.mem_cons_of_mem _ hy)
  unfold cloFrom
  by_cases hk:(k == NameKind.free)=true
  ·rw [if_pos hk,if_pos hk]
   obtain ⟨c,hc⟩:=h (n,k) List.mem_cons_self (by simpa using hk)
   have e:cellOf env n=pure c:=by unfold cellOf; rw [hc]
   rw [e]
   have e2:(env.cells.lookup n).getD 0=c:=by rw [hc]; rfl
   rw [e2]
   exact ih _
  ·rw [if_neg hk,if_neg hk]
   exact ih _
theorem closure_ok {scope:Scope} {env:Env} (h:∀ y∈scope.names,y.2=.free→∃ c,env.cells.lookup y.1=some c):closureFor scope env=pure (cloFrom env.cells scope.names []):=by
 simp only [closureFor]
 rw [closure_loop env _ (fun n k c=>rfl) scope.names [] h]
 rfl
theorem mem_lookup {α:Type}:∀ {l:List (Str×α)} {n:Str} {c:α},(n,c)∈l→∃ c',l.lookup n=some c'
 | (k,v)::r,n,c,h=>by
  rw [List.lookup_cons]
  cases hb:n == k with
  | true=>exact ⟨_,rfl⟩
  | false =>
   rcases List.mem_cons.mp h with e | h
   ·cases e; simp at hb
   ·exact mem_lookup h
theorem cloFrom_mem {cells:List (Str×Addr)}:∀ {names:List (Str×NameKind)} {acc:List (Str×Addr)} {n:Str} {c:Addr},(n,c)∈cloFrom cells names acc→(n,c)∈acc∨((n,.free)∈names∧c=(cells.lookup n).getD 0)
 | [],_,_,_,h=>.inl h
 | (m,k)::r,acc,n,c,h=>by
  unfold cloFrom at h
  split at h
  ·rename_i hk
   have hk:k=.free:=by simpa using hk
   rcases cloFrom_mem h with h | ⟨h1,h2⟩
   ·rcases List.mem_cons.mp h with e | h
    ·cases e; exact .inr ⟨hk ▸ List.mem_cons_self,rfl⟩
    ·exact .inl h
   ·exact .inr ⟨List.mem_cons_of_mem _ h1,h2⟩
  ·rcases cloFrom_mem h with h | ⟨h1,h2⟩
   ·exact .inl h
   ·exact .inr ⟨List.mem_cons_of_mem _ h1,h2⟩
theorem cloFrom_acc {cells:List (Str×Addr)}:∀ {names:List (Str×NameKind)} {acc:List (Str×Addr)} {p:Str×Addr},p∈acc→p∈cloFrom cells names acc
 | [],_,_,h=>h
 | (m,k)::r,acc,p,h=>by
  unfold cloFrom
  split
  ·exact cloFrom_acc (List.mem_cons_of_mem _ h)
  ·exact cloFrom_acc h
theorem cloFrom_has {cells:List (Str×Addr)}:∀ {names:List (Str×NameKind)} {acc:List (Str×Addr)} {n:Str},(n,.free)∈names→(n,(cells.lookup n).getD 0)∈cloFrom cells names acc
 | (m,k)::r,acc,n,h=>by
  unfold cloFrom
  rcases List.mem_cons.mp h with e | h
  ·cases e
   exact cloFrom_acc List.mem_cons_self
  ·split
   ·exact cloFrom_has h
   ·exact cloFrom_has h
theorem cells_mem:∀ {names:List (Str×NameKind)} {h:Heap} {acc:List (Str×Addr)} {x:Str} {c:Addr},(x,c)∈cellsFrom h.objs.size names acc →
  (x,c)∈acc∨((x,.cell)∈names∧h.objs.size≤c∧CellAt (pushCells h names) c none)
 | [],_,_,_,_,h=>.inl h
 | (n,k)::r,h,acc,x,c,hm=>by
  unfold cellsFrom at hm
  unfold pushCells
  split at hm
  ·rename_i hk
   rw [if_pos hk]
   have hk:k=.cell:=by simpa using hk
   rw [← Heap.size_push h { cls:=.type "cell",data:=.cell none }] at hm
   rcases cells_mem hm with hm | ⟨h1,h2,h3⟩
   ·rcases List.mem_cons.mp hm with e | hm
    ·cases e
     exact .inr ⟨hk ▸ List.mem_cons_self,Nat.le_refl _,_,pushCells_keeps r _ _ _ (Heap.get?_push_size _ rfl),rfl⟩
    ·exact .inl hm
   ·rw [Heap.size_push] at h2
    exact .inr ⟨List.mem_cons_of_mem _ h1,Nat.le_of_succ_le h2,h3⟩
  ·rename_i hk
   rw [if_neg hk]
   rcases cells_mem hm with hm | ⟨h1,h2,h3⟩
   ·exact .inl hm
   ·exact .inr ⟨List.mem_cons_of_mem _ h1,h2,h3⟩
theorem cells_acc:∀ {names:List (Str×NameKind)} {n:Nat} {acc:List (Str×Addr)} {p:Str×Addr},p∈acc→p∈cellsFrom n names acc
 | [],_,_,_,h=>h
 | (m,k)::r,n,acc,p,h=>by
  unfold cellsFrom
  split
  ·exact cells_acc (List.mem_cons_of_mem _ h)
  ·exact cells_acc h
theorem cells_has:∀ {names:List (Str×NameKind)} {n:Nat} {acc:List (Str×Addr)} {x:Str},(x,.cell)∈names→∃ c,(x,c)∈cellsFrom n names acc
 | (m,k)::r,n,acc,x,h=>by
  unfold cellsFrom
  rcases List.mem_cons.mp h with e | h
  ·cases e
   exact ⟨n,cells_acc List.mem_cons_self⟩
  ·split
   ·exact cells_has h
   ·exact cells_has h
theorem cells_inj:∀ {names:List (Str×NameKind)} {h:Heap} {acc:List (Str×Addr)} {x y:Str} {c:Addr},(∀ p∈acc,p.2 < h.objs.size)→(∀ x y c,(x,c)∈acc→(y,c)∈acc→x=y) →
  (x,c)∈cellsFrom h.objs.size names acc→(y,c)∈cellsFrom h.objs.size names acc→x=y
 | [],_,_,_,_,_,_,hi,h1,h2=>hi _ _ _ h1 h2
 | (n,k)::r,h,acc,x,y,c,hl,hi,h1,h2=>by
  unfold cellsFrom at h1 h2
  split at h1
  ·rename_i hk
   rw [if_pos hk] at h2
   rw [← Heap.size_push h { cls:=.type "cell",data:=.cell none }] at h1 h2
   refine cells_inj (h:=h.push _) (fun p hp=>?_) (fun x y c a b=>?_) h1 h2
   ·rw [Heap.size_push]
    rcases List.mem_cons.mp hp with rfl | hp
    ·exact Nat.lt_succ_self _
    ·exact Nat.lt_succ_of_lt (hl p hp)
   ·rcases List.mem_cons.mp a with e | a <;> rcases List.mem_cons.mp b with e' | b
    ·cases e; cases e'; rfl
    ·cases e; exact absurd (hl _ b) (Nat.lt_irrefl _)
    ·cases e'; exact absurd (hl _ a) (Nat.lt_irrefl _)
    ·exact hi _ _ _ a b
  ·rename_i hk
   rw [if_neg hk] at h2
   exact cells_inj hl hi h1 h2
theorem newEnv_comp {M:Model} {A:Around} {E:Value→Shared→Prop} {s:Shared} {scope:Scope} {globals:Addr} {closure:List (Str×Addr)} {qual:Str} {func:Option Addr} {code:Value} {around:Env} {builtins:Addr} {Q:Env→Shared→Prop}
  (h:Q (newEnv scope s.heap.objs.size globals (cellsFrom (s.heap.objs.size + 1) scope.names closure) qual func code (some around) builtins)
   { s with heap:=pushCells (s.heap.push { cls:=.type "dict",data:=.dict #[] }) scope.names }) :
  wpAny M A (newFunctionEnv scope globals closure [] qual func code (some around) builtins) Q E s:=by
 simp only [newFunctionEnv,Option.isSome_some,if_true]
 refine wpAny_bind (wpAny_alloc ?_)
 refine wpAny_bind (wpAny_layCells _ (fun n k c=>rfl) scope.names closure _ _ ?_)
 rw [show ({ s with heap:=s.heap.push { cls:=.type "dict",data:=.dict #[] } }:Shared).heap.objs.size=s.heap.objs.size + 1 from Heap.size_push ..]
 rw [List.forIn_nil]
 exact wpAny_bind (wpAny_pure (wpAny_pure h))
theorem lookup_relS {sc:Scope}:∀ {names:List (Str×NameKind)} {x:Str} {k:NameKind},
  (names.map fun (n,k)=>if (k == NameKind.free && sc.kind == .function && sc.names.lookup n == some .cell) then (n,NameKind.cell) else (n,k)).lookup x=some k →
  ∃ k',names.lookup x=some k'∧(k=k'∨(k'=.free∧k=.cell))
 | [],_,_,h=>by simp at h
 | (n,k₀)::r,x,k,h=>by
  have ih := @lookup_relS sc r x k
  have h':List.lookup x ((if (k₀ == NameKind.free && sc.kind == .function && sc.names.lookup n == some .cell)=true then (n,NameKind.cell) else (n,k₀))::(r.map _))=some k:=h
  cases hx:x == n with
  | true =>
   simp only [List.lookup_cons,hx]
   by_cases hc:(k₀ == NameKind.free && sc.kind == .function && sc.names.lookup n == some .cell)=true
   ·rw [if_pos hc] at h'
    simp only [List.lookup_cons,hx] at h'
    cases h'
    simp only [Bool.and_eq_true,beq_iff_eq] at hc
    exact ⟨k₀,rfl,.inr ⟨hc.1.1,rfl⟩⟩
   ·rw [if_neg hc] at h'
    simp only [List.lookup_cons,hx] at h'
    cases h'
    exact ⟨_,rfl,.inl rfl⟩
  | false =>
   simp only [List.lookup_cons,hx]
   by_cases hc:(k₀ == NameKind.free && sc.kind == .function && sc.names.lookup n == some .cell)=true
   ·rw [if_pos hc] at h'
    simp only [List.lookup_cons,hx] at h'
    exact ih h'
   ·rw [if_neg hc] at h'
    simp only [List.lookup_cons,hx] at h'
    exact ih h'
structure BlkOk (N:List Str) (sc scope:Scope) (own:List (Str×Nat)):Prop where
 kind:scope.kind=.function
 uniq:∀ y∈scope.names,scope.names.lookup y.1=some y.2
 ix:∀ p∈own,N[p.2]?=some p.1
 free:∀ y∈scope.names,y.2=.free→sc.names.lookup y.1=some .cell∨sc.names.lookup y.1=some .free
 own:∀ y∈scope.names,y.2=.local∨y.2=.cell→y.1∈own.map (·.1)∨y.1 ∉ N
def wipe (σ:St):List Nat→St
 | []=>σ
 | v::vs=>(wipe σ vs).set v none
theorem wipe_length (σ:St):∀ vs:List Nat,(wipe σ vs).length=σ.length
 | []=>rfl
 | v::vs=>by unfold wipe; rw [List.length_set,wipe_length σ vs]
theorem wipe_some {σ:St} {i:Nat} {x:V}:∀ {vs:List Nat},(wipe σ vs)[i]?=some (some x)→σ[i]?=some (some x)∧i ∉ vs
 | [],h=>⟨h,by simp⟩
 | v::vs,h=>by
  unfold wipe at h
  by_cases hi:v=i
  ·subst hi
   by_cases hv:v < (wipe σ vs).length
   ·rw [List.getElem?_set_self hv] at h; cases h
   ·rw [List.getElem?_eq_none (by simpa using hv)] at h; cases h
  ·rw [List.getElem?_set_ne hi] at h
   obtain ⟨h1,h2⟩:=wipe_some h
   exact ⟨h1,by simp only [List.mem_cons,not_or]; exact ⟨fun e=>hi e.symm,h2⟩⟩
abbrev Cx.blk (X:Cx) (s:Shared) (H:Hp) (scope:Scope) (cenv:Env) (fp:List Addr):Cx:={ X with s_0:=s,H_0:=H,env:=cenv,outer:=X.stack,ex:=fp,fn:=fun x=>scope.names.lookup x == some .cell,pn:=[],xe:=fun _ _=>False }
section
variable {X:Cx} {pins:List (Addr×Obj)} {σ:St} {H:Hp} {s:Shared}
theorem block_start {scope:Scope} {own:List (Str×Nat)} {fp:List Addr} (I:Inv X pins σ H s) (ok:BlkOk X.N X.env.scope scope own) (hN:X.N.Nodup) (hfp:∀ b∈fp,FpOk X pins H b∧b < s.heap.objs.size) :
  Inv (X.blk s H scope (compEnvC scope (cellsFrom (s.heap.objs.size + 1) scope.names (cloFrom X.env.cells scope.names [])) s.heap.objs.size X.env) fp) [] (wipe σ (own.map (·.2))) H { s with heap:=pushCells (s.heap.push { cls:=.type "dict",data:=.dict #[] }) scope.names }:=by
 have hfree:∀ y∈scope.names,y.2=.free→∃ c,X.env.cells.lookup y.1=some c:=fun y hy e=>by
  rcases ok.free y hy e with k | k
  ·exact I.ok.has _ (.inl k)
  ·exact I.ok.has _ (.inr k)
 generalize hcenv:compEnvC scope (cellsFrom (s.heap.objs.size + 1) scope.names (cloFrom X.env.cells scope.names [])) s.heap.objs.size X.env=cenv
 have kp:∀ b o,s.heap.get? b=some o→(pushCells (s.heap.push { cls:=.type "dict",data:=.dict #[] }) scope.names).get? b=some o:=fun b o e=>pushCells_keeps _ _ _ _ (Heap.get?_push_of_some _ e)
 have hL:cenv.locals=s.heap.objs.size:=by rw [← hcenv]; rfl
 have hcl:cenv.cells=cellsFrom (s.heap.objs.size + 1) scope.names (cloFrom X.env.cells scope.names []):=by rw [← hcenv]; rfl
 have hsc:cenv.scope=relS scope X.env.scope:=by rw [← hcenv]; rfl
 rw [← Heap.size_push s.heap { cls:=.type "dict",data:=.dict #[] }] at hcl
 have cm:∀ {y c},(y,c)∈cloFrom X.env.cells scope.names []→X.env.cells.lookup y=some c∧c < s.heap.objs.size:=fun {y c} hm=>by
  rcases cloFrom_mem hm with hm | ⟨h1,rfl⟩
  ·cases hm
  ·obtain ⟨c,hc⟩:=hfree _ h1 rfl
   rw [hc]
   obtain ⟨w,z⟩:=I.cell _ _ hc
   exact ⟨rfl,z.lt⟩
 have mem:∀ {y c},cenv.cells.lookup y=some c→(X.env.cells.lookup y=some c∧c < s.heap.objs.size)∨(s.heap.objs.size + 1≤c∧CellAt (pushCells (s.heap.push { cls:=.type "dict",data:=.dict #[] }) scope.names) c none):=fun {y c} e=>by
  rw [hcl] at e
  rcases cells_mem (PySem.mem_of_lookup e) with hm | ⟨_,h2,h3⟩
  ·exact .inl (cm hm)
  ·rw [Heap.size_push] at h2; exact .inr ⟨h2,h3⟩
 have look:∀ {y},scope.names.lookup y=some .free→∃ c,cenv.cells.lookup y=some c∧X.env.cells.lookup y=some c:=fun {y} hl=>by
  have hy:(y,NameKind.free)∈scope.names:=PySem.mem_of_lookup hl
  obtain ⟨c',e'⟩:=mem_lookup (cells_acc (names:=scope.names) (n:=(s.heap.push { cls:=.type "dict",data:=.dict #[] }).objs.size) (cloFrom_has (cells:=X.env.cells) (acc:=[]) hy))
  rw [← hcl] at e'
  refine ⟨c',e',?_⟩
  rw [hcl] at e'
  rcases cells_mem (PySem.mem_of_lookup e') with hm | ⟨h1,_,_⟩
  ·exact (cm hm).1
  ·have:=ok.uniq _ h1
   rw [hl] at this; cases this
 have okB:(X.blk s H scope cenv fp).Ok:=by
  refine ⟨I.ok.mod,by show cenv.scope.kind=_; rw [hsc]; exact ok.kind,by show cenv.globals=_; rw [← hcenv]; exact I.ok.glob,by show cenv.builtins=_; rw [← hcenv]; exact I.ok.blt,by show s.heap.objs.size≤cenv.locals; rw [hL]; exact Nat.le_refl _,
   fun y z c e1 e2=>?_,fun y hy=>?_,fun y c z e=>?_,I.ok.hd,I.ok.frames,.inl rfl,fun b hb=>⟨?_,fun y c e z=>?_⟩,I.bs,Nat.le_trans I.ok.bsz I.sz,fun b o e hb=>?_,fun b hb z=>?_,I.stack,I.stkFree⟩
  ·have e1:cenv.cells.lookup y=some c:=e1
   have e2:cenv.cells.lookup z=some c:=e2
   rw [hcl] at e1 e2
   refine cells_inj (fun p hp=>?_) (fun y z c a b=>I.ok.inj y z c (cm a).1 (cm b).1) (PySem.mem_of_lookup e1) (PySem.mem_of_lookup e2)
   rw [Heap.size_push]
   exact Nat.lt_succ_of_lt (cm (y:=p.1) (c:=p.2) hp).2
  ·show ∃ c,cenv.cells.lookup y=some c
   have key:∀ k,cenv.kindOf y=some k→(k=.cell∨k=.free)→∃ c,cenv.cells.lookup y=some c:=fun k hk hk'=>by
    unfold Env.kindOf at hk
    rw [hsc] at hk
    obtain ⟨k',e,r⟩:=lookup_relS hk
    have:k'=.cell∨k'=.free:=by
     rcases r with rfl | ⟨rfl,_⟩
     ·exact hk'
     ·exact .inr rfl
    rcases this with rfl | rfl
    ·obtain ⟨c,hm⟩:=cells_has (n:=(s.heap.push { cls:=.type "dict",data:=.dict #[] }).objs.size) (acc:=cloFrom X.env.cells scope.names []) (PySem.mem_of_lookup e)
     obtain ⟨c',e'⟩:=mem_lookup hm
     exact ⟨c',by rw [hcl]; exact e'⟩
    ·obtain ⟨c,h1,_⟩:=look e
     exact ⟨c,h1⟩
   rcases hy with hy | hy
   ·exact key _ hy (.inl rfl)
   ·exact key _ hy (.inr rfl)
  ·have z:(scope.names.lookup y == some NameKind.cell)=true:=z
   have z:scope.names.lookup y=some .cell:=by simpa using z
   have e:cenv.cells.lookup y=some c:=e
   rw [hcl] at e
   rcases cells_mem (PySem.mem_of_lookup e) with hm | ⟨_,h2,_⟩
   ·rcases cloFrom_mem hm with hm | ⟨h1,_⟩
    ·cases hm
    ·have q:=ok.uniq _ h1
     rw [z] at q; cases q
   ·rw [Heap.size_push] at h2
    exact Nat.le_of_succ_le h2
  ·show b≠cenv.locals
   rw [hL]; exact Nat.ne_of_lt (hfp b hb).2
  ·have e:cenv.cells.lookup y=some c:=e
   rcases mem e with ⟨h1,_⟩ | ⟨h1,_⟩
   ·exact (hfp b hb).1.2.2.2.2.1 y c h1 z
   ·have h2:s.heap.objs.size + 1≤b:=by rw [← z]; exact h1
    exact absurd (Nat.lt_of_lt_of_le (hfp b hb).2 (Nat.le_of_succ_le h2)) (Nat.lt_irrefl _)
  ·rcases (hfp b hb).1.2.2.2.1 with z | z
   ·exact I.ok.noex b o e z
   ·exact absurd (Nat.lt_of_lt_of_le (Heap.lt_size e) (Nat.le_trans I.ok.bsz z)) (Nat.lt_irrefl _)
  ·rcases List.mem_cons.mp (I.stkSub b z) with z | z
   ·exact (hfp b hb).1.2.1 z
   ·exact (hfp b hb).1.2.2.1 z
 refine ⟨okB,rfl,I.bare,Un.kept kp,⟨fun _=>none,?_,fun i y av e1 e2 e3=>?_⟩,fun y c e=>?_,?_,fun y c e=>?_,fun p hp=>?_,I.hok.kept kp,by rw [wipe_length]; exact I.len⟩
 ·show Heap.Ns _ cenv.locals _
  rw [hL]
  exact Heap.Ns.keeps (Heap.Ns.new ..) fun b o e=>pushCells_keeps _ _ _ _ e
 ·obtain ⟨e2,hne⟩:=wipe_some e2
  have hfr:scope.names.lookup y=some .free∧(cenv.kindOf y=some .cell∨cenv.kindOf y=some .free):=by
   have key:∀ k,cenv.scope.names.lookup y=some k→k=.local∨k=.cell∨k=.free→scope.names.lookup y=some .free∧(cenv.kindOf y=some .cell∨cenv.kindOf y=some .free):=fun k hk hk'=>by
    have hk0:=hk
    rw [hsc] at hk
    obtain ⟨k',e,r⟩:=lookup_relS hk
    have no:¬ (k'=.local∨k'=.cell):=fun hh=>by
     rcases ok.own _ (PySem.mem_of_lookup e) hh with e' | e'
     ·obtain ⟨p,hp,hpy⟩:=List.mem_map.mp e'
      have e3:=ok.ix p hp
      have:p.1=y:=hpy
      rw [this] at e3
      exact hne (List.mem_map.mpr ⟨p,hp,nodup_ix hN e3 e1⟩)
     ·exact e' (List.mem_of_getElem? e1)
    rcases r with rfl | ⟨rfl,rfl⟩
    ·rcases hk' with rfl | rfl | rfl
     ·exact absurd (.inl rfl) no
     ·exact absurd (.inr rfl) no
     ·exact ⟨e,.inr hk0⟩
    ·exact ⟨e,.inl hk0⟩
   have e3:Vis cenv.scope y:=e3
   rcases e3 with e3 | e3 | e3
   ·exact key _ e3 (.inl rfl)
   ·exact key _ e3 (.inr (.inl rfl))
   ·exact key _ e3 (.inr (.inr rfl))
  obtain ⟨m,hn,hl⟩:=I.loc
  have hvis:Vis X.env.scope y:=(ok.free _ (PySem.mem_of_lookup hfr.1) rfl).elim (fun k=>.inr (.inl k)) (fun k=>.inr (.inr k))
  obtain ⟨w,r,q⟩:=hl i y av e1 e2 hvis
  refine ⟨w,r,.inr ⟨hfr.2,?_⟩⟩
  obtain ⟨c,h1,h2⟩:=look hfr.1
  rcases q with ⟨k,_⟩ | ⟨_,c',e',z⟩
  ·have k:X.env.scope.names.lookup y=some .local:=k
   rcases ok.free _ (PySem.mem_of_lookup hfr.1) rfl with k' | k' <;> rw [show X.env.scope.names.lookup y=_ from k'] at k <;> cases k
  ·rw [h2] at e'; cases e'
   exact ⟨c,h1,z.keeps kp⟩
 ·have e:cenv.cells.lookup y=some c:=e
  rcases mem e with ⟨h1,_⟩ | ⟨_,z⟩
  ·obtain ⟨w,z⟩:=I.cell y c h1
   exact ⟨w,z.keeps kp⟩
  ·exact ⟨_,z⟩
 ·show H cenv.locals=none
  rw [hL]; exact I.hok.fresh (Nat.le_refl _)
 ·have e:cenv.cells.lookup y=some c:=e
  rcases mem e with ⟨h1,_⟩ | ⟨h1,_⟩
  ·exact I.freeC y c h1
  ·exact I.hok.fresh (Nat.le_of_succ_le h1)
 ·exact absurd (show p∈([]:List (Addr×Obj))++[] from hp) (by simp)
theorem app_ok {E:Value→Shared→Prop} {D:Addr} {xs:List V} {y:V} {v:Value} {Q:Value→Shared→Prop} (I:Inv X pins σ H s) (hD:H D=some (.lst xs)) (hz:xs.length < sizeLine) (r:RelV y v)
  (h:∀ s',Inv X pins σ (upd H D (.lst (xs++[y]))) s'→Q .none s'):wpAny (model X.prog X.w) X.A (call (.builtin "list.append") [.ref D,v]) Q E s:=by
 obtain ⟨hz',its,n,ri,e⟩:=I.hok D _ hD
 have hl:=ri.length
 refine append_at (hsz:=by rw [List.size_toArray]; omega) e fun h' sb ho'=>?_
 refine h { s with heap:=h' } (I.write (t':=s.toks) (by rw [hD]; trivial) (.inl rfl) (fun b u hb q=>(sb.2 b hb).trans q) ⟨_,ho'⟩ ⟨by rw [List.length_append]; exact hz,its++[v],n + 1,ri.append (.cons r .nil),?_⟩)
 rw [ho']
 simp
def PTs (X:Cx) (ifs:List Expr) (t:TT):Prop :=
 ∀ (pins:List (Addr×Obj)) (s:Shared) (σ:St) (H:Hp) (Q:Bool→Hp→Prop),Inv X pins σ H s→t σ H Q →
  wpAny (model X.prog X.w) X.A (forIn ifs true fun c r=>if r=true then do let ok ← isTrue c X.env (eval c X.env); pure (ForInStep.yield ok) else pure (ForInStep.yield r)) (TP X pins σ Q) X.xe s
def tYes:TT:=fun _ H Q=>Q true H
theorem pts_nil:PTs X [] tYes:=fun _ _ _ H _ I h=>wpAny_tests_nil ⟨H,I,h⟩
theorem pts_one {c:Expr} {t:TT} (h:PT X c t):PTs X [c] t:=fun pins s σ H Q I hw=>wpAny_tests_one (h pins s σ H Q I hw)
end
theorem thnF {α:Type} {t:Sem α} {Q Q':α→Shared→Prop} {M:Model} {A:Around} {E:Value→Shared→Prop} {s:Shared} (h:wpAny M A t Q (fun _ _=>False) s) (hQ:∀ a s,Q a s→Q' a s):wpAny M A t Q' E s:=wpAny_mono h hQ fun _ _ z=>False.elim z
theorem compLoop_any {prog:Program} {w:World} {A:Around} {R:Result→Shared→Prop} {s:Shared} {elt target iter:Expr} {ifs:List Expr} {scope:Scope} {pos:Pos} {it acc:Value} {env:Env} (I:Nat→Shared→Prop)
  (turn:∀ n s,I n s→wpAny (model prog w) A (pyNext it) (fun r s₁=>match r with
   | none=>R (.ok .next) s₁
   | some v=>wpAny (model prog w) A (letOwnedTupleGo target it v) (fun _ s₁'=>wpAny (model prog w) A (assign target env v) (fun _ s₂ =>
     wpAny (model prog w) A (forIn ifs true fun c r=>if r=true then do let ok ← isTrue c env (eval c env); pure (ForInStep.yield ok) else pure (ForInStep.yield r)) (fun ok s₃ =>
      if ok=true then wpAny (model prog w) A (eval elt env) (fun x s₄ =>
       wpAny (model prog w) A (call (.builtin "list.append") [acc,x]) (fun _ s₅=>∃ m,m < n∧I m s₅) (notedBy (model prog w) A env fun e s'=>R (.error e) s') s₄) (notedBy (model prog w) A env fun e s'=>R (.error e) s') s₃
      else ∃ m,m < n∧I m s₃) (notedBy (model prog w) A env fun e s'=>R (.error e) s') s₂) (notedBy (model prog w) A env fun e s'=>R (.error e) s') s₁') (notedBy (model prog w) A env fun e s'=>R (.error e) s') s₁) (notedBy (model prog w) A env fun e s'=>R (.error e) s') s)
  (n:Nat) (h:I n s) :
  codeAny (model prog w) A (.compLoop (.ListComp elt [⟨target,iter,ifs,0⟩] scope pos) 0 it acc env) R s:=by
 refine codeAny_loop rfl I (fun n s hI=>?_) n h
 show wpAny _ A ((compTurn (.ListComp elt [⟨target,iter,ifs,0⟩] scope pos) 0 it acc env).onRaise (fun x=>do noteFrame x env; theTreesLotGoes x)) _ _ s
 refine wpAny_noted ?_
 rw [compTurn_list]
 refine wpAny_bind (wpAny_standAt (wpAny_bind (wpAny_mono (turn n s hI) (fun r s₁ h₁=>?_) fun _ _ h'=>h')))
 cases r with
 | none=>exact wpAny_pure h₁
 | some v =>
  refine wpAny_bind (wpAny_mono h₁ (fun _ s₁' h₁'=>?_) fun _ _ h'=>h')
  refine wpAny_bind (wpAny_mono h₁' (fun _ s₂ h₂=>wpAny_bind (wpAny_mono h₂ (fun ok s₃ h₃=>?_) fun _ _ h'=>h')) fun _ _ h'=>h')
  cases ok with
  | false=>exact wpAny_pure ⟨rfl,h₃⟩
  | true =>
   exact wpAny_bind (wpAny_bind (wpAny_mono h₃ (fun x s₄ h₄=>wpAny_bind (wpAny_mono h₄ (fun _ s₅ h₅=>wpAny_pure (wpAny_pure ⟨rfl,h₅⟩)) fun _ _ h'=>h')) fun _ _ h'=>h'))
section
variable {X:Cx}
def tLc (wi:TI) (g:TG) (tt:TT) (te:TE) (vs:List Nat):TE:=fun σ H Q=>wi σ H fun J H1=>∀ D,H1 D=none→∃ W:Nat→Nat→Hp→Prop,(∃ m,W 0 m (upd H1 D (.lst [])))∧∀ i m H,W i m H →
 (J.stop i H∧Q (.ref D) H)∨(J.go i H∧∃ Nx:Hp→Prop,(∀ H',Nx H'→∃ m',m' < m∧W (i + 1) m' H')∧∀ x H',J.yld i H x H'→g x (wipe σ vs) H' fun σ2 H2=>wipe σ2 vs=wipe σ vs∧tt σ2 H2 fun b H3 =>
  if b=true then te σ2 H3 fun y H4=>∃ acc,H4 D=some (.lst acc)∧acc.length < sizeLine∧Nx (upd H4 D (.lst (acc++[y]))) else Nx H3)
theorem lc_core {pins:List (Addr×Obj)} {s:Shared} {σ:St} {H:Hp} {Q:VK} {elt tg iter:Expr} {ifs:List Expr} {scope:Scope} {own:List (Str×Nat)} {pos pos':Pos} {wi:TI} {g:TG} {tt:TT} {te:TE} {use:Option (Value→Sem Unit)} {Qf:Value→Shared→Prop}
  (hc:X.calm=true) (hN:X.N.Nodup) (I:Inv X pins σ H s) (hi:PI X tg iter wi) (ok:BlkOk X.N X.env.scope scope own)
  (hg:∀ (s:Shared) (H:Hp) (C:Addr) (cl:List (Str×Addr)) (fp:List Addr),PG (X.blk s H scope (compEnvC scope cl C X.env) fp) tg g) (ht:∀ (s:Shared) (H:Hp) (C:Addr) (cl:List (Str×Addr)) (fp:List Addr),PTs (X.blk s H scope (compEnvC scope cl C X.env) fp) ifs tt)
  (he:∀ (s:Shared) (H:Hp) (C:Addr) (cl:List (Str×Addr)) (fp:List Addr),PE (X.blk s H scope (compEnvC scope cl C X.env) fp) elt te) (hs:∀ x,foldedSetIterable iter X.env x=pure x)
  (h:tLc wi g tt te (own.map (·.2)) σ H Q)
  (hRR:∀ D C s' m H',Inv X pins σ H' s'→Q (.ref D) H'→s'.heap.Ns C m→FpOk X pins H' C→compPost (model X.prog X.w) X.A X.xe use Qf (.ref D) C (.ok .next) s') :
  wpAny (model X.prog X.w) X.A (comprehension (.ListComp elt [⟨tg,iter,ifs,0⟩] scope pos) scope X.env pos' (newList []) false (eval iter X.env) use) Qf X.xe s:=by
 have hfree:∀ y∈scope.names,y.2=.free→∃ c,X.env.cells.lookup y.1=some c:=fun y hy e=>by
  rcases ok.free y hy e with k | k
  ·exact I.ok.has _ (.inl k)
  ·exact I.ok.has _ (.inr k)
 refine wpAny_comprehension_free (use:=use) rfl hs (closure_ok hfree) ok.kind (fun y hy e=>by rw [ok.uniq y hy,e])
  (thn (hi pins s σ H _ I h) fun xv s1 hx=>thn hx fun itv s2 h2=>?_)
 obtain ⟨it,fp,tn,J,H2,e,I2,T,st2,f2,q⟩:=h2
 subst e
 refine wpAny_newObj_type (newEnv_comp ?_) (by show 0≤sizeLine; decide)
 generalize hD:s2.heap.objs.size=D
 have hDn:H2 D=none:=I2.hok.fresh (Nat.le_of_eq hD)
 obtain ⟨W,⟨m0,w0⟩,turn⟩:=q D hDn
 generalize hs3:({ s2 with heap:=s2.heap.push { cls:=.type "list",data:=.seq ([]:List Value).toArray } }:Shared)=s3
 have I3:Inv X pins σ (upd H2 D (.lst [])) s3:=by
  rw [← hs3]
  refine I2.laid (t':=s2.toks) (fun b o e=>Heap.get?_push_of_some _ e) (Nat.le_of_eq hD) ⟨Nat.zero_le _,[],0,.nil,?_⟩
  rw [← hD]
  exact Heap.get?_push_size _ rfl
 have h3:s3.heap=s2.heap.push { cls:=.type "list",data:=.seq ([]:List Value).toArray }:=by rw [← hs3]
 have sz:∀ b∈fp,b < s2.heap.objs.size:=fun b hb=>by
  obtain ⟨o,e,_⟩:=T.obj _ _ st2 b hb
  exact Heap.lt_size e
 have f3:∀ b∈fp,FpOk X pins (upd H2 D (.lst [])) b∧b < s3.heap.objs.size:=fun b hb=>by
  have hlt:=sz b hb
  refine ⟨⟨?_,(f2 b hb).2⟩,by rw [h3,Heap.size_push]; exact Nat.lt_succ_of_lt hlt⟩
  rw [upd_ne (by rw [← hD]; exact Nat.ne_of_lt hlt)]
  exact (f2 b hb).1
 have st3:tn 0 s3.heap:=T.keep _ _ _ st2 fun b _ o e=>by rw [h3]; exact Heap.get?_push_of_some _ e
 have I4:=block_start I3 ok hN f3
 have pg:=hg s3 (upd H2 D (.lst [])) s3.heap.objs.size (cellsFrom (s3.heap.objs.size + 1) scope.names (cloFrom X.env.cells scope.names [])) fp
 have pt:=ht s3 (upd H2 D (.lst [])) s3.heap.objs.size (cellsFrom (s3.heap.objs.size + 1) scope.names (cloFrom X.env.cells scope.names [])) fp
 have pe:=he s3 (upd H2 D (.lst [])) s3.heap.objs.size (cellsFrom (s3.heap.objs.size + 1) scope.names (cloFrom X.env.cells scope.names [])) fp
 show codeAny _ _ (.compStart (.ListComp elt [⟨tg,iter,ifs,0⟩] scope pos) 0 (.ref it) (.ref D) (compEnvC scope (cellsFrom (s3.heap.objs.size + 1) scope.names (cloFrom X.env.cells scope.names [])) s3.heap.objs.size X.env)) (compPost (model X.prog X.w) X.A X.xe use Qf (.ref D) s3.heap.objs.size) { s3 with heap:=pushCells (s3.heap.push { cls:=.type "dict",data:=.dict #[] }) scope.names }
 have nfp:∀ b∈fp,(upd H2 D (.lst [])) b=none:=fun b hb=>(f3 b hb).1.1
 generalize hce:compEnvC scope (cellsFrom (s3.heap.objs.size + 1) scope.names (cloFrom X.env.cells scope.names [])) s3.heap.objs.size X.env=ce at I4 pg pt pe ⊢
 have cL:ce.locals=s3.heap.objs.size:=by subst hce; rfl
 generalize hH3:upd H2 D (.lst [])=H3 at I3 I4 pg pt pe w0 nfp f3
 generalize hs4:({ s3 with heap:=pushCells (s3.heap.push { cls:=.type "dict",data:=.dict #[] }) scope.names }:Shared)=s4 at I4 ⊢
 have st4:tn 0 s4.heap:=T.keep _ _ _ st3 fun b _ o e=>by rw [← hs4]; exact pushCells_keeps _ _ _ _ (Heap.get?_push_of_some _ e)
 have stat:∀ {σ':St} {H':Hp} {s':Shared},Inv (X.blk s3 H3 scope ce fp) [] σ' H' s'→(∀ b∈fp,H' b=none)→∀ b∈fp,FpOk (X.blk s3 H3 scope ce fp) [] H' b:=fun {σ' H' s'} I' hn b hb =>
  ⟨hn b hb,(I'.ok.exf b hb).1,I'.ok.exfs b hb,.inl hb,fun x c e=>(I'.ok.exf b hb).2 x c e,fun p hp=>absurd (show p∈([]:List (Addr×Obj))++[] from hp) (by simp)⟩
 have loop:codeAny (model X.prog X.w) X.A (.compLoop (.ListComp elt [⟨tg,iter,ifs,0⟩] scope pos) 0 (.ref it) (.ref D) ce) (compPost (model X.prog X.w) X.A X.xe use Qf (.ref D) s3.heap.objs.size) s4:=by
  refine compLoop_any (fun n s'=>∃ i H',Inv (X.blk s3 H3 scope ce fp) [] (wipe σ (own.map (·.2))) H' s'∧tn i s'.heap∧(∀ b∈fp,H' b=none)∧W i n H') ?_ m0 ⟨0,H3,I4,st4,nfp,w0⟩
  rintro n s5 ⟨i,H5,I5,st5,n5,w5⟩
  rcases turn i n H5 w5 with ⟨stop,qq⟩ | ⟨go,Nx,hNx,step⟩
  ·have td:=T.done (X.blk s3 H3 scope ce fp) rfl rfl rfl hc i [] s5 _ H5 (fun _ _=>False) I5 (stat I5 n5) st5 stop
   refine thnF td fun r s6 ⟨hr,I6⟩=>?_
   subst hr
   have I7:Inv X pins σ H5 s6:=I3.call' (ch:=fp) I6.os I6.base I6.hok I6.bare fun b hb=>⟨(f3 b hb).1.2.2.2.1,(f3 b hb).1.2.1,(f3 b hb).1.2.2.2.2.1,(f3 b hb).1.2.2.2.2.2⟩
   have nC:H5 s3.heap.objs.size=none:=by
    have z:H5 ce.locals=none:=I6.free
    rw [cL] at z
    exact z
   obtain ⟨m,hn,_⟩:=I6.loc
   have hn:s6.heap.Ns ce.locals m:=hn
   rw [cL] at hn
   exact hRR D s3.heap.objs.size s6 m H5 I7 qq hn (I3.fpOk (Nat.le_refl _) nC)
  ·have ti:=T.item (X.blk s3 H3 scope ce fp) rfl rfl rfl hc i [] s5 _ H5 (fun _ _=>False) I5 (stat I5 n5) st5 go
   refine thnF ti fun r s6 ⟨u,hr,h6⟩=>?_
   subst hr
   refine thnF h6 fun _ s7 ⟨x,H7,I7,r7,y7,st7,n7⟩=>?_
   have I7':=I7.pinned (stat I7 n7) (T.obj _ _ st7)
   refine thnF (pg _ s7 _ H7 x u _ I7' r7 (step x H7 y7)) fun _ s8 ⟨σ8,H8,I8,hw8,q8⟩=>?_
   refine thnF (pt _ s8 σ8 H8 _ I8 q8) fun b s9 ⟨H9,I9,q9⟩=>?_
   have fin:∀ {s':Shared} {H':Hp},Inv (X.blk s3 H3 scope ce fp) ([]++pinsAt fp s7.heap) σ8 H' s'→Nx H'→∃ m,m < n∧∃ i H',Inv (X.blk s3 H3 scope ce fp) [] (wipe σ (own.map (·.2))) H' s'∧tn i s'.heap∧(∀ b∈fp,H' b=none)∧W i m H':=fun {s' H'} I' nx=>by
    obtain ⟨m',hm,w'⟩:=hNx H' nx
    have pin':∀ b∈fp,∀ o,s7.heap.get? b=some o→s'.heap.get? b=some o∧H' b=none:=fun b hb o e =>
     let z:=I'.pin (b,o) (List.mem_append_right _ (List.mem_append_right _ (mem_pinsAt hb e)))
     ⟨z.1,z.2.1⟩
    have hl:(wipe σ (own.map (·.2))).length=σ8.length:=by rw [← hw8,wipe_length]
    refine ⟨m',hm,i + 1,H',(I'.unpinned (pins:=[])).weak hl (fun j v e=>?_),T.keep _ _ _ st7 fun b hb o e=>(pin' b hb o e).1,fun b hb=>?_,w'⟩
    ·rw [← hw8] at e
     exact (wipe_some e).1
    ·obtain ⟨o,e,_⟩:=T.obj _ _ st7 b hb
     exact (pin' b hb o e).2
   cases b with
   | false =>
    simp only [Bool.false_eq_true,if_false] at q9 ⊢
    exact fin I9 q9
   | true =>
    simp only [if_true] at q9 ⊢
    refine thnF (pe _ s9 σ8 H9 _ I9 q9) fun z s10 ⟨yv,H10,I10,r10,acc,hD10,hz10,nx⟩=>?_
    exact app_ok (X:=X.blk s3 H3 scope ce fp) I10 hD10 hz10 r10 fun s11 I11=>fin I11 nx
 exact codeAny_compStart_list loop (T.self X.A 0 _ _ _ st4 loop)
theorem pe_lc {elt tg iter:Expr} {ifs:List Expr} {scope:Scope} {own:List (Str×Nat)} {pos:Pos} {wi:TI} {g:TG} {tt:TT} {te:TE} (hc:X.calm=true) (hN:X.N.Nodup) (hi:PI X tg iter wi) (ok:BlkOk X.N X.env.scope scope own)
  (hg:∀ (s:Shared) (H:Hp) (C:Addr) (cl:List (Str×Addr)) (fp:List Addr),PG (X.blk s H scope (compEnvC scope cl C X.env) fp) tg g) (ht:∀ (s:Shared) (H:Hp) (C:Addr) (cl:List (Str×Addr)) (fp:List Addr),PTs (X.blk s H scope (compEnvC scope cl C X.env) fp) ifs tt)
  (he:∀ (s:Shared) (H:Hp) (C:Addr) (cl:List (Str×Addr)) (fp:List Addr),PE (X.blk s H scope (compEnvC scope cl C X.env) fp) elt te) (hs:∀ x,foldedSetIterable iter X.env x=pure x:=by intro _; rfl) :
  PE X (.ListComp elt [⟨tg,iter,ifs,0⟩] scope pos) (tLc wi g tt te (own.map (·.2))):=by
 intro pins s σ H Q I h
 rw [eval_ListComp]
 refine lc_core hc hN I hi ok hg ht he hs h fun D C s' m H' I' q hn f=>⟨m,hn,fun h'' sb=>?_⟩
 obtain ⟨f0,f1,f2,f3,f4,f5⟩:=f
 exact ⟨.ref D,H',I'.turned (t':=s'.toks) (fun b o hb e=>(sb.2 b hb).trans e) f0 f1 f3 f4 f5,rfl,q⟩
theorem ps_setLc {i:Nat} {y:Str} {py:Pos} {elt tg iter:Expr} {ifs:List Expr} {scope:Scope} {own:List (Str×Nat)} {pos spos:Pos} {wi:TI} {g:TG} {tt:TT} {te:TE} (hc:X.calm=true) (hN:X.N.Nodup) (hy:X.N[i]?=some y) (hyl:X.env.scope.names.lookup y=some .local)
  (hsw:swapsWith (.ListComp elt [⟨tg,iter,ifs,0⟩] scope pos) (some (.Name y py)) spos.line X.env=pure true) (hi:PI X tg iter wi) (ok:BlkOk X.N X.env.scope scope own)
  (hg:∀ (s:Shared) (H:Hp) (C:Addr) (cl:List (Str×Addr)) (fp:List Addr),PG (X.blk s H scope (compEnvC scope cl C X.env) fp) tg g) (ht:∀ (s:Shared) (H:Hp) (C:Addr) (cl:List (Str×Addr)) (fp:List Addr),PTs (X.blk s H scope (compEnvC scope cl C X.env) fp) ifs tt)
  (he:∀ (s:Shared) (H:Hp) (C:Addr) (cl:List (Str×Addr)) (fp:List Addr),PE (X.blk s H scope (compEnvC scope cl C X.env) fp) elt te) (hs:∀ x,foldedSetIterable iter X.env x=pure x:=by intro _; rfl) :
  PS X (.Assign [.Name y py] (.ListComp elt [⟨tg,iter,ifs,0⟩] scope pos) spos) (tAsg (tLc wi g tt te (own.map (·.2))) (gName i)):=by
 intro pins s σ H D I h
 rw [exec_Assign_Name_used _ _ _ _ hsw]
 refine wpAny_bind (wpAny_standAt (wpAny_bind ?_))
 show wpAny _ X.A (do let _ ← comprehension (.ListComp elt [⟨tg,iter,ifs,0⟩] scope pos) scope X.env (firstIterPos [⟨tg,iter,ifs,0⟩] pos) (newList []) false (eval iter X.env) (some (assign (.Name y py) X.env))) _ _ s
 have h:tLc wi g tt te (own.map (·.2)) σ H (fun x H1=>gName i x σ H1 D.nx):=h
 refine wpAny_bind (thn (lc_core (Qf:=fun _ s'=>SP X pins D .next s') hc hN I hi ok hg ht he hs h fun L C s' m H' I' q hn f=>?_) fun _ s' hq=>wpAny_pure (wpAny_pure hq))
 show wpAny _ _ (assign (.Name y py) X.env (.ref L)) _ _ _
 refine wpAny_assign_Name (store_ok2 (v:=V.ref L) I' hN hy (.inl hyl) rfl (fun s2 I2 ⟨a,sb,ha⟩=>?_) (.inr hyl))
 obtain ⟨f0,f1,f2,f3,f4,f5⟩:=f
 have haC:C≠a:=by
  rcases ha with z | z
  ·rw [z]; exact f1
  ·exact fun e=>f4 y a z e.symm
 refine ⟨m,hn.sameBut sb haC,fun h3 sb3=>?_⟩
 exact ⟨_,H',I2.turned (t':=s2.toks) (fun b o hb e=>(sb3.2 b hb).trans e) f0 f1 f3 f4 f5,q⟩
theorem sw_true {elt:Expr} {gs:List Comprehension} {scope:Scope} {pos py:Pos} {y:Str} {l:Nat} {env:Env} (hk:env.scope.kind=.function) (hy:env.scope.names.lookup y=some .local) (hl:(py.line == pos.line)=true)
  (ha:(scope.names.any fun (n,k)=>n == y && (k == .local || k == .cell))=false):swapsWith (.ListComp elt gs scope pos) (some (.Name y py)) l env=pure true:=by
 have ky:env.kindOf y=some .local:=hy
 have hb:env.blockKind=.function:=by unfold Env.blockKind; rw [hk]; rfl
 unfold swapsWith
 simp only [hb,ky,ha,Expr.pos,hl]
 rfl
end
theorem lc_list {K:PySem.W.Frag} {a:Addr} {xs:List V} {g:TG} {tt:TT} {te:TE} {vs:List Nat} {σ:St} {H1:Hp} {D:Addr} {Qd:Hp→Prop} (Pv:Nat→Hp→Prop) (h0:Pv 0 (upd H1 D (.lst []))) (hl:∀ i H,i≤xs.length→Pv i H→SqL K H a xs)
  (hs:∀ i x H,xs[i]?=some x→Pv i H→g x (wipe σ vs) H fun σ2 H2=>wipe σ2 vs=wipe σ vs∧tt σ2 H2 fun b H3 =>
   if b=true then te σ2 H3 fun y H4=>∃ acc,H4 D=some (.lst acc)∧acc.length < sizeLine∧Pv (i + 1) (upd H4 D (.lst (acc++[y]))) else Pv (i + 1) H3) (hd:∀ H,Pv xs.length H→Qd H) :
  ∃ W:Nat→Nat→Hp→Prop,(∃ m,W 0 m (upd H1 D (.lst [])))∧∀ i m H,W i m H →
   ((Itl K a).stop i H∧Qd H)∨((Itl K a).go i H∧∃ Nx:Hp→Prop,(∀ H',Nx H'→∃ m',m' < m∧W (i + 1) m' H')∧∀ x H',(Itl K a).yld i H x H'→g x (wipe σ vs) H' fun σ2 H2=>wipe σ2 vs=wipe σ vs∧tt σ2 H2 fun b H3 =>
    if b=true then te σ2 H3 fun y H4=>∃ acc,H4 D=some (.lst acc)∧acc.length < sizeLine∧Nx (upd H4 D (.lst (acc++[y]))) else Nx H3):=by
 refine ⟨fun i m H=>m=xs.length - i∧i≤xs.length∧Pv i H,⟨xs.length,by simp,Nat.zero_le _,h0⟩,?_⟩
 rintro i m H ⟨rfl,hi,p⟩
 have q:=hl i H hi p
 by_cases hlt:i < xs.length
 ·refine .inr ⟨⟨xs,xs[i],q,by simp [hlt]⟩,Pv (i + 1),fun H' p'=>⟨xs.length - (i + 1),by omega,rfl,hlt,p'⟩,fun x H' y=>?_⟩
  obtain ⟨e,y⟩:=y
  subst e
  exact hs i x _ (y xs q) p
 ·have e:i=xs.length:=by omega
  subst e
  exact .inl ⟨⟨xs,q,Nat.le_refl _⟩,hd H p⟩
theorem lc_tup {K:PySem.W.Frag} {a:Addr} {xs:List V} {g:TG} {tt:TT} {te:TE} {vs:List Nat} {σ:St} {H1:Hp} {D:Addr} {Qd:Hp→Prop} (Pv:Nat→Hp→Prop) (h0:Pv 0 (upd H1 D (.lst []))) (hl:∀ i H,i≤xs.length→Pv i H→SqT K H a xs)
  (hs:∀ i x H,xs[i]?=some x→Pv i H→g x (wipe σ vs) H fun σ2 H2=>wipe σ2 vs=wipe σ vs∧tt σ2 H2 fun b H3 =>
   if b=true then te σ2 H3 fun y H4=>∃ acc,H4 D=some (.lst acc)∧acc.length < sizeLine∧Pv (i + 1) (upd H4 D (.lst (acc++[y]))) else Pv (i + 1) H3) (hd:∀ H,Pv xs.length H→Qd H) :
  ∃ W:Nat→Nat→Hp→Prop,(∃ m,W 0 m (upd H1 D (.lst [])))∧∀ i m H,W i m H →
   ((Itt K a).stop i H∧Qd H)∨((Itt K a).go i H∧∃ Nx:Hp→Prop,(∀ H',Nx H'→∃ m',m' < m∧W (i + 1) m' H')∧∀ x H',(Itt K a).yld i H x H'→g x (wipe σ vs) H' fun σ2 H2=>wipe σ2 vs=wipe σ vs∧tt σ2 H2 fun b H3 =>
    if b=true then te σ2 H3 fun y H4=>∃ acc,H4 D=some (.lst acc)∧acc.length < sizeLine∧Nx (upd H4 D (.lst (acc++[y]))) else Nx H3):=by
 refine ⟨fun i m H=>m=xs.length - i∧i≤xs.length∧Pv i H,⟨xs.length,by simp,Nat.zero_le _,h0⟩,?_⟩
 rintro i m H ⟨rfl,hi,p⟩
 have q:=hl i H hi p
 by_cases hlt:i < xs.length
 ·refine .inr ⟨⟨xs,xs[i],q,by simp [hlt]⟩,Pv (i + 1),fun H' p'=>⟨xs.length - (i + 1),by omega,rfl,hlt,p'⟩,fun x H' y=>?_⟩
  obtain ⟨e,y⟩:=y
  subst e
  exact hs i x _ (y xs q) p
 ·have e:i=xs.length:=by omega
  subst e
  exact .inl ⟨⟨xs,q,Nat.le_refl _⟩,hd H p⟩
def blkC (N:List Str) (sc scope:Scope) (own:List (Str×Nat)):Bool :=
 (match scope.kind with | .function=>true | _=>false) && (scope.names.all fun y=>decide (scope.names.lookup y.1=some y.2)) && (own.all fun p=>decide (N[p.2]?=some p.1)) &&
  (scope.names.all fun y=>match y.2 with
   | .free=>(match sc.names.lookup y.1 with | some .cell=>true | some .free=>true | _=>false)
   | .local=>decide (y.1∈own.map (·.1)) || decide (y.1 ∉ N)
   | .cell=>decide (y.1∈own.map (·.1)) || decide (y.1 ∉ N)
   | _=>true)
theorem blkOk_by {N:List Str} {sc scope:Scope} {own:List (Str×Nat)} (h:blkC N sc scope own=true):BlkOk N sc scope own:=by
 unfold blkC at h
 simp only [Bool.and_eq_true,List.all_eq_true,decide_eq_true_eq] at h
 obtain ⟨⟨⟨h1,h2⟩,h3⟩,h4⟩:=h
 refine ⟨?_,h2,h3,fun y hy e=>?_,fun y hy e=>?_⟩
 ·split at h1
  ·assumption
  ·cases h1
 ·have q:=h4 y hy
  simp only [e] at q
  split at q <;> first | exact .inl (by assumption) | exact .inr (by assumption) | cases q
 ·have q:=h4 y hy
  rcases e with e | e <;> (simp only [e,Bool.or_eq_true,decide_eq_true_eq] at q; exact q)
end L2
namespace L2
open PySem PySem.Spec PyProof.Rows
section
variable {prog:Program} {w:World} {A:Around} {R:Result→Shared→Prop} {s:Shared} {elt t0 i0 t1 i1:Expr} {ifs0 ifs1:List Expr} {scope:Scope} {pos:Pos} {it acc:Value} {env:Env}
end
section
variable {X:Cx}
end
end L2
namespace L2
open PySem PySem.Spec PyProof.Rows
section
variable {κ:Type} [DecidableEq κ]
def valV (kvs:List (κ×V)) (k:κ):Option V:=(kvs.find? fun kv=>decide (kv.1=k)).map (·.2)
def putK (kvs:List (κ×V)) (k:κ) (v:V):List (κ×V) :=
 if (kvs.any fun kv=>decide (kv.1=k))=true then kvs.map (fun kv=>if kv.1=k then (kv.1,v) else kv) else kvs++[(k,v)]
def dropK (kvs:List (κ×V)) (k:κ):List (κ×V):=kvs.filter fun kv=>decide (kv.1≠k)
theorem valV_pos {p:κ×V} {r:List (κ×V)} {k:κ} (e:p.1=k):valV (p::r) k=some p.2:=by simp [valV,List.find?_cons,e]
theorem valV_neg {p:κ×V} {r:List (κ×V)} {k:κ} (e:¬ p.1=k):valV (p::r) k=valV r k:=by simp [valV,List.find?_cons,e]
theorem valV_any (k:κ):∀ kvs:List (κ×V),(kvs.any fun kv=>decide (kv.1=k))=(valV kvs k).isSome
 | []=>rfl
 | p::r=>by
  rw [List.any_cons]
  by_cases e:p.1=k
  ·simp only [valV_pos e,decide_eq_true e,Bool.true_or,Option.isSome_some]
  ·rw [valV_neg e,decide_eq_false e,Bool.false_or]; exact valV_any k r
theorem length_putK (kvs:List (κ×V)) (k:κ) (v:V):(putK kvs k v).length≤kvs.length + 1:=by
 unfold putK
 split
 ·rw [List.length_map]; omega
 ·rw [List.length_append,List.length_cons,List.length_nil]; omega
theorem putK_new {kvs:List (κ×V)} {k:κ} (v:V) (h:valV kvs k=none):putK kvs k v=kvs++[(k,v)]:=by
 unfold putK
 rw [valV_any,h]
 exact if_neg (by decide)
theorem RelO.isSome_eq {o:Option V} {u:Option Value} (r:RelO o u):o.isSome=u.isSome:=by
 cases o with
 | none=>cases u with
  | none=>rfl
  | some _=>exact (show False from r).elim
 | some _=>cases u with
  | none=>exact (show False from r).elim
  | some _=>rfl
theorem KV.val {kvs:List (κ×V)} {vs:List (κ×Value)} (r:KV kvs vs) (k:κ):RelO (valV kvs k) (valueAt vs k):=by
 unfold KV at r
 induction r with
 | nil=>exact True.intro
 | @cons p q ps qs h t ih =>
  obtain ⟨h1,h2⟩:=h
  by_cases e:p.1=k
  ·have e':q.1=k:=h1.symm.trans e
   have b:valueAt (q::qs) k=some q.2:=by simp [valueAt,List.find?_cons,e']
   rw [valV_pos e,b]; exact h2
  ·have e':¬ q.1=k:=fun z=>e (h1.trans z)
   have b:valueAt (q::qs) k=valueAt qs k:=by simp [valueAt,List.find?_cons,e']
   rw [valV_neg e,b]; exact ih
theorem KV.any {kvs:List (κ×V)} {vs:List (κ×Value)} (r:KV kvs vs) (k:κ):(kvs.any fun kv=>decide (kv.1=k))=vs.any fun kv=>decide (kv.1=k):=by
 unfold KV at r
 induction r with
 | nil=>rfl
 | cons h t ih=>rw [List.any_cons,List.any_cons,ih,h.1]
theorem KV.repl {kvs:List (κ×V)} {vs:List (κ×Value)} (r:KV kvs vs) (k:κ) {y:V} {u:Value} (ry:RelV y u) :
  KV (kvs.map fun kv=>if kv.1=k then (kv.1,y) else kv) (vs.map fun kv=>if kv.1=k then (kv.1,u) else kv):=by
 unfold KV at r ⊢
 induction r with
 | nil=>exact .nil
 | @cons p q ps qs h t ih =>
  rw [List.map_cons,List.map_cons]
  refine .cons ?_ ih
  obtain ⟨h1,h2⟩:=h
  by_cases e:p.1=k
  ·rw [if_pos e,if_pos (h1.symm.trans e)]; exact ⟨h1,ry⟩
  ·rw [if_neg e,if_neg (fun z=>e (h1.trans z))]; exact ⟨h1,h2⟩
theorem KV.put {kvs:List (κ×V)} {vs:List (κ×Value)} (r:KV kvs vs) (k:κ) {y:V} {u:Value} (ry:RelV y u):KV (putK kvs k y) (stored vs k u):=by
 unfold putK stored
 rw [r.any k]
 by_cases e:(vs.any fun kv=>decide (kv.1=k))=true
 ·rw [if_pos e,if_pos e]; exact r.repl k ry
 ·rw [if_neg e,if_neg e]; exact Paired.snoc r ⟨rfl,ry⟩
theorem KV.drop {kvs:List (κ×V)} {vs:List (κ×Value)} (r:KV kvs vs) (k:κ):KV (dropK kvs k) (without vs k):=by
 unfold KV at r ⊢
 unfold dropK without
 induction r with
 | nil=>exact .nil
 | @cons p q ps qs h t ih =>
  obtain ⟨h1,h2⟩:=h
  rw [List.filter_cons,List.filter_cons]
  by_cases e:p.1=k
  ·have a:¬ decide (p.1≠k)=true:=by simp [e]
   have b:¬ decide (q.1≠k)=true:=by simp [h1.symm.trans e]
   rw [if_neg a,if_neg b]; exact ih
  ·have e':¬ q.1=k:=fun z=>e (h1.trans z)
   have a:decide (p.1≠k)=true:=by simp [e]
   have b:decide (q.1≠k)=true:=by simp [e']
   rw [if_pos a,if_pos b]; exact .cons ⟨h1,h2⟩ ih
theorem KV.length {kvs:List (κ×V)} {vs:List (κ×Value)} (r:KV kvs vs):kvs.length=vs.length:=Paired.length r
theorem dropK_le (kvs:List (κ×V)) (k:κ):(dropK kvs k).length≤kvs.length:=List.length_filter_le _ _
end
theorem kV_is {P:Program} {w:World} {k:Key} {u:Value} (r:RelV (kV k) u):(mixKind P w).is k u=true:=by
 cases k with
 | inl i=>obtain ⟨t,e⟩:=(show ∃ t,u=Value.int i t from r); subst e; exact mixKind_int P w i t
 | inr x=>obtain ⟨t,e⟩:=(show ∃ t,u=Value.str x t from r); subst e; exact mixKind_str P w x t
theorem items_are {P:Program} {w:World}:∀ {ks:List Key} {us:List Value},Vals (ks.map kV) us→ItemsAre (mixKind P w) ks us
 | [],_,r=>by rw [List.map_nil] at r; cases r; exact .nil
 | k::ks,_,r=>by
  rw [List.map_cons] at r
  cases r with
  | cons h t=>exact .cons (kV_is h) (items_are t)
abbrev KT (H:Hp):List (List Key×V)→List (List Key×Addr×Value)→Prop:=Paired fun p q=>p.1=q.1∧H q.2.1=some (.tup (p.1.map kV))∧RelV p.2 q.2.2
theorem KT.val {H:Hp} {kvs:List (List Key×V)} {xs:List (List Key×Addr×Value)} (r:KT H kvs xs) (k:List Key):RelO (valV kvs k) ((atKey xs k).map (·.2)):=by
 induction r with
 | nil=>exact True.intro
 | @cons p q ps qs h t ih =>
  obtain ⟨h1,_,h2⟩:=h
  by_cases e:p.1=k
  ·have e':q.1=k:=h1.symm.trans e
   have b:atKey (q::qs) k=some q.2:=by simp [atKey,List.find?_cons,e']
   rw [valV_pos e,b]; exact h2
  ·have e':¬ q.1=k:=fun z=>e (h1.trans z)
   have b:atKey (q::qs) k=atKey qs k:=by simp [atKey,List.find?_cons,e']
   rw [valV_neg e,b]; exact ih
theorem KT.repl {H:Hp} {kvs:List (List Key×V)} {xs:List (List Key×Addr×Value)} (r:KT H kvs xs) (k:List Key) {y:V} {u:Value} (ry:RelV y u) :
  KT H (kvs.map fun kv=>if kv.1=k then (kv.1,y) else kv) (xs.map (putAt k u)):=by
 induction r with
 | nil=>exact .nil
 | @cons p q ps qs h t ih =>
  rw [List.map_cons,List.map_cons]
  refine .cons ?_ ih
  obtain ⟨h1,h2,h3⟩:=h
  unfold putAt
  by_cases e:p.1=k
  ·rw [if_pos e,if_pos (h1.symm.trans e)]; exact ⟨h1,h2,ry⟩
  ·rw [if_neg e,if_neg (fun z=>e (h1.trans z))]; exact ⟨h1,h2,h3⟩
theorem KT.put {H:Hp} {kvs:List (List Key×V)} {xs:List (List Key×Addr×Value)} (r:KT H kvs xs) (k:List Key) {b:Addr} {y:V} {u:Value} (hb:H b=some (.tup (k.map kV))) (ry:RelV y u) :
  KT H (putK kvs k y) (storedH xs k b u):=by
 have e:(kvs.any fun kv=>decide (kv.1=k))=(atKey xs k).isSome:=by
  rw [valV_any,(r.val k).isSome_eq,Option.isSome_map]
 unfold putK storedH
 rw [e]
 by_cases q:(atKey xs k).isSome=true
 ·rw [if_pos q,if_pos q]; exact r.repl k ry
 ·rw [if_neg q,if_neg q]; exact Paired.snoc r ⟨rfl,hb,ry⟩
theorem KT.keeps {H H':Hp} {kvs:List (List Key×V)} {xs:List (List Key×Addr×Value)} (r:KT H kvs xs) (ht:∀ b ys,H b=some (.tup ys)→H' b=some (.tup ys)):KT H' kvs xs :=
 Paired.mapP r fun _ _ z=>⟨z.1,ht _ _ z.2.1,z.2.2⟩
section
variable {P:Program} {w:World} {H:Hp} {h:Heap} {a:Addr}
theorem rd_of {u:HO} (ok:HOk P w H h) (e:Rd H a u):ObjOk P w H h a u:=e.ok ok
theorem dk_rd {kvs:List (Key×V)} (ok:HOk P w H h) (e:Rd H a (.dK kvs)):kvs.length≤sizeLine∧(a == sysModules)=false∧∃ vs,KV kvs vs∧h.DictOf (mixKind P w) a vs :=
 show ObjOk P w H h a (.dK kvs) from rd_of ok e
theorem dk_of {kvs:List (Key×V)} (ok:HOk P w H h) (e:H a=some (.dK kvs)):kvs.length≤sizeLine∧(a == sysModules)=false∧∃ vs,KV kvs vs∧h.DictOf (mixKind P w) a vs:=dk_rd ok (.inl e)
theorem key_of {ks:List Key} (ok:HOk P w H h) (e:H a=some (.tup (ks.map kV))):(tupleKind (mixKind P w)).is h ks a:=by
 obtain ⟨_,its,r,o,h1,h2,n,h3⟩:=(show ObjOk P w H h a (.tup (ks.map kV)) from ok a _ e)
 exact ⟨o,its.toArray,n,h1,h2,h3,by simpa using items_are r⟩
theorem dt_rd {kvs:List (List Key×V)} (ok:HOk P w H h) (e:Rd H a (.dT kvs)):kvs.length≤sizeLine∧(a == sysModules)=false ∧
  ∃ xs,KT H kvs xs∧h.DictOfH (tupleKind (mixKind P w)) a xs:=by
 obtain ⟨z,y,xs,r,o,es,ep,h1,h2,h3,h4,h5⟩:=(show ObjOk P w H h a (.dT kvs) from rd_of ok e)
 refine ⟨z,y,xs,r,o,es,ep,h1,h2,h3,h4,fun x hx=>?_,h5⟩
 have all:∀ {l:List (List Key×V)} {m:List (List Key×Addr×Value)},KT H l m→∀ x∈m,(tupleKind (mixKind P w)).is h x.1 x.2.1:=by
  intro l m q
  induction q with
  | nil=>intro x hx; exact nomatch hx
  | @cons p q ps qs hq t ih =>
   intro x hx
   rcases List.mem_cons.mp hx with e | hx
   ·subst e
    exact key_of ok (by rw [← hq.1]; exact hq.2.1)
   ·exact ih x hx
 exact all r x hx
theorem dt_of {kvs:List (List Key×V)} (ok:HOk P w H h) (e:H a=some (.dT kvs)):kvs.length≤sizeLine∧(a == sysModules)=false ∧
  ∃ xs,KT H kvs xs∧h.DictOfH (tupleKind (mixKind P w)) a xs:=dt_rd ok (.inl e)
end
def DGet (H:Hp) (a:Addr) (y:V) (r:Option V):Prop :=
 (∃ kvs k,Rd H a (.dK kvs)∧y=kV k∧r=valV kvs k)∨∃ kvs k b,Rd H a (.dT kvs)∧y=.ref b∧H b=some (.tup (k.map kV))∧r=valV kvs k
def DPut (H:Hp) (a:Addr) (y v:V) (H':Hp):Prop :=
 (∃ kvs k,H a=some (.dK kvs)∧y=kV k∧kvs.length < sizeLine∧H'=upd H a (.dK (putK kvs k v))) ∨
 ∃ kvs k b,H a=some (.dT kvs)∧y=.ref b∧H b=some (.tup (k.map kV))∧kvs.length < sizeLine∧H'=upd H a (.dT (putK kvs k v))
theorem DPut.k {H:Hp} {a:Addr} {kvs:List (Key×V)} {k:Key} {v:V} (e:H a=some (.dK kvs)) (hl:kvs.length < sizeLine):DPut H a (kV k) v (upd H a (.dK (putK kvs k v))):=.inl ⟨kvs,k,e,rfl,hl,rfl⟩
section
variable {X:Cx} {pins:List (Addr×Obj)} {σ:St} {H:Hp} {s:Shared} {a:Addr} {y v:V} {u r:Value} {o:Option V} {A:Around} {E:Value→Shared→Prop}
theorem Inv.big (I:Inv X pins σ H s):sysModules < s.heap.objs.size:=by
 have h:mainGlobals < s.heap.objs.size:=(I.mod.glob.keeps I.bk).lt
 exact Nat.lt_trans (by decide) h
theorem d_getItem {Q:Value→Shared→Prop} (hu:A.units + 1 < cLine) (I:Inv X pins σ H s) (g:DGet H a y (some v)) (ry:RelV y u) (h:∀ w' s',Inv X pins σ H s'→RelV v w'→Q w' s') :
  wpAny (model X.prog X.w) A (getItem (.ref a) u) Q E s:=by
 rcases g with ⟨kvs,k,e,ey,l⟩ | ⟨kvs,k,b,e,ey,eb,l⟩
 ·subst ey
  obtain ⟨z,hd,vs,rel,dd⟩:=dk_rd I.hok e
  obtain ⟨w',hw,rw'⟩:=RelO.some_of (v:=v) (o:=valueAt vs k) (by rw [l]; exact rel.val k)
  exact wpAny_getItem_of (kV_is ry) dd.mapOf hw (h w' _ (I.tok _) rw')
 ·subst ey
  cases (show u=Value.ref b from ry)
  obtain ⟨z,hd,xs,rel,dd⟩:=dt_rd I.hok e
  obtain ⟨w',hw,rw'⟩:=RelO.some_of (v:=v) (o:=(atKey xs k).map (·.2)) (by rw [l]; exact rel.val k)
  obtain ⟨p,hp,hp2⟩:=Option.map_eq_some_iff.mp hw
  refine wpAny_getItem_heap (tupleKind_room_in1 hu) (key_of I.hok eb) dd hp ?_
  rw [hp2]
  exact h w' _ (I.tok _) rw'
theorem d_in {Q:Value→Shared→Prop} (hu:A.units + 1 < cLine) (I:Inv X pins σ H s) (g:DGet H a y o) (ry:RelV y u) (h:∀ s',Inv X pins σ H s'→Q (.bool o.isSome) s') :
  wpAny (model X.prog X.w) A (compareOp .In u (.ref a)) Q E s:=by
 rcases g with ⟨kvs,k,e,ey,l⟩ | ⟨kvs,k,b,e,ey,eb,l⟩
 ·subst ey
  obtain ⟨z,hd,vs,rel,dd⟩:=dk_rd I.hok e
  refine wpAny_in_of (kV_is ry) hd dd.mapOf ?_
  rw [← (rel.val k).isSome_eq,← l]
  exact h _ (I.tok _)
 ·subst ey
  cases (show u=Value.ref b from ry)
  obtain ⟨z,hd,xs,rel,dd⟩:=dt_rd I.hok e
  refine wpAny_in_heap (tupleKind_room_in1 hu) (key_of I.hok eb) hd dd ?_
  have q:=(rel.val k).isSome_eq
  rw [Option.isSome_map] at q
  rw [← q,← l]
  exact h _ (I.tok _)
theorem d_notIn {Q:Value→Shared→Prop} (hu:A.units + 1 < cLine) (I:Inv X pins σ H s) (g:DGet H a y o) (ry:RelV y u) (h:∀ s',Inv X pins σ H s'→Q (.bool (!o.isSome)) s') :
  wpAny (model X.prog X.w) A (compareOp .NotIn u (.ref a)) Q E s:=by
 rcases g with ⟨kvs,k,e,ey,l⟩ | ⟨kvs,k,b,e,ey,eb,l⟩
 ·subst ey
  obtain ⟨z,hd,vs,rel,dd⟩:=dk_rd I.hok e
  refine wpAny_notIn_of (kV_is ry) hd dd.mapOf ?_
  rw [← (rel.val k).isSome_eq,← l]
  exact h _ (I.tok _)
 ·subst ey
  cases (show u=Value.ref b from ry)
  obtain ⟨z,hd,xs,rel,dd⟩:=dt_rd I.hok e
  refine wpAny_notIn_heap (tupleKind_room_in1 hu) (key_of I.hok eb) hd dd ?_
  have q:=(rel.val k).isSome_eq
  rw [Option.isSome_map] at q
  rw [← q,← l]
  exact h _ (I.tok _)
theorem d_write {h':Heap} {t':Nat} {ob:HO} (I:Inv X pins σ H s) (mu:Mut (H a)) (hs:Heap.SameBut a s.heap h') (he:∃ q,h'.get? a=some q) (new:ObjOk X.prog X.w (upd H a ob) h' a ob) :
  Inv X pins σ (upd H a ob) { s with heap:=h',toks:=t' } :=
 I.write (x:=a) (e:=a) mu (.inl rfl) (fun b q hb z=>(hs.2 b hb).trans z) he new
theorem dk_new {P:Program} {w:World} {H':Hp} {h':Heap} {kvs:List (Key×V)} {vs:List (Key×Value)} (z:kvs.length≤sizeLine) (hd:(a == sysModules)=false) (rel:KV kvs vs) (dd:h'.DictOf (mixKind P w) a vs) :
  ObjOk P w H' h' a (.dK kvs):=⟨z,hd,vs,rel,dd⟩
theorem d_setItem {H':Hp} {Q:Unit→Shared→Prop} (hu:A.units + 1 < cLine) (I:Inv X pins σ H s) (g:DPut H a y v H') (ry:RelV y u) (rv:RelV v r) (h:∀ s',Inv X pins σ H' s'→Q () s') :
  wpAny (model X.prog X.w) A (setItem (.ref a) u r) Q E s:=by
 rcases g with ⟨kvs,k,e,ey,l,eH⟩ | ⟨kvs,k,b,e,ey,eb,l,eH⟩
 ·subst ey eH
  obtain ⟨z,hd,vs,rel,dd⟩:=dk_of I.hok e
  have hz:vs.length≤sizeLine:=by rw [← rel.length]; exact z
  have hl:(putK kvs k v).length≤sizeLine:=by have:=length_putK kvs k v; omega
  refine wpAny_setItem_pairs (hsz:=hz) (kV_is ry) dd fun h' dd' hs=>h _ ?_
  have he:∃ q,h'.get? a=some q:=let ⟨q,_,_,hq,_⟩:=dd'; ⟨q,hq⟩
  exact d_write I (by rw [e]; exact True.intro) hs he (dk_new hl hd (rel.put k rv) dd')
 ·subst ey eH
  cases (show u=Value.ref b from ry)
  obtain ⟨z,hd,xs,rel,dd⟩:=dt_of I.hok e
  have hz:xs.length≤sizeLine:=by rw [← Paired.length rel]; exact z
  have hl:(putK kvs k v).length≤sizeLine:=by have:=length_putK kvs k v; omega
  refine wpAny_setItem_heap (hsz:=hz) (tupleKind_room_in1 hu) (key_of I.hok eb) dd fun h' dd' hs=>h _ ?_
  obtain ⟨q,es,ep,hq,h2,h3,h4,_,h5⟩:=dd'
  refine d_write I (by rw [e]; exact True.intro) hs ⟨q,hq⟩ ⟨hl,hd,_,(rel.put k eb rv).keeps fun c ys ec=>?_,q,es,ep,hq,h2,h3,h4,h5⟩
  rw [upd_ne (ne_of ec e (fun z=>nomatch z))]
  exact ec
end
section
variable {X:Cx} {pins:List (Addr×Obj)} {σ:St} {H:Hp} {s:Shared} {a:Addr} {kvs:List (Key×V)} {k:Key} {u:Value} {A:Around} {E:Value→Shared→Prop}
theorem d_pop {v:V} {more:List Value} {Q:Value→Shared→Prop} (I:Inv X pins σ H s) (e:H a=some (.dK kvs)) (ry:RelV (kV k) u) (l:valV kvs k=some v) (hm:more=[]∨∃ x,more=[x])
  (h:∀ w' s',Inv X pins σ (upd H a (.dK (dropK kvs k))) s'→RelV v w'→Q w' s'):wpAny (model X.prog X.w) A (call (.builtin "dict.pop") (.ref a::u::more)) Q E s:=by
 obtain ⟨z,hd,vs,rel,dd⟩:=dk_of I.hok e
 obtain ⟨w',hw,rw'⟩:=RelO.some_of (v:=v) (o:=valueAt vs k) (by rw [← l]; exact rel.val k)
 have hp:(keyPart u).isSome=true:=by
  cases k with
  | inl i=>obtain ⟨t,q⟩:=(show ∃ t,u=Value.int i t from ry); subst q; rfl
  | inr x=>obtain ⟨t,q⟩:=(show ∃ t,u=Value.str x t from ry); subst q; rfl
 have ha:argsOk "dict.pop" ⟨.ref a::u::more,[]⟩:=by
  rcases hm with q | ⟨x,q⟩
  ·subst q; exact PySem.F.args_dict_pop_2 _ _
  ·subst q; exact PySem.F.args_dict_pop_3 _ _ _
 refine call_meetsIn PySem.F.slot_dict_pop dd.typeIs PySem.F.entry_dict_pop ha (meets_dict_pop_there (mixKind X.prog X.w) a (kV_is ry) more hm hp)
  ⟨vs,w',dd,by rw [← rel.length]; exact z,hw,fun h' dd' hs=>h w' _ ?_ rw'⟩
 have he:∃ q,h'.get? a=some q:=let ⟨q,_,_,hq,_⟩:=dd'; ⟨q,hq⟩
 exact d_write I (by rw [e]; exact True.intro) hs he (dk_new (Nat.le_trans (dropK_le kvs k) z) hd (rel.drop k) dd')
theorem d_len {Q:Value→Shared→Prop} (I:Inv X pins σ H s) (e:Rd H a (.dK kvs)) (h:∀ t s',Inv X pins σ H s'→Q (.int kvs.length t) s'):wpAny (model X.prog X.w) A (call (.builtin "len") [.ref a]) Q E s:=by
 obtain ⟨z,hd,vs,rel,dd⟩:=dk_rd I.hok e
 refine call_len_dict hd dd (by rw [← rel.length]; rw [sizeLine_eq] at z; omega) ?_
 rw [← rel.length]
 exact h _ _ (I.tok _)
end
def NoSl (i:Expr):Prop:=∀ ov iv,subscripted i false ov iv=operate [ov,iv] (getItem ov iv)
theorem subD_of {prog:Program} {w:World} {A:Around} {E:Value→Shared→Prop} {s:Shared} {env:Env} {value slice:Expr} {pos:Pos} {T id:String} {Q:Value→Shared→Prop}
  (hl:typeLookup (.type T) "__getitem__"=pure (some (.builtin id))) (hs:NoSl slice)
  (h:wpAny (model prog w) A (eval value env) (fun o s₁=>wpAny (model prog w) A (eval slice env) (fun i s₂=>s₂.TypeIs o T∧wpAny (model prog w) A (getItem o i) Q E s₂) E s₁) E s) :
  wpAny (model prog w) A (eval (.Subscript value slice pos) env) Q E s:=by
 refine Subscript_ (wpAny_mono h (fun o s₁ h₁=>wpAny_mono h₁ (fun i s₂ h₂=>?_) fun _ _ x=>x) fun _ _ x=>x)
 obtain ⟨hT,h₂⟩:=h₂
 unfold subscriptTail
 refine wpAny_bind ?_
 rw [getitemInPython_of_ne hT.not_modules]
 refine wpAny_bind (wpAny_specialOf hT hl ?_)
 have fin:wpAny (model prog w) A (subscripted slice false o i) (fun r s₃=>wpAny (model prog w) A (letTemporaryGo value o r >>= fun _=>pure r) Q E s₃) E s₂:=by
  rw [hs o i]
  exact wpAny_operating (wpAny_mono h₂ (fun r s₃ h₃=>wpAny_bind (wpAny_letTemporaryGo (wpAny_pure h₃))) fun _ _ x=>x)
 first
  | exact wpAny_pure (wpAny_bind fin)
  | exact wpAny_bind (wpAny_pure (wpAny_bind fin))
  | exact wpAny_bind fin
theorem dict_typeIs {X:Cx} {pins:List (Addr×Obj)} {σ:St} {H:Hp} {s:Shared} {a:Addr} {y:V} {o:Option V} (I:Inv X pins σ H s) (g:DGet H a y o):s.TypeIs (.ref a) "dict":=by
 rcases g with ⟨kvs,k,e,_,_⟩ | ⟨kvs,k,b,e,_,_,_⟩
 ·obtain ⟨_,_,vs,_,dd⟩:=dk_rd I.hok e
  exact dd.typeIs
 ·obtain ⟨_,_,xs,_,dd⟩:=dt_rd I.hok e
  exact dd.typeIs
def tDGet (td ty:TE):TE:=fun σ H Q=>td σ H fun x H1=>ty σ H1 fun y H2=>∃ a v,x=.ref a∧DGet H2 a y (some v)∧Q v H2
def tDIn (ty td:TE):TE:=fun σ H Q=>ty σ H fun y H1=>td σ H1 fun x H2=>∃ a o,x=.ref a∧DGet H2 a y o∧Q (.bl o.isSome) H2
def tDNotIn (ty td:TE):TE:=fun σ H Q=>ty σ H fun y H1=>td σ H1 fun x H2=>∃ a o,x=.ref a∧DGet H2 a y o∧Q (.bl (!o.isSome)) H2
def sDPut (td ty tv:TE):TS:=fun D σ H=>tv σ H fun v H1=>td σ H1 fun x H2=>ty σ H2 fun y H3=>∃ a H4,x=.ref a∧DPut H3 a y v H4∧D.nx σ H4
def sDAug (td ty tv:TE) (rd:V→V→Hp→VK→Prop):TS:=fun D σ H=>td σ H fun x H1=>ty σ H1 fun y H2=>∃ a v,x=.ref a∧DGet H2 a y (some v) ∧
 tv σ H2 fun y2 H3=>rd v y2 H3 fun z H4=>∃ H5,DPut H4 a y z H5∧D.nx σ H5
section
variable {X:Cx} {o i e value:Expr} {pos pos' tpos:Pos} {td ty tv:TE}
theorem pe_dget (hu:X.A.units + 1 < cLine) (ho:PE X o td) (hi:PE X i ty) (hs:NoSl i):PE X (.Subscript o i pos) (tDGet td ty):=by
 intro pins s σ H Q I h
 refine subD_of PySem.F.slot_dict_getitem.lookup hs (thn (ho pins s σ H _ I h) fun u s1 ⟨x,H1,I1,rx,q1⟩=>thn (hi pins s1 σ H1 _ I1 q1) fun iv s2 ⟨y,H2,I2,ry,a,v,ex,g,q2⟩=>?_)
 subst ex
 obtain rfl:u=Value.ref a:=rx
 exact ⟨dict_typeIs I2 g,d_getItem hu I2 g ry fun w' s3 I3 rw'=>⟨v,H2,I3,rw',q2⟩⟩
theorem pc_din (hu:X.A.units + 1 < cLine) (hi:PE X i ty) (ho:PE X o td):PC X .In i o (tDIn ty td):=by
 intro pins s σ H Q I h
 refine thn (hi pins s σ H _ I h) fun iv s1 ⟨y,H1,I1,ry,q1⟩=>thn (ho pins s1 σ H1 _ I1 q1) fun u s2 ⟨x,H2,I2,rx,a,ov,ex,g,q2⟩=>?_
 subst ex
 obtain rfl:u=Value.ref a:=rx
 exact d_in hu I2 g ry fun s3 I3=>⟨.bl ov.isSome,H2,I3,rfl,q2⟩
theorem pc_dnotin (hu:X.A.units + 1 < cLine) (hi:PE X i ty) (ho:PE X o td):PC X .NotIn i o (tDNotIn ty td):=by
 intro pins s σ H Q I h
 refine thn (hi pins s σ H _ I h) fun iv s1 ⟨y,H1,I1,ry,q1⟩=>thn (ho pins s1 σ H1 _ I1 q1) fun u s2 ⟨x,H2,I2,rx,a,ov,ex,g,q2⟩=>?_
 subst ex
 obtain rfl:u=Value.ref a:=rx
 exact d_notIn hu I2 g ry fun s3 I3=>⟨.bl (!ov.isSome),H2,I3,rfl,q2⟩
theorem ps_dput (hu:X.A.units + 1 < cLine) (ho:PE X o td) (hi:PE X i ty) (hv:PE X value tv) (hs:swapsWith value (some (.Subscript o i pos')) pos.line X.env=pure false) :
  PS X (.Assign [.Subscript o i pos'] value pos) (sDPut td ty tv):=by
 intro pins s σ H D I h
 refine wpAny_Assign_Subscript (thn (hv pins s σ H _ I h) fun r s1 ⟨v,H1,I1,rv,q1⟩=>thn (ho pins s1 σ H1 _ I1 q1) fun u s2 ⟨x,H2,I2,rx,q2⟩=>thn (hi pins s2 σ H2 _ I2 q2) fun iv s3 ⟨y,H3,I3,ry,a,H4,ex,g,q3⟩=>?_) hs
 subst ex
 obtain rfl:u=Value.ref a:=rx
 exact d_setItem hu I3 g ry rv fun s4 I4=>⟨σ,H4,I4,q3⟩
theorem ps_daug {op:Operator} {rd:V→V→Hp→VK→Prop} (hu:X.A.units + 1 < cLine) (ho:PE X o td) (hi:PE X i ty) (hv:PE X value tv) (hop:InOp X op rd)
  (ha:∀ ov iv new,augStore i ov iv new=(do holding [new,ov,iv] (setItem ov iv new); release [new,ov,iv] []; pure .next)):PS X (.AugAssign (.Subscript o i tpos) op value pos) (sDAug td ty tv rd):=by
 intro pins s σ H D I h
 refine wpAny_AugAssign_SubscriptAny (thn (ho pins s σ H _ I h) fun u s1 ⟨x,H1,I1,rx,q1⟩=>thn (hi pins s1 σ H1 _ I1 q1) fun iv s2 ⟨y,H2,I2,ry,a,v,ex,g,q2⟩=>?_) ha
 subst ex
 obtain rfl:u=Value.ref a:=rx
 refine d_getItem hu I2 g ry fun w' s3 I3 rw'=>thn (hv pins s3 σ H2 _ I3 q2) fun w2 s4 ⟨y2,H3,I4,ry2,q3⟩=>thn (hop pins s4 σ H3 v y2 w' w2 _ I4 rw' ry2 q3) fun w3 s5 ⟨z,H4,I5,rz,H5,g5,q4⟩=>?_
 exact d_setItem hu I5 g5 ry rz fun s6 I6=>⟨σ,H5,I6,q4⟩
end
theorem dk_empty {P:Program} {w:World} {H:Hp} (h:Heap) (hb:sysModules < h.objs.size):ObjOk P w H (h.push { cls:=.type "dict",data:=.dict #[] }) h.objs.size (.dK []) :=
 ⟨Nat.zero_le _,beq_eq_false_iff_ne.mpr (Ne.symm (Nat.ne_of_lt hb)),[],.nil,Heap.DictOf.new h⟩
def tDNewK:TE:=fun _ H Q=>∀ p,H p=none→Q (.ref p) (upd H p (.dK []))
section
variable {X:Cx} {pos:Pos}
theorem pe_dnewK:PE X (.Dict [] [] pos) tDNewK:=fun pins s σ H Q I h =>
 wpAny_Dict_empty ⟨.ref s.heap.objs.size,_,I.laid (a:=s.heap.objs.size) (o:=.dK []) (t':=s.toks) (fun _ _ q=>Heap.get?_push_of_some _ q) (Nat.le_refl _) (dk_empty s.heap I.big),rfl,h _ (I.hok.fresh (Nat.le_refl _))⟩
end
def tPairs:List (TE×TE)→St→Hp→(List (V×V)→Hp→Prop)→Prop
 | [],_,H,Q=>Q [] H
 | (tk,tv)::r,σ,H,Q=>tk σ H fun x H1=>tv σ H1 fun y H2=>tPairs r σ H2 fun ps H3=>Q ((x,y)::ps) H3
abbrev VV:List (V×V)→List (Value×Value)→Prop:=Paired fun p q=>RelV p.1 q.1∧RelV p.2 q.2
def PPs (X:Cx) (pos:Pos) (keys:List (Option Expr)) (values:List Expr) (trs:List (TE×TE)):Prop :=
 ∀ (pins:List (Addr×Obj)) (s:Shared) (σ:St) (H:Hp) (Q:List (V×V)→Hp→Prop),Inv X pins σ H s→tPairs trs σ H Q →
  wpAny (model X.prog X.w) X.A (evalPairs (pairTrees keys values X.env pos)) (fun vs s'=>∃ ps H',Inv X pins σ H' s'∧VV ps vs∧Q ps H') X.xe s
theorem pps_nil {X:Cx} {pos:Pos}:PPs X pos [] [] []:=fun pins s σ H Q I h=>pairTrees_nil_walk ⟨[],H,I,.nil,h⟩
theorem pps_cons {X:Cx} {pos:Pos} {k v:Expr} {ks:List (Option Expr)} {vs:List Expr} {tk tv:TE} {trs:List (TE×TE)} (hk:PE X k tk) (hv:PE X v tv) (hr:PPs X pos ks vs trs) :
  PPs X pos (some k::ks) (v::vs) ((tk,tv)::trs):=fun pins s σ H Q I h =>
 pairTrees_cons_walk (thn (hk pins s σ H _ I h) fun u s1 ⟨x,H1,I1,rx,q1⟩=>thn (hv pins s1 σ H1 _ I1 q1) fun w2 s2 ⟨y,H2,I2,ry,q2⟩ =>
  thn (hr pins s2 σ H2 _ I2 q2) fun ws s3 ⟨ps,H3,I3,rel,q3⟩=>⟨(x,y)::ps,H3,I3,.cons ⟨rx,ry⟩ rel,q3⟩)
def mergeK (kvs more:List (Key×V)):List (Key×V):=more.foldl (fun acc kv=>putK acc kv.1 kv.2) kvs
theorem KV.merge:∀ {more:List (Key×V)} {rs:List (Key×Value)} {kvs:List (Key×V)} {vs:List (Key×Value)},KV more rs→KV kvs vs→KV (mergeK kvs more) (merged vs rs):=by
 intro more rs kvs vs r
 unfold KV at r
 induction r generalizing kvs vs with
 | nil=>intro q; exact q
 | @cons p q ps qs h t ih =>
  intro r0
  have e:KV (putK kvs p.1 p.2) (stored vs q.1 q.2):=by
   have:=r0.put p.1 h.2
   rw [← h.1]; exact this
  exact ih e
theorem length_mergeK:∀ (more kvs:List (Key×V)),(mergeK kvs more).length≤kvs.length + more.length
 | [],kvs=>by show kvs.length≤kvs.length + 0; omega
 | p::r,kvs=>by
  have h1:=length_mergeK r (putK kvs p.1 p.2)
  have h2:=length_putK kvs p.1 p.2
  show (mergeK (putK kvs p.1 p.2) r).length≤_
  rw [List.length_cons]; omega
theorem carries_of {P:Program} {w:World}:∀ {kvs:List (Key×V)} {ws:List (Value×Value)},VV (kvs.map fun kv=>(kV kv.1,kv.2)) ws→∃ rs,Carries (mixKind P w) ws rs∧KV kvs rs
 | [],_,r=>by rw [List.map_nil] at r; cases r; exact ⟨[],True.intro,.nil⟩
 | p::kvs,_,r=>by
  rw [List.map_cons] at r
  cases r with
  | @cons a b as bs h t =>
   obtain ⟨rs,c,q⟩:=carries_of (P:=P) (w:=w) t
   obtain ⟨b1,b2⟩:=b
   exact ⟨(p.1,b2)::rs,⟨kV_is h.1,rfl,c⟩,.cons ⟨rfl,h.2⟩ q⟩
def tDisp (trs:List (TE×TE)):TE:=fun σ H Q=>∀ p,H p=none→tPairs trs σ (upd H p (.dK [])) fun ps H2=>H2 p=some (.dK [])∧∃ kvs:List (Key×V),ps=kvs.map (fun kv=>(kV kv.1,kv.2))∧kvs.length≤15∧Q (.ref p) (upd H2 p (.dK (mergeK [] kvs)))
theorem pe_disp {X:Cx} {pos:Pos} {keys:List (Option Expr)} {values:List Expr} {trs:List (TE×TE)} (h:PPs X pos keys values trs) (hall:keys.all (·.isSome)=true) (hl:keys.length=values.length) (h0:keys≠[])
  (h15:keys.length≤15):PE X (.Dict keys values pos) (tDisp trs):=by
 intro pins s σ H Q I q
 have hn:=I.hok.fresh (Nat.le_refl s.heap.objs.size)
 have I1:=I.laid (a:=s.heap.objs.size) (o:=.dK []) (h':=s.heap.push { cls:=.type "dict",data:=.dict #[] }) (t':=s.toks) (fun _ _ q=>Heap.get?_push_of_some _ q) (Nat.le_refl _) (dk_empty s.heap I.big)
 refine wpAny_Dict_walk (knd:=mixKind X.prog X.w) hall hl h0 h15 (thn (h pins _ σ _ _ I1 (q _ hn)) fun ws s2 ⟨ps,H2,I2,rel,e,kvs,ep,lk,q2⟩=>?_)
 subst ep
 obtain ⟨rs,c,rk⟩:=carries_of (P:=X.prog) (w:=X.w) rel
 obtain ⟨z,hd,vs0,r0,dd⟩:=dk_of I2.hok e
 cases r0
 refine ⟨rs,c,dd,fun h' dd' hs=>⟨.ref s.heap.objs.size,_,?_,rfl,q2⟩⟩
 have hz:(mergeK [] kvs).length≤sizeLine:=by
  have h1:=length_mergeK kvs []
  rw [List.length_nil] at h1
  rw [sizeLine_eq]; omega
 have he:∃ q,h'.get? s.heap.objs.size=some q:=let ⟨q,_,_,hq,_⟩:=dd'; ⟨q,hq⟩
 exact d_write I2 (by rw [e]; exact True.intro) hs he (dk_new hz hd (rk.merge .nil) dd')
structure M1 (X:Cx) (o:Expr) (m:Str) (apos:Pos) (e:Expr) (cpos:Pos):Prop where
 base:attributeBase o m X.env (eval o X.env)=eval o X.env
 few:((backTo cpos (starEach [e] X.env)).all (fun x=>!x.1) && (backToKw cpos (keywordEach [] X.env)).all (fun x=>x.1.isSome)
  && decide (([e]:List Expr).length + ([]:List Keyword).length + (if ([]:List Keyword).isEmpty then 0 else 1) < 30))=true
 line:(apos.endLine == cpos.line)=true
 trees:backTo cpos (starEach [e] X.env)=[(false,eval e X.env)]
structure M2 (X:Cx) (o:Expr) (m:Str) (apos:Pos) (e f:Expr) (cpos:Pos):Prop where
 base:attributeBase o m X.env (eval o X.env)=eval o X.env
 few:((backTo cpos (starEach [e,f] X.env)).all (fun x=>!x.1) && (backToKw cpos (keywordEach [] X.env)).all (fun x=>x.1.isSome)
  && decide (([e,f]:List Expr).length + ([]:List Keyword).length + (if ([]:List Keyword).isEmpty then 0 else 1) < 30))=true
 line:(apos.endLine == cpos.line)=true
 trees:backTo cpos (starEach [e,f] X.env)=[(false,eval e X.env),(false,eval f X.env)]
def IsD (H:Hp) (a:Addr):Prop:=(∃ kvs,Rd H a (.dK kvs))∨∃ kvs,Rd H a (.dT kvs)
theorem isD_at {X:Cx} {pins:List (Addr×Obj)} {σ:St} {H:Hp} {s:Shared} {a:Addr} (I:Inv X pins σ H s) (d:IsD H a) :
  s.TypeIs (.ref a) "dict"∧(∀ b,Value.ref a=.ref b→∃ ob,s.heap.get? b=some ob∧ob.dict=none)∧(a == sysModules)=false:=by
 rcases d with ⟨kvs,e⟩ | ⟨kvs,e⟩
 ·obtain ⟨_,hd,vs,_,dd⟩:=dk_rd I.hok e
  refine ⟨dd.typeIs,fun b q=>?_,hd⟩
  cases q
  obtain ⟨ob,_,_,h1,h2,_⟩:=dd
  exact ⟨ob,h1,h2.2.1⟩
 ·obtain ⟨_,hd,xs,_,dd⟩:=dt_rd I.hok e
  refine ⟨dd.typeIs,fun b q=>?_,hd⟩
  cases q
  obtain ⟨ob,_,_,h1,h2,_⟩:=dd
  exact ⟨ob,h1,h2.2.1⟩
section
variable {X:Cx} {pins:List (Addr×Obj)} {σ:St} {H:Hp} {s:Shared} {a:Addr} {y d:V} {u r:Value} {o:Option V} {A:Around} {E:Value→Shared→Prop}
end
def tDPop1 (td ty:TE):TE:=fun σ H Q=>td σ H fun x H1=>∃ a,x=.ref a∧IsD H1 a∧ty σ H1 fun y H2=>∃ kvs k v,H2 a=some (.dK kvs)∧y=kV k∧valV kvs k=some v∧Q v (upd H2 a (.dK (dropK kvs k)))
section
variable {X:Cx} {o e f:Expr} {apos cpos:Pos} {td ty tx:TE}
theorem pe_dpop1 (ho:PE X o td) (he:PE X e ty) (m:M1 X o "pop" apos e cpos):PE X (.Call (.Attribute o "pop" apos) [e] [] cpos) (tDPop1 td ty):=by
 intro pins s σ H Q I h
 refine wpAny_Call_method m.base m.few m.line PySem.F.plainAttrs_dict PySem.F.slot_dict_pop PySem.F.type_dict_pop (thn (ho pins s σ H _ I h) fun u s1 ⟨x,H1,I1,rx,a,ex,d,q1⟩=>?_)
 subst ex
 obtain rfl:u=Value.ref a:=rx
 obtain ⟨t1,t2,_⟩:=isD_at I1 d
 refine ⟨t1,t2,?_⟩
 rw [m.trees]
 refine Calls.callWith_builtin rfl (Calls.evalArgs_plain (Calls.spliced_cons (thn (he pins s1 σ H1 _ I1 q1) fun iv s2 ⟨y,H2,I2,ry,kvs,k,v,ea,ey,l,q2⟩=>Calls.spliced_nil ?_)))
 subst ey
 exact d_pop I2 ea ry l (.inl rfl) fun w' s3 I3 rw'=>⟨v,_,I3,rw',q2⟩
end
section
variable {X:Cx} {pins:List (Addr×Obj)} {σ:St} {H:Hp} {s:Shared} {a:Addr} {kvs:List (Key×V)} {A:Around} {E:Value→Shared→Prop}
end
section
variable {X:Cx} {pins:List (Addr×Obj)} {σ:St} {H:Hp} {s:Shared} {a:Addr} {y:V} {u:Value} {A:Around} {E:Value→Shared→Prop}
end
end L2
namespace L2
open PySem PySem.Spec PyProof.Rows
section
variable {prog:Program} {w:World} {A:Around} {E:Value→Shared→Prop}
end
section
variable {X:Cx}
end
end L2
namespace L2
open PySem PySem.Spec PyProof.Rows
section
variable {X:Cx} {pins:List (Addr×Obj)} {σ:St} {H:Hp} {s:Shared} {h':Heap}
theorem Inv.turnedNew {t':Nat} {ch:List Addr} {T:Addr} {ob:HO} (I:Inv X pins σ H s) (k:∀ b o,b ∉ ch→s.heap.get? b=some o→h'.get? b=some o) (hf:∀ b∈ch,FpOk X pins H b) (hT:s.heap.objs.size≤T)
  (new:ObjOk X.prog X.w (upd H T ob) h' T ob):Inv X pins σ (upd H T ob) { s with heap:=h',toks:=t' }:=by
 have hn:H T=none:=I.hok.fresh hT
 have nit:∀ b u,H b=some u→b ∉ ch:=fun b u e z=>by
  have q:=(hf b z).1
  rw [q] at e; cases e
 refine I.step (g':=s.gens) (d':=s.drawn) (ch:=ch) (fun b hb=>⟨(hf b hb).2.2.2.1,(hf b hb).2.1,(hf b hb).2.2.2.2.1,(hf b hb).2.2.2.2.2⟩) (fun b o _ _ hc e _=>k b o hc e) (fun b o _ _ hc e _=>⟨o.slots,k b o hc e⟩)
  (fun b o _ e n=>?_) (fun b o hc e=>⟨o,k b o hc e⟩) (fun b xs e=>?_) (fun b o u e=>?_) (fun b ps e=>⟨#[],?_⟩) (fun m hm=>?_) (fun b u e=>?_) I.bare
 ·rw [upd_ne (Nat.ne_of_lt (Nat.lt_of_lt_of_le (Heap.lt_size e) hT))]; exact n
 ·rw [upd_ne (ne_of_none e hn)]; exact e
 ·rw [upd_ne (ne_of_none e hn)]; exact e
 ·rw [upd_ne (ne_of_none e hn),e]; simp
 ·obtain ⟨o,es,ep,ho,r⟩:=hm
  exact ⟨o,es,ep,k _ o (fun z=>(hf _ z).2.1 rfl) ho,r⟩
 ·by_cases hb:b=T
  ·subst hb
   rw [upd_same] at e
   cases e
   exact new
  ·rw [upd_ne hb] at e
   refine (I.hok b u e).stay (fun c v hc q=>k c v ?_ q) (fun c q=>by rw [upd_ne (ne_of_none q hn)]; exact q) fun c xs q=>by rw [upd_ne (ne_of_none q hn)]; exact q
   rcases hc with z | z
   ·rw [z]; exact nit b u e
   ·exact nit c _ z
theorem Inv.lock {d:Addr} {u:HO} (I:Inv X pins σ H s) (h:H d=some u) (mu:Mut (some u)):∃ od,Inv X pins σ (upd H d (.frz od u)) s:=by
 have x:=I.hok d u h
 have ex:∃ od,s.heap.get? d=some od:=by
  cases u with
  | lst xs=>obtain ⟨_,_,_,_,e⟩:=x; exact ⟨_,e⟩
  | dK kvs=>obtain ⟨_,_,_,_,o,_,_,e,_⟩:=x; exact ⟨o,e⟩
  | dT kvs=>obtain ⟨_,_,_,_,o,_,_,e,_⟩:=x; exact ⟨o,e⟩
  | set S n=>obtain ⟨o,_,_,_,e,_⟩:=x; exact ⟨o,e⟩
  | ins C dx fs=>obtain ⟨_,_,_,e,_⟩:=x; exact ⟨_,e⟩
  | ext φ=>obtain ⟨_,⟨_,e⟩,_⟩:=x; exact ⟨_,e⟩
  | _=>exact False.elim mu
 obtain ⟨od,e⟩:=ex
 have new:ObjOk X.prog X.w (upd H d (.frz od u)) s.heap d (.frz od u):=by
  refine ⟨e,x.stay (fun b v _ q=>q) (fun b q=>?_) fun b xs q=>?_⟩
  ·rw [upd_ne (fun z=>by rw [z,h] at q; cases q; exact mu)]; exact q
  ·rw [upd_ne (fun z=>by rw [z,h] at q; cases q; exact mu)]; exact q
 exact ⟨od,I.write (x:=d) (e:=d) (t':=s.toks) (h':=s.heap) (by rw [h]; exact mu) (.inl rfl) (fun b v _ q=>q) ⟨od,e⟩ new⟩
theorem Inv.nofrz {d:Addr} {u:HO} (I:Inv X pins σ H s) (h:H d=some u) (mu:Mut (some u)):∀ o' u',X.H_0 d≠some (.frz o' u'):=fun o' u' e=>by
 have q:=I.base.frzs d o' u' e
 rw [h] at q
 cases q
 exact mu
theorem Inv.unlock {d:Addr} {od:Obj} {u:HO} (I:Inv X pins σ H s) (h:H d=some (.frz od u)) (hn:∀ o' u',X.H_0 d≠some (.frz o' u')):Inv X pins σ (upd H d u) s:=by
 have neH:∀ b o,H b=some o→(∀ o' u',o ≠ .frz o' u')→b≠d:=fun b o e hne z=>by
  rw [z,h] at e
  cases e
  exact hne _ _ rfl
 have neN:∀ b,H b=none→b≠d:=fun b e z=>by rw [z,h] at e; cases e
 refine ⟨I.ok,I.os,I.bare,⟨I.base.keep,I.base.slot,fun b o e n hx=>?_,I.base.there,fun b xs e=>?_,fun b o x e=>?_,fun b ps e=>?_⟩,I.loc,I.cell,?_,fun x c e=>?_,fun p hp=>?_,fun b o e=>?_,I.len⟩
 ·rw [upd_ne (neN b (I.base.free b o e n hx))]; exact I.base.free b o e n hx
 ·have q:=I.base.tups b xs e
  rw [upd_ne (neH b _ q (fun _ _ z=>nomatch z))]; exact q
 ·have q:=I.base.frzs b o x e
  rw [upd_ne (fun z=>by rw [z] at e; exact hn _ _ e)]; exact q
 ·obtain ⟨m,q⟩:=I.base.tbls b ps e
  exact ⟨m,by rw [upd_ne (neH b _ q (fun _ _ z=>nomatch z))]; exact q⟩
 ·rw [upd_ne (neN _ I.free)]; exact I.free
 ·rw [upd_ne (neN c (I.freeC x c e))]; exact I.freeC x c e
 ·obtain ⟨e,n,r⟩:=I.pin p hp
  exact ⟨e,by rw [upd_ne (neN _ n)]; exact n,r⟩
 ·by_cases hb:b=d
  ·rw [hb,upd_same] at e
   cases e
   rw [hb]
   obtain ⟨_,x⟩:=I.hok d _ h
   exact x.stay (fun c v _ q=>q) (fun c q=>by rw [upd_ne (neH c _ q (fun _ _ z=>nomatch z))]; exact q) fun c xs q=>by rw [upd_ne (neH c _ q (fun _ _ z=>nomatch z))]; exact q
  ·rw [upd_ne hb] at e
   exact (I.hok b o e).stay (fun c v _ q=>q) (fun c q=>by rw [upd_ne (neH c _ q (fun _ _ z=>nomatch z))]; exact q) fun c xs q=>by rw [upd_ne (neH c _ q (fun _ _ z=>nomatch z))]; exact q
end
def tLock (t:TS):TS:=fun D σ H=>∃ d u,H d=some u∧Mut (some u)∧∀ od,t ⟨fun σ' H'=>H' d=some (.frz od u)∧D.nx σ' (upd H' d u),fun v H'=>H' d=some (.frz od u)∧D.rt v (upd H' d u),fun σ' H'=>H' d=some (.frz od u)∧D.bk σ' (upd H' d u),fun σ' H'=>H' d=some (.frz od u)∧D.ct σ' (upd H' d u)⟩ σ (upd H d (.frz od u))
def tLockE (t:TE):TE:=fun σ H Q=>∃ d u,H d=some u∧Mut (some u)∧∀ od,t σ (upd H d (.frz od u)) fun v H'=>H' d=some (.frz od u)∧Q v (upd H' d u)
section
variable {X:Cx}
theorem ps_lock {st:Stmt} {t:TS} (h:PS X st t):PS X st (tLock t):=by
 intro pins s σ H D I hw
 obtain ⟨d,u,hd,mu,hw⟩:=hw
 obtain ⟨od,I1⟩:=I.lock hd mu
 refine thn (h pins s σ _ _ I1 (hw od)) fun f s1 q=>?_
 cases f with
 | next=>obtain ⟨σ',H',I2,e,q⟩:=q; exact ⟨σ',_,I2.unlock e (I.nofrz hd mu),q⟩
 | brk=>obtain ⟨σ',H',I2,e,q⟩:=q; exact ⟨σ',_,I2.unlock e (I.nofrz hd mu),q⟩
 | cont=>obtain ⟨σ',H',I2,e,q⟩:=q; exact ⟨σ',_,I2.unlock e (I.nofrz hd mu),q⟩
 | ret v=>obtain ⟨x,σ',H',I2,r,e,q⟩:=q; exact ⟨x,σ',_,I2.unlock e (I.nofrz hd mu),r,q⟩
theorem pe_lock {e:Expr} {t:TE} (h:PE X e t):PE X e (tLockE t):=by
 intro pins s σ H Q I hw
 obtain ⟨d,u,hd,mu,hw⟩:=hw
 obtain ⟨od,I1⟩:=I.lock hd mu
 refine thn (h pins s σ _ _ I1 (hw od)) fun v s1 ⟨x,H1,I2,r,e2,q⟩=>?_
 exact ⟨x,_,I2.unlock e2 (I.nofrz hd mu),r,q⟩
theorem pi_one {tg:Expr} {pins:List (Addr×Obj)} {σ:St} {H:Hp} {s:Shared} {R:It→Hp→Prop} {J:It} {tn:Nat→Heap→Prop} {tk:Nat} (I:Inv X pins σ H s) (o:Obj)
  (T:Turn X.prog X.w X.K tg J [s.heap.objs.size] s.heap.objs.size tn) (st:tn 0 (s.heap.push o)) (q:R J H):PIE X pins σ tg R (.ref s.heap.objs.size) { s with heap:=s.heap.push o,toks:=tk }:=by
 refine ⟨s.heap.objs.size,[s.heap.objs.size],tn,J,H,rfl,I.kept fun b ob e=>Heap.get?_push_of_some _ e,T,st,fun b hb=>?_,q⟩
 have e:b=s.heap.objs.size:=by simpa using hb
 subst e
 exact I.fpOk (Nat.le_refl _) (I.hok.fresh (Nat.le_refl _))
end
def Itc (lo c:Int) (n:Nat):It:=⟨fun i _=>i < n,fun i H x H'=>H'=H∧x=.int (lo + (i:Nat) * c),fun i _=>n≤i⟩
theorem turn_rangeC {P:Program} {w:World} {K:PySem.W.Frag} {tg:Expr} (it:Addr) (lo c:Int) (n:Nat):Turn P w K tg (Itc lo c n) [it] it (fun i h=>IsRangeIter h it (lo + (i:Nat) * c) ((n:Int) - (i:Nat)) c) where
 mem:=by simp
 obj:=fun i h st b hb=>by
  have e:b=it:=by simpa using hb
  subst e
  exact ⟨_,st,fun v z=>nomatch z⟩
 keep:=fun i h h' st k=>k it (by simp) _ st
 item:=by
  intro X hP hw hK hc i pins s σ H E I hf st hg
  subst hP hw hK
  obtain ⟨f0,f1,f2,f3,f4,f5⟩:=hf it (by simp)
  have W:=Walks.range (prog:=X.prog) (w:=X.w) (I.ok.hd hc) it lo c n
  refine W.item i s _ _ hg st fun v h' tk hv st' kk=>?_
  obtain ⟨t,rfl⟩:=hv
  have I1:Inv X pins σ H { s with heap:=h',toks:=tk }:=I.turned (fun b o hb e=>kk b o (by simpa using hb) e) f0 f1 f3 f4 f5
  exact ⟨_,rfl,go_of (s:={ s with heap:=h',toks:=tk }) (n:="range_iterator") st' rfl rfl (by decide) ⟨.int (lo + (i:Nat) * c),H,I1,⟨t,rfl⟩,⟨rfl,rfl⟩,st',fun b hb=>(hf b hb).1⟩⟩
 done:=by
  intro X hP hw hK hc i pins s σ H E I hf st hg
  subst hP hw hK
  obtain ⟨f0,f1,f2,f3,f4,f5⟩:=hf it (by simp)
  exact wpAny_pyNext_range_end (I.ok.hd hc) st (by have:n≤i:=hg; omega) fun h' eb=>⟨rfl,I.turned (t':=s.toks) (fun b o hb e=>eb b o hb e) f0 f1 f3 f4 f5⟩
 self:=fun A i s Q E st h=>wpAny_pyIter_rangeiter st h
def RgC (i j c:Int) (n:Nat):Prop:=c≠0∧c.natAbs < 1073741824∧Builtin.Range.small i j c=true∧Builtin.Range.rangeSize i j c=n
def iRng3 (ta:TA):TI:=fun σ H R=>ta σ H fun vs H1=>∃ (i j c:Int) (n:Nat),vs=[.int i,.int j,.int c]∧RgC i j c n∧R (Itc i c n) H1
section
variable {X:Cx} {tg:Expr}
theorem pi_range3 {a b c:Expr} {ta:TA} {p pos:Pos} (hg:Gl X "range") (hm:X.mg "range"=none) (ha:PA X [a,b,c] ta)
  (hs:starEach [a,b,c] X.env=(false,eval a X.env)::starEach [b,c] X.env:=by rfl) (hpl:(backTo pos (starEach [b,c] X.env)).any (·.1)=false:=by rfl) :
  PI X tg (.Call (.Name "range" p) [a,b,c] [] pos) (iRng3 ta):=by
 intro pins s σ H R I h
 refine Call_ (ld_blt I hg hm boot_range (PyProof.Rows.callWith_type1 (thn (ha pos pins s σ H _ I h) fun us s1 ⟨vs,H1,I1,r1,q1⟩=>?_) hs hpl))
 obtain ⟨i,j,k,n,e,⟨c0,c1,c2,c3⟩,q⟩:=q1
 subst e
 cases r1 with
 | cons r rr =>
  cases rr with
  | cons r' rr =>
   cases rr with
   | cons r'' rr =>
    cases rr
    obtain ⟨t,rfl⟩:=r
    obtain ⟨t',rfl⟩:=r'
    obtain ⟨t'',rfl⟩:=r''
    refine call_range_3 c0 ?_ (.inl (PyProof.noPylong_small c1))
    refine wpAny_pyIter_range (IsRange.new ..) c2 ?_
    have I2:Inv X pins σ H1 { s1 with heap:=s1.heap.push { cls:=.type "range",data:=.fields #[.int i t,.int j t',.int k t''] } }:=I1.kept (t':=s1.toks) fun b o e=>Heap.get?_push_of_some _ e
    refine pi_one (tk:=s1.toks) I2 _ (turn_rangeC _ i k n) ?_ q
    have e1:i + ((0:Nat):Int) * k=i:=by simp
    have e2:(n:Int) - ((0:Nat):Int)=Builtin.Range.rangeSize i j k:=by rw [c3]; simp
    show IsRangeIter _ _ (i + ((0:Nat):Int) * k) ((n:Int) - ((0:Nat):Int)) k
    rw [e1,e2]
    exact Heap.get?_push_size _ rfl
end
theorem for_rangeC {lo c:Int} {n:Nat} {g:TG} {tb:TS} {D:Ends} {σ:St} {H:Hp} (Pv:Nat→St→Hp→Prop) (h0:Pv 0 σ H)
  (hs:∀ i σ H,i < n→Pv i σ H→g (.int (lo + (i:Nat) * c)) σ H fun σ2 H2=>tb { D with nx:=Pv (i + 1),ct:=Pv (i + 1),bk:=D.nx } σ2 H2) (hd:∀ σ H,Pv n σ H→D.nx σ H) :
  ∃ W:Nat→Nat→St→Hp→Prop,(∃ m,W 0 m σ H)∧∀ i m σ H,W i m σ H →
   ((Itc lo c n).stop i H∧D.nx σ H)∨((Itc lo c n).go i H∧∃ N:St→Hp→Prop,(∀ σ' H',N σ' H'→∃ m',m' < m∧W (i + 1) m' σ' H')∧∀ x H',(Itc lo c n).yld i H x H'→g x σ H' fun σ2 H2=>tb { D with nx:=N,ct:=N,bk:=D.nx } σ2 H2):=by
 refine ⟨fun i m σ H=>m=n - i∧i≤n∧Pv i σ H,⟨n,by simp,Nat.zero_le _,h0⟩,?_⟩
 rintro i m σ H ⟨rfl,hi,p⟩
 by_cases hlt:i < n
 ·refine .inr ⟨hlt,Pv (i + 1),fun σ' H' p'=>⟨n - (i + 1),by omega,rfl,hlt,p'⟩,fun x H' y=>?_⟩
  obtain ⟨e,y⟩:=y
  subst e y
  exact hs i σ _ hlt p
 ·have e:i=n:=by omega
  subst e
  exact .inl ⟨Nat.le_refl _,hd σ H p⟩
section
variable {X:Cx} {tg:Expr}
end
section
variable {prog:Program} {w:World} {A:Around} {E:Value→Shared→Prop} {s:Shared}
theorem iter_keys {d:Addr} {o:Obj} {es:Array DictEntry} {ep:Nat} {Q:Value→Shared→Prop} (hd:(d == sysModules)=false) (ho:s.heap.get? d=some o) (hc:o.ExactDict) (hdat:o.data=.dict es ep)
  (hQ:Q (.ref s.heap.objs.size) { s with heap:=s.heap.push { cls:=.type "dict_keyiterator",data:=.fields #[.ref d,.int 0 0,.int es.size 0,.int ep 0] } }) :
  wpAny (model prog w) A (pyIter (.ref d)) Q E s:=by
 have hT:s.TypeIs (.ref d) "dict":=⟨o,ho,hc.1⟩
 refine wpAny_pyIter_slot hT F.slot_dict_iter (wpAny_call_entry F.slot_dict_iter hT F.entry_dict_iter ?_ (F.args_dict_iter_1 _))
 unfold Builtin.«dict.__iter__»
 refine wpAny_bind ?_
 unfold Builtin.Dict.dictSlotNone
 refine wpAny_bind (wpAny_notOrdered_dict hT ?_)
 show wpAny _ _ (pure (Value.ref d)) _ _ s
 refine wpAny_pure ?_
 show wpAny _ _ (Builtin.Dict.showsAll d >>= _) _ _ s
 unfold Builtin.Dict.showsAll
 rw [if_neg (by rw [hd]; exact Bool.false_ne_true)]
 refine wpAny_bind (wpAny_pure ?_)
 refine wpAny_bind (wpAny_dictEntries ho hdat ?_)
 refine wpAny_bind (wpAny_dictEpoch ho hdat ?_)
 refine wpAny_bind (wpAny_newObj_type (wpAny_pure ⟨_,rfl,"dict_keyiterator",_,⟨_,Heap.get?_push_size _ rfl,rfl⟩,F.slot_dict_keyiterator_next.lookup,?_⟩))
 simpa [rawInt] using hQ
theorem next_key_item {it d:Addr} {i n ep:Nat} {od:Obj} {es:Array DictEntry} {en:DictEntry} {Q:Option Value→Shared→Prop} (hit:s.heap.IsKeyIter it d i n ep) (hod:s.heap.get? d=some od) (hdd:od.data=.dict es ep)
  (hsz:es.size=n) (hx:es[i]?=some en) (hQ:∀ h',h'.IsKeyIter it d (i + 1) n ep→Heap.SameBut it s.heap h'→Q (some en.key) { s with heap:=h' }):wpAny (model prog w) A (pyNext (.ref it)) Q E s:=by
 obtain ⟨o,ho,hc,hd⟩:=id hit
 unfold pyNext
 refine wpAny_bind (wpAny_attempt (wpAny_callSpecial?_slot (name:=Str.ofString "__next__") hit.typeIs F.slot_dict_keyiterator_next
  (wpAny_call_entry F.slot_dict_keyiterator_next hit.typeIs F.entry_dict_keyiterator_next ?_ (F.args_dict_keyiterator_next_1 _))))
 refine wpAny_bind (wpAny_pure ?_)
 refine wpAny_bind ?_
 refine wpAny_bind ?_
 first | refine wpAny_bind (wpAny_typeNameOfWhole_keyiter hit.typeIs (wpAny_pure ?_)) | refine wpAny_bind (wpAny_typeNameOf_keyiter hit.typeIs (wpAny_pure ?_))
 refine wpAny_bind (wpAny_fieldsOf ho hd ?_)
 have hown:Builtin.Dict_items.ownsTuple "dict_keyiterator"=false:=by decide
 simp only [hown,Bool.false_eq_true,if_false]
 show wpAny _ _ (if (Value.ref d == Value.none)=true then _ else _) _ _ s
 rw [if_neg (show ¬ ((Value.ref d == Value.none)=true) from Bool.false_ne_true)]
 refine wpAny_bind (wpAny_pure ?_)
 refine wpAny_bind (wpAny_dictEntries hod hdd ?_)
 rw [if_neg (by rw [hsz]; simp)]
 refine wpAny_bind (wpAny_pure ?_)
 refine wpAny_bind (wpAny_dictEpoch hod hdd ?_)
 rw [if_neg (by simp)]
 refine wpAny_pure ?_
 obtain ⟨hlt',hen⟩:=Array.getElem?_eq_some_iff.mp hx
 simp only [show ¬ ((i:Int) < 0) from by omega,if_false,Int.toNat_natCast,Array.getElem?_eq_getElem hlt']
 refine wpAny_bind ?_
 first | refine wpAny_bind (wpAny_typeNameOfWhole_keyiter hit.typeIs (wpAny_pure ?_)) | refine wpAny_bind (wpAny_typeNameOf_keyiter hit.typeIs (wpAny_pure ?_))
 refine wpAny_bind (wpAny_isOneOf_keyiter hit.typeIs ?_)
 show wpAny _ _ (setField (.ref it) 1 (rawInt ((i:Int) + 1)) >>= _) _ _ s
 refine wpAny_bind (wpAny_setField ho hd (by simp) ?_)
 have hit':(s.heap.update it (Obj.mapFields (·.setIfInBounds 1 (rawInt ((i:Int) + 1))))).IsKeyIter it d (i + 1) n ep :=
  ⟨_,Heap.get?_update_self _ ho (Obj.isFreed_of_fields (Obj.data_mapFields hd _)),(Obj.cls_mapFields ..).trans hc,by rw [Obj.data_mapFields hd]; simp [rawInt]⟩
 refine wpAny_bind (wpAny_holding ?_)
 refine wpAny_bind (wpAny_isOneOf_keyiter (s:={ s with heap:=s.heap.update it (Obj.mapFields (·.setIfInBounds 1 (rawInt ((i:Int) + 1)))) }) hit'.typeIs ?_)
 show wpAny _ _ (pure es[i].key) _ _ _
 rw [hen]
 exact wpAny_pure (wpAny_pure ⟨_,rfl,wpAny_pure (hQ _ hit' (Heap.SameBut.update ..))⟩)
theorem next_key_end {it d:Addr} {i n ep:Nat} {od:Obj} {es:Array DictEntry} {Q:Option Value→Shared→Prop} (hh:A.handled=none) (hit:s.heap.IsKeyIter it d i n ep) (hod:s.heap.get? d=some od) (hdd:od.data=.dict es ep)
  (hsz:es.size=n) (hge:n≤i) (hQ:∀ h',Heap.ExtBut it s.heap h'→Q none { s with heap:=h' }):wpAny (model prog w) A (pyNext (.ref it)) Q E s:=by
 obtain ⟨o,ho,hc,hd⟩:=id hit
 unfold pyNext
 refine wpAny_bind (wpAny_attempt (wpAny_callSpecial?_slot (name:=Str.ofString "__next__") hit.typeIs F.slot_dict_keyiterator_next
  (wpAny_call_entry F.slot_dict_keyiterator_next hit.typeIs F.entry_dict_keyiterator_next ?_ (F.args_dict_keyiterator_next_1 _))))
 refine wpAny_bind (wpAny_pure ?_)
 refine wpAny_bind ?_
 refine wpAny_bind ?_
 first | refine wpAny_bind (wpAny_typeNameOfWhole_keyiter hit.typeIs (wpAny_pure ?_)) | refine wpAny_bind (wpAny_typeNameOf_keyiter hit.typeIs (wpAny_pure ?_))
 refine wpAny_bind (wpAny_fieldsOf ho hd ?_)
 have hown:Builtin.Dict_items.ownsTuple "dict_keyiterator"=false:=by decide
 simp only [hown,Bool.false_eq_true,if_false]
 show wpAny _ _ (if (Value.ref d == Value.none)=true then _ else _) _ _ s
 rw [if_neg (show ¬ ((Value.ref d == Value.none)=true) from Bool.false_ne_true)]
 refine wpAny_bind (wpAny_pure ?_)
 refine wpAny_bind (wpAny_dictEntries hod hdd ?_)
 rw [if_neg (by rw [hsz]; simp)]
 refine wpAny_bind (wpAny_pure ?_)
 refine wpAny_bind (wpAny_dictEpoch hod hdd ?_)
 rw [if_neg (by simp)]
 refine wpAny_pure ?_
 have hge':es.size≤i:=by rw [hsz]; exact hge
 simp only [show ¬ ((i:Int) < 0) from by omega,if_false,Int.toNat_natCast,Array.getElem?_eq_none hge']
 refine wpAny_bind ?_
 first | refine wpAny_bind (wpAny_typeNameOfWhole_keyiter hit.typeIs (wpAny_pure ?_)) | refine wpAny_bind (wpAny_typeNameOf_keyiter hit.typeIs (wpAny_pure ?_))
 show wpAny _ _ (setField (.ref it) 0 .none >>= _) _ _ s
 refine wpAny_bind (wpAny_setField ho hd (by simp) ?_)
 show wpAny _ _ (newExc (.type "StopIteration") [] >>= _) _ _ _
 refine wpAny_bind ?_
 simp only [newExc,newTuple]
 refine wpAny_bind (wpAny_newObj_type ?_ (by size_fits))
 refine wpAny_bind (m:=firstArgMember _ _) (wpAny_of_eq (a:=Value.none) (by first | rfl | (simp only [firstArgMember]; rfl)) ?_)
 refine wpAny_newObj_type ?_ (by size_fits)
 simp only [raiseNew]
 refine wpAny_bind (wpAny_handled ?_)
 rw [show A.in1.handled=none from hh]
 refine wpAny_bind (wpAny_pure (wpAny_throw ?_))
 refine wpAny_bind (wpAny_isInstance (T:="StopIteration") (b:=true) ⟨_,Heap.get?_push_size _ rfl,rfl⟩ isSubtype_stop ?_)
 exact wpAny_pure (hQ _ (((Heap.SameBut.update ..).extBut.push _).push _))
end
theorem kv_get {κ:Type} {kvs:List (κ×V)} {vs:List (κ×Value)} (h:KV kvs vs):∀ {i:Nat} {k:κ} {v:V},kvs[i]?=some (k,v)→∃ u,vs[i]?=some (k,u)∧RelV v u:=by
 unfold KV at h
 induction h with
 | nil=>intro i k v e; simp at e
 | @cons a b l₁ l₂ r t ih =>
  intro i k v e
  cases i with
  | zero =>
   simp only [List.getElem?_cons_zero,Option.some.injEq] at e
   subst e
   refine ⟨b.2,?_,r.2⟩
   simp only [List.getElem?_cons_zero]
   exact congrArg some (Prod.ext r.1.symm rfl)
  | succ j =>
   simp only [List.getElem?_cons_succ] at e ⊢
   exact ih e
theorem paired_get {α β:Type} {G:α→β→Prop} {l₁:List α} {l₂:List β} (h:Paired G l₁ l₂):∀ {i:Nat} {a:α},l₁[i]?=some a→∃ b,l₂[i]?=some b∧G a b:=by
 induction h with
 | nil=>intro i a e; simp at e
 | @cons a b l₁ l₂ r t ih =>
  intro i a' e
  cases i with
  | zero =>
   simp only [List.getElem?_cons_zero,Option.some.injEq] at e
   subst e
   exact ⟨b,rfl,r⟩
  | succ j =>
   simp only [List.getElem?_cons_succ] at e ⊢
   exact ih e
theorem relV_key {k:Key} {u:Value} (h:keyIs k u=true):RelV (kV k) u:=by
 rcases keyIs_shape h with ⟨i,t,rfl,rfl⟩ | ⟨x,t,rfl,rfl⟩
 ·exact ⟨t,rfl⟩
 ·exact ⟨t,rfl⟩
section
variable {X:Cx} {pins:List (Addr×Obj)} {σ:St} {H:Hp} {s:Shared} {d:Addr} {o:Obj}
theorem Inv.frzK {kvs:List (Key×V)} (I:Inv X pins σ H s) (h:H d=some (.frz o (.dK kvs))) :
  (d == sysModules)=false∧s.heap.get? d=some o∧o.ExactDict∧∃ (es:Array DictEntry) (ep:Nat) (vs:List (Key×Value)),o.data=.dict es ep∧es.size=kvs.length∧KV kvs vs∧s.heap.DictAt (mixKind X.prog X.w) d vs ep:=by
 obtain ⟨hd,z,hs,vs,kv,o',es,ep,ho,hx,hdt,r⟩:=I.hok d _ h
 rw [hd] at ho
 cases ho
 refine ⟨hs,hd,hx,es,ep,vs,hdt,?_,kv,o,es,hd,hx,hdt,r⟩
 have l1:=r.2.1.length
 have l2:kvs.length=vs.length:=Paired.length kv
 rw [Array.length_toList] at l1
 omega
theorem Inv.frzT {kvs:List (List Key×V)} (I:Inv X pins σ H s) (h:H d=some (.frz o (.dT kvs))) :
  (d == sysModules)=false∧s.heap.get? d=some o∧o.ExactDict∧∃ (es:Array DictEntry) (ep:Nat),o.data=.dict es ep∧es.size=kvs.length ∧
   ∀ (i:Nat) (k:List Key) (v:V),kvs[i]?=some (k,v)→∃ (en:DictEntry) (q:Addr),es[i]?=some en∧en.key=.ref q∧H q=some (.tup (k.map kV)):=by
 obtain ⟨hd,z,hs,xs,pr,o',es,ep,ho,hx,hdt,he,_⟩:=I.hok d _ h
 rw [hd] at ho
 cases ho
 refine ⟨hs,hd,hx,es,ep,hdt,?_,fun i k v e=>?_⟩
 ·have l1:es.size=xs.length:=size_of_entries he
  have l2:kvs.length=xs.length:=Paired.length pr
  omega
 ·obtain ⟨b,hb,e1,e2,_⟩:=paired_get pr e
  have q:=entry_at he i
  rw [hb] at q
  exact ⟨_,b.2.1,q,rfl,e2⟩
end
def Itk (d:Addr) (o:Obj) (kvs:List (Key×V)):It :=
 ⟨fun i H=>H d=some (.frz o (.dK kvs))∧i < kvs.length,fun i H x H'=>H'=H∧∃ k v,kvs[i]?=some (k,v)∧x=kV k,fun i H=>H d=some (.frz o (.dK kvs))∧kvs.length≤i⟩
def Itkt (d:Addr) (o:Obj) (kvs:List (List Key×V)):It :=
 ⟨fun i H=>H d=some (.frz o (.dT kvs))∧i < kvs.length,fun i H x H'=>H'=H∧∃ (k:List Key) (v:V) (q:Addr),kvs[i]?=some (k,v)∧x=.ref q∧H q=some (.tup (k.map kV)),fun i H=>H d=some (.frz o (.dT kvs))∧kvs.length≤i⟩
def Itd (d:Addr) (o:Obj) (kvs:List (Key×V)):It :=
 ⟨fun i H=>H d=some (.frz o (.dK kvs))∧i < kvs.length,fun i H x H'=>H'=H∧∃ k,kvs[i]?=some (k,x),fun i H=>H d=some (.frz o (.dK kvs))∧kvs.length≤i⟩
def Iti (d:Addr) (o:Obj) (kvs:List (Key×V)):It :=
 ⟨fun i H=>H d=some (.frz o (.dK kvs))∧i < kvs.length,fun i H x H'=>∃ T k v,kvs[i]?=some (k,v)∧x=.ref T∧H T=none∧H'=upd H T (.tup [kV k,v]),fun i H=>H d=some (.frz o (.dK kvs))∧kvs.length≤i⟩
theorem dict_ep {o:Obj} {es es':Array DictEntry} {ep ep':Nat} (h:o.data=.dict es ep) (h':o.data=.dict es' ep'):es'=es∧ep'=ep:=by
 rw [h] at h'
 cases h'
 exact ⟨rfl,rfl⟩
section
variable {P:Program} {w:World} {K:PySem.W.Frag} {tg:Expr} {d:Addr} {o:Obj} {es:Array DictEntry} {ep:Nat}
theorem turn_keys {kvs:List (Key×V)} (it:Addr) (hod:o.data=.dict es ep):Turn P w K tg (Itk d o kvs) [it] it (fun i h=>h.IsKeyIter it d i kvs.length ep) where
 mem:=by simp
 obj:=fun i h st b hb=>by
  have e:b=it:=by simpa using hb
  subst e
  obtain ⟨oi,e,c,dd⟩:=st
  exact ⟨oi,e,fun v z=>by rw [dd] at z; cases z⟩
 keep:=fun i h h' st k=>st.at fun oi e=>k it (by simp) oi e
 item:=by
  intro X hP hw hK hc i pins s σ H E I hf st hg
  subst hP hw hK
  obtain ⟨hd,hi⟩:=hg
  obtain ⟨f0,f1,f2,f3,f4,f5⟩:=hf it (by simp)
  obtain ⟨hs,hgd,hx,es',ep',vs,hdt,hsz,kv,hm⟩:=I.frzK hd
  obtain ⟨rfl,rfl⟩:=dict_ep hod hdt
  obtain ⟨⟨k,v⟩,hkv⟩:∃ p,kvs[i]?=some p:=⟨kvs[i],List.getElem?_eq_getElem hi⟩
  obtain ⟨u,hu,ru⟩:=kv_get kv hkv
  have hl:kvs.length=vs.length:=Paired.length kv
  rw [hl] at st
  refine wpAny_pyNext_dict_item st hm hu fun key h' hkey st' sb=>?_
  have I1:Inv X pins σ H { s with heap:=h' }:=I.turned (t':=s.toks) (fun b ob hb e=>(sb.2 b hb).trans e) f0 f1 f3 f4 f5
  obtain ⟨oi,e,c,dd⟩:=id st'
  refine ⟨key,rfl,go_of (s:={ s with heap:=h' }) e c dd (by decide) ⟨kV k,H,I1,relV_key (show keyIs k key=true from hkey),⟨rfl,k,v,hkv,rfl⟩,?_,fun b hb=>(hf b hb).1⟩⟩
  show h'.IsKeyIter it d (i + 1) kvs.length _
  rw [hl]
  exact st'
 done:=by
  intro X hP hw hK hc i pins s σ H E I hf st hg
  subst hP hw hK
  obtain ⟨hd,hi⟩:=hg
  obtain ⟨f0,f1,f2,f3,f4,f5⟩:=hf it (by simp)
  obtain ⟨hs,hgd,hx,es',ep',vs,hdt,hsz,kv,hm⟩:=I.frzK hd
  obtain ⟨rfl,rfl⟩:=dict_ep hod hdt
  exact next_key_end (I.ok.hd hc) st hgd hdt hsz hi fun h' eb=>⟨rfl,I.turned (t':=s.toks) (fun b ob hb e=>eb b ob hb e) f0 f1 f3 f4 f5⟩
 self:=fun A i s Q E st h=>wpAny_pyIter_keyiter st h
theorem turn_keysT {kvs:List (List Key×V)} (it:Addr) (hod:o.data=.dict es ep):Turn P w K tg (Itkt d o kvs) [it] it (fun i h=>h.IsKeyIter it d i kvs.length ep) where
 mem:=by simp
 obj:=fun i h st b hb=>by
  have e:b=it:=by simpa using hb
  subst e
  obtain ⟨oi,e,c,dd⟩:=st
  exact ⟨oi,e,fun v z=>by rw [dd] at z; cases z⟩
 keep:=fun i h h' st k=>st.at fun oi e=>k it (by simp) oi e
 item:=by
  intro X hP hw hK hc i pins s σ H E I hf st hg
  subst hP hw hK
  obtain ⟨hd,hi⟩:=hg
  obtain ⟨f0,f1,f2,f3,f4,f5⟩:=hf it (by simp)
  obtain ⟨hs,hgd,hx,es',ep',hdt,hsz,ent⟩:=I.frzT hd
  obtain ⟨rfl,rfl⟩:=dict_ep hod hdt
  obtain ⟨⟨k,v⟩,hkv⟩:∃ p,kvs[i]?=some p:=⟨kvs[i],List.getElem?_eq_getElem hi⟩
  obtain ⟨en,q,hen,hkey,hq⟩:=ent i k v hkv
  refine next_key_item st hgd hdt hsz hen fun h' st' sb=>?_
  have I1:Inv X pins σ H { s with heap:=h' }:=I.turned (t':=s.toks) (fun b ob hb e=>(sb.2 b hb).trans e) f0 f1 f3 f4 f5
  obtain ⟨oi,e,c,dd⟩:=id st'
  exact ⟨en.key,rfl,go_of (s:={ s with heap:=h' }) e c dd (by decide) ⟨.ref q,H,I1,hkey,⟨rfl,k,v,q,hkv,rfl,hq⟩,st',fun b hb=>(hf b hb).1⟩⟩
 done:=by
  intro X hP hw hK hc i pins s σ H E I hf st hg
  subst hP hw hK
  obtain ⟨hd,hi⟩:=hg
  obtain ⟨f0,f1,f2,f3,f4,f5⟩:=hf it (by simp)
  obtain ⟨hs,hgd,hx,es',ep',hdt,hsz,ent⟩:=I.frzT hd
  obtain ⟨rfl,rfl⟩:=dict_ep hod hdt
  exact next_key_end (I.ok.hd hc) st hgd hdt hsz hi fun h' eb=>⟨rfl,I.turned (t':=s.toks) (fun b ob hb e=>eb b ob hb e) f0 f1 f3 f4 f5⟩
 self:=fun A i s Q E st h=>by
  refine wpAny_pyIter_slot st.typeIs F.slot_dict_keyiterator_iter (wpAny_call_entry F.slot_dict_keyiterator_iter st.typeIs F.entry_dict_keyiterator_iter ?_ (F.args_dict_keyiterator_iter_1 _))
  show wpAny _ _ (ret (.ref it)) _ _ s
  exact wpAny_pure ⟨_,rfl,"dict_keyiterator",_,st.typeIs,F.slot_dict_keyiterator_next.lookup,h⟩
theorem turn_vals {kvs:List (Key×V)} (it:Addr) (hod:o.data=.dict es ep):Turn P w K tg (Itd d o kvs) [it] it (fun i h=>h.IsValIter it d i kvs.length ep) where
 mem:=by simp
 obj:=fun i h st b hb=>by
  have e:b=it:=by simpa using hb
  subst e
  obtain ⟨oi,e,c,dd⟩:=st
  exact ⟨oi,e,fun v z=>by rw [dd] at z; cases z⟩
 keep:=fun i h h' st k=>st.at fun oi e=>k it (by simp) oi e
 item:=by
  intro X hP hw hK hc i pins s σ H E I hf st hg
  subst hP hw hK
  obtain ⟨hd,hi⟩:=hg
  obtain ⟨f0,f1,f2,f3,f4,f5⟩:=hf it (by simp)
  obtain ⟨hs,hgd,hx,es',ep',vs,hdt,hsz,kv,hm⟩:=I.frzK hd
  obtain ⟨rfl,rfl⟩:=dict_ep hod hdt
  obtain ⟨⟨k,v⟩,hkv⟩:∃ p,kvs[i]?=some p:=⟨kvs[i],List.getElem?_eq_getElem hi⟩
  obtain ⟨u,hu,ru⟩:=kv_get kv hkv
  have hl:kvs.length=vs.length:=Paired.length kv
  rw [hl] at st
  refine wpAny_pyNext_values_item st hm hu fun h' st' sb=>?_
  have I1:Inv X pins σ H { s with heap:=h' }:=I.turned (t':=s.toks) (fun b ob hb e=>(sb.2 b hb).trans e) f0 f1 f3 f4 f5
  obtain ⟨oi,e,c,dd⟩:=id st'
  refine ⟨u,rfl,go_of (s:={ s with heap:=h' }) e c dd (by decide) ⟨v,H,I1,ru,⟨rfl,k,hkv⟩,?_,fun b hb=>(hf b hb).1⟩⟩
  show h'.IsValIter it d (i + 1) kvs.length _
  rw [hl]
  exact st'
 done:=by
  intro X hP hw hK hc i pins s σ H E I hf st hg
  subst hP hw hK
  obtain ⟨hd,hi⟩:=hg
  obtain ⟨f0,f1,f2,f3,f4,f5⟩:=hf it (by simp)
  obtain ⟨hs,hgd,hx,es',ep',vs,hdt,hsz,kv,hm⟩:=I.frzK hd
  obtain ⟨rfl,rfl⟩:=dict_ep hod hdt
  have hl:kvs.length=vs.length:=Paired.length kv
  rw [hl] at st
  exact wpAny_pyNext_values_end (I.ok.hd hc) st hm (List.getElem?_eq_none (by omega)) fun h' eb=>⟨rfl,I.turned (t':=s.toks) (fun b ob hb e=>eb b ob hb e) f0 f1 f3 f4 f5⟩
 self:=fun A i s Q E st h=>wpAny_pyIter_valiter st h
theorem turn_items {kvs:List (Key×V)} {elts:List Expr} {kk:Nat} {tpos:Pos} (it:Addr) (hod:o.data=.dict es ep) :
  Turn P w K (.Tuple elts kk tpos) (Iti d o kvs) [it] it (fun i h=>∃ ok ov,IsItemIter h it d i kvs.length ep ok ov) where
 mem:=by simp
 obj:=fun i h st b hb=>by
  have e:b=it:=by simpa using hb
  subst e
  obtain ⟨ok,ov,e⟩:=st
  exact ⟨_,e,fun v z=>nomatch z⟩
 keep:=fun i h h' st k=>let ⟨ok,ov,e⟩:=st; ⟨ok,ov,k it (by simp) _ e⟩
 item:=by
  intro X hP hw hK hc i pins s σ H E I hf st hg
  subst hP hw hK
  obtain ⟨hd,hi⟩:=hg
  obtain ⟨hs,hgd,hx,es',ep',vs,hdt,hsz,kv,hm⟩:=I.frzK hd
  obtain ⟨rfl,rfl⟩:=dict_ep hod hdt
  obtain ⟨⟨k,v⟩,hkv⟩:∃ p,kvs[i]?=some p:=⟨kvs[i],List.getElem?_eq_getElem hi⟩
  obtain ⟨u,hu,ru⟩:=kv_get kv hkv
  have hl:kvs.length=vs.length:=Paired.length kv
  obtain ⟨ok,ov,he⟩:=st
  rw [hl] at he
  have hlt:it < s.heap.objs.size:=Heap.lt_size he
  refine wpAny_pyNext_items_item he hm hu fun key h' hkey ho hT hz hk=>?_
  refine ⟨_,rfl,wpAny_letOwnedTupleGo_items (s:={ s with heap:=h' }) ho fun h'' he' sb=>?_⟩
  have hT2:h''.get? s.heap.objs.size=some { cls:=.type "tuple",data:=.seq #[key,u] }:=(sb.2 _ (Nat.ne_of_gt hlt)).trans hT
  have new:ObjOk X.prog X.w (upd H s.heap.objs.size (.tup [kV k,v])) h'' s.heap.objs.size (.tup [kV k,v]) :=
   ⟨by show 2≤sizeLine; decide,[key,u],.cons (relV_key (show keyIs k key=true from hkey)) (.cons ru .nil),⟨_,hT2,rfl,_,rfl⟩⟩
  have I1:Inv X pins σ (upd H s.heap.objs.size (.tup [kV k,v])) { s with heap:=h'' } :=
   I.turnedNew (t':=s.toks) (ch:=[it]) (fun b ob hb e=>(sb.2 b (by simpa using hb)).trans (hk b ob (by simpa using hb) e)) hf (Nat.le_refl _) new
  refine ⟨.ref s.heap.objs.size,_,I1,rfl,⟨_,k,v,hkv,rfl,I.hok.fresh (Nat.le_refl _),rfl⟩,⟨key,u,?_⟩,fun b hb=>?_⟩
  ·rw [hl]; exact he'
  ·have e:b=it:=by simpa using hb
   rw [e,upd_ne (Nat.ne_of_lt hlt)]
   exact (hf it (by simp)).1
 done:=by
  intro X hP hw hK hc i pins s σ H E I hf st hg
  subst hP hw hK
  obtain ⟨hd,hi⟩:=hg
  obtain ⟨f0,f1,f2,f3,f4,f5⟩:=hf it (by simp)
  obtain ⟨hs,hgd,hx,es',ep',vs,hdt,hsz,kv,hm⟩:=I.frzK hd
  obtain ⟨rfl,rfl⟩:=dict_ep hod hdt
  have hl:kvs.length=vs.length:=Paired.length kv
  obtain ⟨ok,ov,he⟩:=st
  rw [hl] at he
  exact wpAny_pyNext_items_end (I.ok.hd hc) he hm (List.getElem?_eq_none (by omega)) fun h' eb=>⟨rfl,I.turned (t':=s.toks) (fun b ob hb e=>eb b ob hb e) f0 f1 f3 f4 f5⟩
 self:=fun A i s Q E st h=>let ⟨_,_,e⟩:=st; PySem.W.kcp_self e h
end
def iKeys (td:TE):TI:=fun σ H R=>td σ H fun x H1=>∃ d o,x=.ref d∧((∃ kvs,H1 d=some (.frz o (.dK kvs))∧R (Itk d o kvs) H1)∨∃ kvs,H1 d=some (.frz o (.dT kvs))∧R (Itkt d o kvs) H1)
def iVals (td:TE):TI:=fun σ H R=>td σ H fun x H1=>∃ d o kvs,x=.ref d∧H1 d=some (.frz o (.dK kvs))∧R (Itd d o kvs) H1
def iItems (td:TE):TI:=fun σ H R=>td σ H fun x H1=>∃ d o kvs,x=.ref d∧H1 d=some (.frz o (.dK kvs))∧R (Iti d o kvs) H1
section
variable {X:Cx} {tg e:Expr} {td:TE} {apos cpos:Pos}
theorem pi_keys (he:PE X e td):PI X tg e (iKeys td):=by
 intro pins s σ H R I h
 refine thn (he pins s σ H _ I h) fun u s1 ⟨x,H1,I1,rx,d,o,ex,q⟩=>?_
 subst ex
 obtain rfl:u=Value.ref d:=rx
 rcases q with ⟨kvs,hd,q⟩ | ⟨kvs,hd,q⟩
 ·obtain ⟨hs,hgd,hx,es,ep,vs,hdt,hsz,kv,hm⟩:=I1.frzK hd
  refine iter_keys hs hgd hx hdt (pi_one (tk:=s1.toks) I1 _ (turn_keys _ hdt) ⟨_,Heap.get?_push_size _ rfl,rfl,?_⟩ q)
  rw [hsz] <;> rfl
 ·obtain ⟨hs,hgd,hx,es,ep,hdt,hsz,ent⟩:=I1.frzT hd
  refine iter_keys hs hgd hx hdt (pi_one (tk:=s1.toks) I1 _ (turn_keysT _ hdt) ⟨_,Heap.get?_push_size _ rfl,rfl,?_⟩ q)
  rw [hsz] <;> rfl
theorem pi_values (he:PE X e td) (hbase:attributeBase e "values" X.env (eval e X.env)=eval e X.env:=by rfl) (hline:(apos.endLine == cpos.line)=true:=by rfl):PI X tg (.Call (.Attribute e "values" apos) [] [] cpos) (iVals td):=by
 intro pins s σ H R I h
 refine wpAny_Call_method (T:="dict") (id:="dict.values") hbase rfl hline F.plainAttrs_dict F.slot_dict_values F.type_dict_values (thn (he pins s σ H _ I h) fun u s1 ⟨x,H1,I1,rx,d,o,kvs,ex,hd,q⟩=>?_)
 subst ex
 obtain rfl:u=Value.ref d:=rx
 obtain ⟨hs,hgd,hx,es,ep,vs,hdt,hsz,kv,hm⟩:=I1.frzK hd
 have hl:kvs.length=vs.length:=Paired.length kv
 refine ⟨hm.dictOf.typeIs,hm.dictOf.mapOf.noDict,?_⟩
 have I2:Inv X pins σ H1 { s1 with heap:=s1.heap.push { cls:=.type "dict_values",data:=.fields #[.ref d] } }:=I1.kept (t':=s1.toks) fun b ob q=>Heap.get?_push_of_some _ q
 have fin:wpAny (model X.prog X.w) X.A (pyIter (.ref s1.heap.objs.size)) (PIE X pins σ tg R) X.xe { s1 with heap:=s1.heap.push { cls:=.type "dict_values",data:=.fields #[.ref d] } }:=by
  refine wpAny_pyIter_values (d:=d) (knd:=mixKind X.prog X.w) ⟨_,Heap.get?_push_size _ rfl,rfl,rfl⟩ (hm.push _) (pi_one (tk:=s1.toks) I2 _ (turn_vals _ hdt) ⟨_,Heap.get?_push_size _ rfl,rfl,?_⟩ q)
  rw [hl] <;> rfl
 show wpAny _ _ (callWith cpos (.builtin "dict.values") [.ref d] [] []) _ X.xe s1
 exact method_meetsIn F.slot_dict_values F.entry_dict_values rfl (PySem.evalArgs_none ⟨rfl,hm.dictOf.typeIs,F.args_dict_values_1 _,_,meets_dict_values (mixKind X.prog X.w) d hs,⟨vs,hm.dictOf⟩,fin⟩)
theorem pi_items {elts:List Expr} {kk:Nat} {tpos:Pos} (he:PE X e td) (hbase:attributeBase e "items" X.env (eval e X.env)=eval e X.env:=by rfl) (hline:(apos.endLine == cpos.line)=true:=by rfl) :
  PI X (.Tuple elts kk tpos) (.Call (.Attribute e "items" apos) [] [] cpos) (iItems td):=by
 intro pins s σ H R I h
 refine wpAny_Call_method (T:="dict") (id:="dict.items") hbase rfl hline F.plainAttrs_dict F.slot_dict_items F.type_dict_items (thn (he pins s σ H _ I h) fun u s1 ⟨x,H1,I1,rx,d,o,kvs,ex,hd,q⟩=>?_)
 subst ex
 obtain rfl:u=Value.ref d:=rx
 obtain ⟨hs,hgd,hx,es,ep,vs,hdt,hsz,kv,hm⟩:=I1.frzK hd
 have hl:kvs.length=vs.length:=Paired.length kv
 refine ⟨hm.dictOf.typeIs,hm.dictOf.mapOf.noDict,?_⟩
 have I2:Inv X pins σ H1 { s1 with heap:=s1.heap.push { cls:=.type "dict_items",data:=.fields #[.ref d] } }:=I1.kept (t':=s1.toks) fun b ob q=>Heap.get?_push_of_some _ q
 have fin:wpAny (model X.prog X.w) X.A (pyIter (.ref s1.heap.objs.size)) (PIE X pins σ (.Tuple elts kk tpos) R) X.xe { s1 with heap:=s1.heap.push { cls:=.type "dict_items",data:=.fields #[.ref d] } }:=by
  refine wpAny_pyIter_items (d:=d) (knd:=mixKind X.prog X.w) ⟨_,Heap.get?_push_size _ rfl,rfl,rfl⟩ (hm.push _) (pi_one (tk:=s1.toks) I2 _ (turn_items _ hdt) ⟨.none,.none,?_⟩ q)
  rw [hl]
  exact Heap.get?_push_size _ rfl
 show wpAny _ _ (callWith cpos (.builtin "dict.items") [.ref d] [] []) _ X.xe s1
 exact method_meetsIn F.slot_dict_items F.entry_dict_items rfl (PySem.evalArgs_none ⟨rfl,hm.dictOf.typeIs,F.args_dict_items_1 _,_,meets_dict_items (mixKind X.prog X.w) d hs,⟨vs,hm.dictOf⟩,fin⟩)
end
end L2
section
namespace Bits
open PySem PyProof.Rows
end Bits
end
section
namespace TL
open PySem PySem.Builtin PySem.Builtin.Str PySem.StrLaws
end TL
end
namespace L2
open PySem PySem.Spec PyProof.Rows
section
variable {X:Cx} {pins:List (Addr×Obj)} {σ:St} {H:Hp} {s:Shared} {Q:VK}
end
section
variable {X:Cx}
end
section
variable {X:Cx} {o e:Expr} {to te:TE}
end
end L2
namespace L2
open PySem PySem.Spec PyProof.Rows
section
variable {X:Cx}
end
end L2
namespace Att
open PySem PySem.W PySem.Calls PyProof.Rows
section
variable {prog:Program} {w:World} {A:Around} {E:Value→Shared→Prop} {s:Shared} {K:Frag}
end
end Att
namespace L2
open PySem PySem.Spec PyProof.Rows
end L2
namespace L2
open PySem PySem.Spec PyProof.Rows
abbrev KOf {K:PySem.W.Frag} {h:Heap} (_:K.In h):PySem.W.Frag:=K
end L2
namespace L2
open PySem PySem.Spec PyProof.Rows
def inClass (s:Stmt) (j:Nat):Stmt:=match s with
 | .ClassDef _ _ _ body _ _ _ _ _ _ _=>body.getD j (.Pass ⟨0,0,0,0⟩)
 | _=>.Pass ⟨0,0,0,0⟩
def defArgs (s:Stmt):Arguments:=match s with
 | .FunctionDef _ a _ _ _ _ _ _ _ _=>a
 | _=>{ posonlyargs:=[],args:=[],vararg:=none,kwonlyargs:=[],kw_defaults:=[],kwarg:=none,defaults:=[] }
def defBody (s:Stmt):List Stmt:=match s with
 | .FunctionDef _ _ b _ _ _ _ _ _ _=>b
 | _=>[]
def defScope (s:Stmt):Scope:=match s with
 | .FunctionDef _ _ _ _ _ _ sc _ _ _=>sc
 | _=>{ kind:=.function,names:=[],isGenerator:=false,isCoroutine:=false }
abbrev CX0:CXT:=fun _ _ _ _ _ _=>False
abbrev E0:XK:=fun _ _ _=>False
theorem pass0 {X:Cx}:Passes CX0 X E0:=fun _ _ _ _ _ _ _ h=>h.elim
structure Fun (K:PySem.W.Frag) (x qual:Str) (st:Stmt) (f:Addr) (fd:FuncData):Prop where
 ex:∃ (oc:Value) (od:Option Addr) (kV doc pm:Value) (an:Option Addr) (cdv ct:Value) (osl:Array (Option Value)),
  fd=PySem.W.fnOf x qual (defArgs st) (defBody st) (defScope st) .none kV doc pm an cdv ct∧K.lookup f=some ⟨oc,od,.func fd,osl⟩∧PySem.W.codeIn K cdv qual=true
 kp:PySem.W.keepIn K (.ref f)=true
section
variable {P:Program} {w:World} {K:PySem.W.Frag} {mg:Str→Option Value} {base:Heap}
theorem Fun.ok {x qual:Str} {st:Stmt} {f:Addr} {fd:FuncData} {N ps:List Str} {k:Nat} {sp:Sp} (F:Fun K x qual st f fd) (S:FnScope N ps (defScope st)) (len:∀ vs H Q E,sp vs H Q E→vs.length=ps.length)
  (hbody:∀ (cdv:Value) (A:Around) (outer:List Env) (s:Shared) (H:Hp) (vs:List V) (Q:VK) (E:XK),Room k (A.deeper (envOfC qual (defScope st) s.heap.objs.size f cdv))→sp vs H Q E →
   ∃ t,PSs (cxOf CX0 P w K mg base N qual (defScope st) f cdv A outer s H E).nox (defBody st) t∧t { nx:=fun _ H'=>Q .non H',rt:=Q } (start N vs) H):FnOk P w K mg base CX0 (k + 1) f fd ps sp:=by
 obtain ⟨oc,od,kV,doc,pm,an,cdv,ct,osl,rfl,lk,hcd⟩:=F.ex
 refine fn_of lk hcd S len fun A outer s H vs Q E hr hsp=>?_
 obtain ⟨t,h,q⟩:=hbody cdv A outer s H vs Q E hr hsp
 exact ⟨t,h.nox,q⟩
theorem Fun.binds {x qual:Str} {st:Stmt} {f:Addr} {fd:FuncData} {ps:List Str} (F:Fun K x qual st f fd)
  (h:∀ (kV doc pm:Value) (an:Option Addr) (cdv ct:Value) (us:List Value),us.length=ps.length→bindArgs (PySem.W.fnOf x qual (defArgs st) (defBody st) (defScope st) .none kV doc pm an cdv ct) ⟨us,[]⟩=pure (ps.zip us)):Binds K fd ps []:=by
 obtain ⟨oc,od,kV,doc,pm,an,cdv,ct,osl,rfl,lk,hcd⟩:=F.ex
 exact .all (h kV doc pm an cdv ct)
theorem fun_mk {x qual:Str} {st:Stmt} {f:Addr} {oc:Value} {od an:Option Addr} {osl:Array (Option Value)} {kV doc pm cdv ct:Value} (l:K.lookup f=some ⟨oc,od,.func (PySem.W.fnOf x qual (defArgs st) (defBody st) (defScope st) .none kV doc pm an cdv ct),osl⟩)
  (c:PySem.W.codeIn K cdv qual=true) (k:PySem.W.keepIn K (.ref f)=true):Fun K x qual st f (PySem.W.fnOf x qual (defArgs st) (defBody st) (defScope st) .none kV doc pm an cdv ct):=⟨⟨oc,od,kV,doc,pm,an,cdv,ct,osl,rfl,l,c⟩,k⟩
end
theorem hu_of {A:Around} {k:Nat} (hr:Room k A):A.units + 1 < cLine:=Nat.lt_of_le_of_lt (Nat.add_le_add_left (by decide:1≤64) _) hr.units
theorem small1000 {n:Nat} (h:n≤1000):n < sizeLine:=Nat.lt_of_le_of_lt h (by decide)
section
variable {X:Cx}
theorem pv (i:Nat) {x:Str} {pos:Pos} (hN:X.N[i]?=some x:=by rfl) (hv:Vis X.env.scope x:=by first | exact Or.inl rfl | exact Or.inr (Or.inl rfl) | exact Or.inr (Or.inr rfl)) (hd:(x == ("__debug__":Str))=false:=by decide)
  (hcd:(x == ("__classdict__":Str))=false:=by decide):PE X (.Name x pos) (tVar i):=pe_var hN hv hd hcd
theorem call_lenD:CallR X (.builtin "len") (fun xs H Q=>∃ a kvs,xs=[V.ref a]∧H a=some (.dK kvs)∧Q (.int kvs.length) H):=by
 intro pins s σ H xs us Q I r h
 obtain ⟨a,kvs,rfl,ha,q⟩:=h
 obtain ⟨u,rfl,ru⟩:=vals1 r
 cases ru
 exact d_len I (.inl ha) fun t s' I'=>⟨.int kvs.length,H,I',⟨t,rfl⟩,q⟩
end
theorem iteF {A B:Prop} (h:B):if false=true then A else B:=by
 rw [if_neg Bool.false_ne_true]
 exact h
theorem iteT {A B:Prop} (h:A):if true=true then A else B:=by
 rw [if_pos rfl]
 exact h
theorem ite2 {c A B:Prop} [Decidable c] (h1:c→A) (h2:¬ c→B):if c then A else B:=by
 by_cases h:c
 ·rw [if_pos h]
  exact h1 h
 ·rw [if_neg h]
  exact h2 h
def Same (H H':Hp):Prop:=∀ b o,H b=some o→H' b=some o
theorem Same.refl (H:Hp):Same H H:=fun _ _ h=>h
theorem Same.trans {H H1 H2:Hp} (a:Same H H1) (b:Same H1 H2):Same H H2:=fun c o h=>b c o (a c o h)
theorem Same.free {H H':Hp} (e:Same H H') {l:Addr} (h:H' l=Option.none):H l=Option.none:=by
 cases q:H l with
 | none=>rfl
 | some o =>
  rw [e l o q] at h
  cases h
theorem Same.seq {K:PySem.W.Frag} {H H':Hp} {a:Addr} {xs:List V} (e:Same H H') (h:SqL K H a xs):SqL K H' a xs:=by
 rcases h with (h | ⟨o,h⟩) | h
 ·exact .inl (.inl (e _ _ h))
 ·exact .inl (.inr ⟨o,e _ _ h⟩)
 ·exact .inr h
section
variable {κ:Type} [DecidableEq κ]
theorem valV_not {kvs:List (κ×V)} {k:κ} (h:valV kvs k=none):¬ k∈kvs.map (·.1):=by
 intro m
 obtain ⟨p,hp,e⟩:=List.mem_map.mp m
 have q:(kvs.any fun kv=>decide (kv.1=k))=true:=List.any_eq_true.mpr ⟨p,hp,decide_eq_true e⟩
 rw [valV_any,h] at q
 exact absurd q (by simp)
theorem valV_in {kvs:List (κ×V)} {k:κ} {v:V} (h:valV kvs k=some v):k∈kvs.map (·.1):=by
 have q:(kvs.any fun kv=>decide (kv.1=k))=true:=by
  rw [valV_any,h]
  all_goals rfl
 obtain ⟨p,hp,e⟩:=List.any_eq_true.mp q
 exact List.mem_map.mpr ⟨p,hp,of_decide_eq_true e⟩
theorem nd_snoc:∀ {l:List κ} {k:κ},l.Nodup→¬ k∈l→(l++[k]).Nodup
 | [],k,_,_=>by simp
 | a::r,k,h,hk=>by
  obtain ⟨h1,h2⟩:=List.nodup_cons.mp h
  show (a::(r++[k])).Nodup
  refine List.nodup_cons.mpr ⟨fun m=>?_,nd_snoc h2 fun m=>hk (List.mem_cons.mpr (Or.inr m))⟩
  rcases List.mem_append.mp m with q | q
  ·exact h1 q
  ·exact hk (List.mem_cons.mpr (Or.inl (List.mem_singleton.mp q).symm))
theorem dropK_pos {p:κ×V} {r:List (κ×V)} {k:κ} (e:p.1=k):dropK (p::r) k=dropK r k:=by
 unfold dropK
 rw [List.filter_cons,if_neg (by simp [e])]
theorem dropK_neg {p:κ×V} {r:List (κ×V)} {k:κ} (e:¬ p.1=k):dropK (p::r) k=p::dropK r k:=by
 unfold dropK
 rw [List.filter_cons,if_pos (by simp [e])]
end
theorem at_of {xs:List V} {z:Int} {j:Nat} {v:V} (e:z=(j:Int)) (h:xs[j]?=some v):atI xs z=some v:=by
 rw [e]
 exact atI_nat h
theorem Same.made {H H1:Hp} {x dx C:Addr} (nx:H x=Option.none) (nd:H dx=Option.none) (k:∀ b o,(upd (upd H dx (.own x)) x (.ins C dx [])) b=some o→b≠x→H1 b=some o):Same H H1:=fun b o e =>
 k b o (by rw [upd_ne (ne_of_none e nx),upd_ne (ne_of_none e nd)]; exact e) (ne_of_none e nx)
end L2
section
set_option Elab.async false
set_option linter.all false
set_option maxRecDepth 100000
set_option maxHeartbeats 2000000
namespace L2
open PySem PySem.Spec PyProof.Rows
open PySem.W (WData Codec OpenSpec Well WellAll ReadsW ReadsAllW)
mutual
inductive Dw (K:PySem.W.Frag) (H:Hp):V→WData→Prop
 | non:Dw K H .non .none
 | bl (b:Bool):Dw K H (.bl b) (.bool b)
 | int (i:Int):Dw K H (.int i) (.int i)
 | str (x:Str):Dw K H (.str x) (.str x)
 | byt (b:Array UInt8):Dw K H (.byt b) (.bytes b.toList)
 | lst {a:Addr} {xs:List V} {ds:List WData}:SqL K H a xs→DwAll K H xs ds→Dw K H (.ref a) (.list ds)
 | tup {a:Addr} {xs:List V} {ds:List WData}:SqT K H a xs→DwAll K H xs ds→Dw K H (.ref a) (.tuple ds)
inductive DwAll (K:PySem.W.Frag) (H:Hp):List V→List WData→Prop
 | nil:DwAll K H [] []
 | cons {v:V} {vs:List V} {d:WData} {ds:List WData}:Dw K H v d→DwAll K H vs ds→DwAll K H (v::vs) (d::ds)
end
theorem dw_ints {K:PySem.W.Frag} {H:Hp}:∀ ns:List Int,DwAll K H (ns.map V.int) (ns.map WData.int)
 | []=>.nil
 | n::r=>.cons (.int n) (dw_ints r)
theorem ints_dw {K:PySem.W.Frag} {H:Hp}:∀ (ns:List Int) (xs:List V),DwAll K H xs (ns.map WData.int)→xs=ns.map V.int
 | [],xs,h=>by
  cases h
  rfl
 | n::r,xs,h=>by
  cases h with
  | cons h1 h2 =>
   cases h1
   rw [ints_dw r _ h2] <;> rfl
section
variable {P:Program} {w:World} {K:PySem.W.Frag} {H:Hp} {h:Heap} {R:PySem.W.WRecords} {cl:Str→Option Addr}
theorem sqL_at {a:Addr} {xs:List V} (hok:HOk P w H h) (KX:K.In h) (q:SqL K H a xs):∃ (its:List Value) (o:Obj) (n:Nat),Vals xs its∧h.get? a=some o∧o.cls=.type "list"∧o.data=.seq its.toArray n:=by
 rcases q with q | ⟨o,its,n,e,hc,_,hd,_,hv⟩
 ·obtain ⟨_,its,n,hv,e⟩:=(show ObjOk P w H h a (.lst xs) from q.ok hok)
  exact ⟨its,_,n,hv,e,rfl,rfl⟩
 ·exact ⟨its.toList,o,n,hv,KX _ _ e,hc,by simp [hd]⟩
theorem sqT_at {a:Addr} {xs:List V} (hok:HOk P w H h) (KX:K.In h) (q:SqT K H a xs):∃ (its:List Value) (o:Obj) (n:Nat),Vals xs its∧h.get? a=some o∧o.cls=.type "tuple"∧o.data=.seq its.toArray n:=by
 rcases q with q | ⟨o,its,n,e,hc,hd,_,hv⟩
 ·obtain ⟨_,its,hv,o,e,hc,n,hd⟩:=(show ObjOk P w H h a (.tup xs) from q.ok hok)
  exact ⟨its,o,n,hv,e,hc,hd⟩
 ·exact ⟨its.toList,o,n,hv,KX _ _ e,hc,by simp [hd]⟩
mutual
theorem Dw.reads (hok:HOk P w H h) (KX:K.In h):∀ (d:WData) (v:V) (u:Value),Dw K H v d→RelV v u→∃ as,ReadsW R cl h u d as
 | .none,_,_,x,r=>by
  cases x
  cases r
  exact ⟨_,ReadsW.none⟩
 | .bool b,_,_,x,r=>by
  cases x
  cases r
  exact ⟨_,ReadsW.bool b⟩
 | .int i,_,_,x,r=>by
  cases x
  obtain ⟨t,rfl⟩:=r
  exact ⟨_,ReadsW.int i t⟩
 | .str s,_,_,x,r=>by
  cases x
  obtain ⟨t,rfl⟩:=r
  exact ⟨_,ReadsW.str s t⟩
 | .bytes b,_,_,x,r=>by
  cases x
  obtain ⟨t,rfl⟩:=r
  exact ⟨_,ReadsW.bytes _ t⟩
 | .list ds,_,_,x,r=>by
  cases x with
  | lst hs ha =>
   cases r
   obtain ⟨its,o,n,rv,ho,hc,hd⟩:=sqL_at hok KX hs
   obtain ⟨as,hr⟩:=Dw.readsAll hok KX ds _ its ha rv
   exact ⟨_,ReadsW.list ho hc hd hr⟩
 | .tuple ds,_,_,x,r=>by
  cases x with
  | tup hs ha =>
   cases r
   obtain ⟨its,o,n,rv,ho,hc,hd⟩:=sqT_at hok KX hs
   obtain ⟨as,hr⟩:=Dw.readsAll hok KX ds _ its ha rv
   exact ⟨_,ReadsW.tuple ho hc hd hr⟩
 | .float _,_,_,x,_=>by cases x
 | .dict _,_,_,x,_=>by cases x
 | .bytearray _,_,_,x,_=>by cases x
 | .set _,_,_,x,_=>by cases x
 | .frozenset _,_,_,x,_=>by cases x
 | .obj _ _,_,_,x,_=>by cases x
theorem Dw.readsAll (hok:HOk P w H h) (KX:K.In h):∀ (ds:List WData) (vs:List V) (us:List Value),DwAll K H vs ds→Vals vs us→∃ as,ReadsAllW R cl h us ds as
 | [],_,_,x,r=>by
  cases x
  cases r
  exact ⟨_,ReadsAllW.nil⟩
 | d::ds,_,_,x,r=>by
  cases x with
  | cons h1 h2 =>
   cases r with
   | cons r1 r2 =>
    obtain ⟨as,q1⟩:=Dw.reads hok KX d _ _ h1 r1
    obtain ⟨bs,q2⟩:=Dw.readsAll hok KX ds _ _ h2 r2
    exact ⟨_,ReadsAllW.cons q1 q2⟩
end
end
mutual
def plW:WData→Bool
 | .none=>true
 | .bool _=>true
 | .int _=>true
 | .str _=>true
 | .bytes _=>true
 | .list xs=>plWs xs
 | .tuple xs=>plWs xs
 | _=>false
def plWs:List WData→Bool
 | []=>true
 | x::r=>plW x && plWs r
end
theorem plWs_map {α:Type} {f:α→WData} (h:∀ a,plW (f a)=true):∀ l:List α,plWs (l.map f)=true
 | []=>rfl
 | x::r=>by
  show (plW (f x) && plWs (r.map f))=true
  rw [h x,plWs_map h r] <;> rfl
theorem pl_enc:∀ (c:Codec) (a:c.denote),plW (c.enc a)=true
 | .unit,_=>rfl
 | .bool,_=>rfl
 | .int _ _,_=>rfl
 | .nat _ _,_=>rfl
 | .u8,_=>rfl
 | .bytes _ _,_=>rfl
 | .text _ _ _ _,_=>rfl
 | .list _ _ c,a=>plWs_map (fun x=>pl_enc c x) a
 | .pair c d,a=>by
  show (plW (c.enc a.1) && (plW (d.enc a.2) && true))=true
  rw [pl_enc c a.1,pl_enc d a.2] <;> rfl
 | .triple c d e,a=>by
  show (plW (c.enc a.1) && (plW (d.enc a.2.1) && (plW (e.enc a.2.2) && true)))=true
  rw [pl_enc c a.1,pl_enc d a.2.1,pl_enc e a.2.2] <;> rfl
 | .option c,none=>rfl
 | .option c,some x=>pl_enc c x
theorem pl_encAll:∀ (cs:List Codec) (a:Codec.denoteAll cs),plWs (Codec.encAll cs a)=true
 | [],_=>rfl
 | c::cs,a=>by
  show (plW (c.enc a.1) && plWs (Codec.encAll cs a.2))=true
  rw [pl_enc c a.1,pl_encAll cs a.2] <;> rfl
theorem weight_mem:∀ {xs:List WData} {d:WData},d∈xs→d.weight≤WData.weightAll xs
 | [],d,h=>absurd h (by simp)
 | x::r,d,h=>by
  show d.weight≤x.weight + 1 + WData.weightAll r
  rcases List.mem_cons.mp h with e | m
  ·rw [e]
   omega
  ·have z:=weight_mem m
   omega
def toV:Value→V
 | .none=>.non
 | .bool b=>.bl b
 | .int i _=>.int i
 | .str x _=>.str x
 | .bytes b _=>.byt b
 | .ref a=>.ref a
 | _=>.non
def OkU (A:List Addr):Value→Prop
 | .none=>True
 | .bool _=>True
 | .int _ _=>True
 | .str _ _=>True
 | .bytes _ _=>True
 | .ref a=>a∈A
 | _=>False
theorem OkU.mono {A B:List Addr} (h:∀ a∈A,a∈B):∀ {u:Value},OkU A u→OkU B u:=fun {u} x=>by
 cases u with
 | ref a=>exact h a x
 | none=>trivial
 | bool b=>trivial
 | int i t=>trivial
 | str s t=>trivial
 | bytes b t=>trivial
 | _=>exact False.elim x
theorem relV_toV {A:List Addr} {u:Value} (x:OkU A u):RelV (toV u) u:=by
 cases u with
 | ref a=>rfl
 | none=>rfl
 | bool b=>rfl
 | int i t=>exact ⟨t,rfl⟩
 | str s t=>exact ⟨t,rfl⟩
 | bytes b t=>exact ⟨t,rfl⟩
 | _=>exact False.elim x
theorem vals_toV {A:List Addr}:∀ {vs:List Value},(∀ u∈vs,OkU A u)→Vals (vs.map toV) vs
 | [],_=>.nil
 | u::r,h=>.cons (relV_toV (h u (List.mem_cons_self ..))) (vals_toV fun x hx=>h x (List.mem_cons_of_mem _ hx))
def ArgOb (h:Heap) (A:List Addr) (a:Addr):Prop:=∃ vs:List Value,vs.length≤sizeLine∧(∀ u∈vs,OkU A u) ∧
 (h.get? a=some { cls:=.type "list",data:=.seq vs.toArray }∨h.get? a=some { cls:=.type "tuple",data:=.seq vs.toArray })
theorem ArgOb.mono {h:Heap} {A B:List Addr} {a:Addr} (k:∀ a∈A,a∈B) (x:ArgOb h A a):ArgOb h B a:=by
 obtain ⟨vs,h1,h2,h3⟩:=x
 exact ⟨vs,h1,fun u hu=>(h2 u hu).mono k,h3⟩
theorem wellAll_len {P:Params} {h:Heap}:∀ {vs:List Value} {ds:List WData},WellAll P h vs ds→vs.length=ds.length
 | _,_,.nil=>rfl
 | _,_,.cons _ b=>by
  show _ + 1=_ + 1
  rw [wellAll_len b]
theorem well_list {P:Params} {h:Heap} {v:Value} {ds:List WData} (x:Well P h v (.list ds)):∃ (a:Addr) (vs:List Value),v=.ref a∧h.get? a=some { cls:=.type "list",data:=.seq vs.toArray }∧WellAll P h vs ds:=by
 cases x with
 | list ho hall=>exact ⟨_,_,rfl,ho,hall⟩
theorem well_tuple {P:Params} {h:Heap} {v:Value} {ds:List WData} (x:Well P h v (.tuple ds)):∃ (a:Addr) (vs:List Value),v=.ref a∧h.get? a=some { cls:=.type "tuple",data:=.seq vs.toArray }∧WellAll P h vs ds:=by
 cases x with
 | tuple ho hall=>exact ⟨_,_,rfl,ho,hall⟩
theorem well_cons {P:Params} {h:Heap} {us:List Value} {d:WData} {ds:List WData} (x:WellAll P h us (d::ds)):∃ (v:Value) (vs:List Value),us=v::vs∧Well P h v d∧WellAll P h vs ds:=by
 cases x with
 | cons a b=>exact ⟨_,_,rfl,a,b⟩
theorem line_of {n:Nat} (h:n≤1048576):n≤sizeLine:=Nat.le_trans h (by decide)
section
variable {P:Params} {h:Heap}
mutual
theorem area_one:∀ (d:WData) (v:Value),Well P h v d→plW d=true→d.weight≤1048576→∃ A:List Addr,OkU A v∧∀ a∈A,ArgOb h A a
 | .none,_,x,_,_=>by
  cases x
  exact ⟨[],trivial,fun a m=>absurd m (by simp)⟩
 | .bool b,_,x,_,_=>by
  cases x
  exact ⟨[],trivial,fun a m=>absurd m (by simp)⟩
 | .int i,_,x,_,_=>by
  cases x
  exact ⟨[],trivial,fun a m=>absurd m (by simp)⟩
 | .str s,_,x,_,_=>by
  cases x
  exact ⟨[],trivial,fun a m=>absurd m (by simp)⟩
 | .bytes b,_,x,_,_=>by
  cases x
  exact ⟨[],trivial,fun a m=>absurd m (by simp)⟩
 | .list ds,_,x,p,z=>by
  obtain ⟨a,vs,rfl,ho,hall⟩:=well_list x
  have z2:WData.weightAll ds≤1048576:=z
  obtain ⟨A,h1,h2⟩:=area_all ds _ hall p fun d hd=>Nat.le_trans (weight_mem hd) z2
  have k:∀ b∈A,b∈a::A:=fun b hb=>List.mem_cons_of_mem _ hb
  refine ⟨a::A,List.mem_cons_self ..,fun b hb=>?_⟩
  rcases List.mem_cons.mp hb with e | m
  ·rw [e]
   exact ⟨vs,line_of (by rw [wellAll_len hall]; exact Nat.le_trans (PySem.W.length_le_weightAllW ds) z2),fun u hu=>(h1 u hu).mono k,.inl ho⟩
  ·exact (h2 b m).mono k
 | .tuple ds,_,x,p,z=>by
  obtain ⟨a,vs,rfl,ho,hall⟩:=well_tuple x
  have z2:WData.weightAll ds≤1048576:=z
  obtain ⟨A,h1,h2⟩:=area_all ds _ hall p fun d hd=>Nat.le_trans (weight_mem hd) z2
  have k:∀ b∈A,b∈a::A:=fun b hb=>List.mem_cons_of_mem _ hb
  refine ⟨a::A,List.mem_cons_self ..,fun b hb=>?_⟩
  rcases List.mem_cons.mp hb with e | m
  ·rw [e]
   exact ⟨vs,line_of (by rw [wellAll_len hall]; exact Nat.le_trans (PySem.W.length_le_weightAllW ds) z2),fun u hu=>(h1 u hu).mono k,.inr ho⟩
  ·exact (h2 b m).mono k
 | .float _,_,_,p,_=>Bool.noConfusion (show false=true from p)
 | .dict _,_,_,p,_=>Bool.noConfusion (show false=true from p)
 | .bytearray _,_,_,p,_=>Bool.noConfusion (show false=true from p)
 | .set _,_,_,p,_=>Bool.noConfusion (show false=true from p)
 | .frozenset _,_,_,p,_=>Bool.noConfusion (show false=true from p)
 | .obj _ _,_,_,p,_=>Bool.noConfusion (show false=true from p)
theorem area_all:∀ (ds:List WData) (vs:List Value),WellAll P h vs ds→plWs ds=true→(∀ d∈ds,d.weight≤1048576)→∃ A:List Addr,(∀ u∈vs,OkU A u)∧∀ a∈A,ArgOb h A a
 | [],_,x,_,_=>by
  cases x
  exact ⟨[],fun u m=>absurd m (by simp),fun a m=>absurd m (by simp)⟩
 | d::ds,_,x,p,z=>by
  obtain ⟨v,vs,rfl,x1,x2⟩:=well_cons x
  have q:plW d=true∧plWs ds=true:=Bool.and_eq_true_iff.mp p
  obtain ⟨A,a1,a2⟩:=area_one d v x1 q.1 (z d (List.mem_cons_self ..))
  obtain ⟨B,b1,b2⟩:=area_all ds vs x2 q.2 fun e he=>z e (List.mem_cons_of_mem _ he)
  have kA:∀ b∈A,b∈A++B:=fun b hb=>List.mem_append.mpr (.inl hb)
  have kB:∀ b∈B,b∈A++B:=fun b hb=>List.mem_append.mpr (.inr hb)
  refine ⟨A++B,fun u hu=>?_,fun b hb=>?_⟩
  ·rcases List.mem_cons.mp hu with e | m
   ·rw [e]
    exact a1.mono kA
   ·exact (b1 u m).mono kB
  ·rcases List.mem_append.mp hb with m | m
   ·exact (a2 b m).mono kA
   ·exact (b2 b m).mono kB
end
end
def hoOf (o:Obj):Option HO:=match o.data with
 | .seq vs _=>if (o.cls == Value.type "list")=true then some (.frz o (.lst (vs.toList.map toV))) else some (.frz o (.tup (vs.toList.map toV)))
 | _=>none
def argH (K:PySem.W.Frag) (h:Heap) (A:List Addr):Hp:=fun b=>if b∈A then (if (K.lookup b).isNone=true then (h.get? b).bind hoOf else none) else none
def OnlyF (H:Hp):Prop:=∀ b,H b=none∨∃ o u,H b=some (.frz o u)
theorem hoOf_lst (vs:List Value):hoOf { cls:=.type "list",data:=.seq vs.toArray }=some (.frz { cls:=.type "list",data:=.seq vs.toArray } (.lst (vs.map toV))):=by
 show (if (Value.type "list" == Value.type "list")=true then some (HO.frz { cls:=.type "list",data:=.seq vs.toArray } (.lst (vs.toArray.toList.map toV))) else some (HO.frz { cls:=.type "list",data:=.seq vs.toArray } (.tup (vs.toArray.toList.map toV))))=_
 rw [if_pos (beq_self_eq_true _)]
theorem hoOf_tup (vs:List Value):hoOf { cls:=.type "tuple",data:=.seq vs.toArray }=some (.frz { cls:=.type "tuple",data:=.seq vs.toArray } (.tup (vs.map toV))):=by
 show (if (Value.type "tuple" == Value.type "list")=true then some (HO.frz { cls:=.type "tuple",data:=.seq vs.toArray } (.lst (vs.toArray.toList.map toV))) else some (HO.frz { cls:=.type "tuple",data:=.seq vs.toArray } (.tup (vs.toArray.toList.map toV))))=_
 rw [if_neg (by decide)]
section
variable {P:Program} {w:World} {K:PySem.W.Frag} {h:Heap} {A:List Addr}
theorem argH_at {b:Addr} {o:Obj} (hb:b∈A) (hk:K.lookup b=none) (e:h.get? b=some o):argH K h A b=hoOf o:=by
 unfold argH
 rw [if_pos hb,hk,if_pos (show (none:Option Obj).isNone=true from rfl),e] <;> rfl
theorem of_argH {b:Addr} {u:HO} (q:argH K h A b=some u):b∈A∧K.lookup b=none:=by
 unfold argH at q
 by_cases hb:b∈A
 ·rw [if_pos hb] at q
  cases hk:K.lookup b with
  | none=>exact ⟨hb,rfl⟩
  | some o =>
   rw [hk,if_neg (by simp)] at q
   cases q
 ·rw [if_neg hb] at q
  cases q
theorem argH_is (ar : ∀ a ∈ A, ArgOb h A a) {b : Addr} {u : HO} (q : argH K h A b = some u) : K.lookup b = none ∧ ∃ vs : List Value, vs.length ≤ sizeLine ∧ (∀ u ∈ vs, OkU A u) ∧
    ((h.get? b = some { cls := .type "list", data := .seq vs.toArray } ∧ u = .frz { cls := .type "list", data := .seq vs.toArray } (.lst (vs.map toV))) ∨
     (h.get? b = some { cls := .type "tuple", data := .seq vs.toArray } ∧ u = .frz { cls := .type "tuple", data := .seq vs.toArray } (.tup (vs.map toV)))) := by
  obtain ⟨hb, hk⟩ := of_argH q
  obtain ⟨vs, h1, h2, h3⟩ := ar b hb
  refine ⟨hk, vs, h1, h2, ?_⟩
  rcases h3 with e | e
  · rw [argH_at hb hk e, hoOf_lst] at q
    exact .inl ⟨e, (Option.some.inj q).symm⟩
  · rw [argH_at hb hk e, hoOf_tup] at q
    exact .inr ⟨e, (Option.some.inj q).symm⟩
theorem argH_only (ar:∀ a∈A,ArgOb h A a):OnlyF (argH K h A):=fun b=>by
 cases q:argH K h A b with
 | none=>exact .inl rfl
 | some u =>
  obtain ⟨_,vs,_,_,⟨_,e⟩ | ⟨_,e⟩⟩:=argH_is ar q
  ·exact .inr ⟨_,_,by rw [e]⟩
  ·exact .inr ⟨_,_,by rw [e]⟩
theorem argH_ok (ar:∀ a∈A,ArgOb h A a):HOk P w (argH K h A) h:=fun b u q=>by
 obtain ⟨_,vs,h1,h2,⟨e,rfl⟩ | ⟨e,rfl⟩⟩:=argH_is ar q
 ·exact ⟨e,by rw [List.length_map]; exact h1,vs,_,vals_toV h2,e⟩
 ·exact ⟨e,by rw [List.length_map]; exact h1,vs,vals_toV h2,_,e,rfl,_,rfl⟩
theorem seq_inj {c c':Value} {vs us:List Value} (e:(some { cls:=c,data:=.seq vs.toArray }:Option Obj)=some { cls:=c',data:=.seq us.toArray }):c=c'∧vs=us:=by
 have e1:=Option.some.inj e
 have e2:c=c':=congrArg Obj.cls e1
 have e3:Data.seq vs.toArray=Data.seq us.toArray:=congrArg Obj.data e1
 injection e3 with e4
 refine ⟨e2,?_⟩
 have e5:=congrArg Array.toList e4
 simpa using e5
theorem argL (KX:K.In h) (ar:∀ a∈A,ArgOb h A a) {a:Addr} {vs:List Value} (ha:a∈A) (e:h.get? a=some { cls:=.type "list",data:=.seq vs.toArray }):(∀ u∈vs,OkU A u)∧SqL K (argH K h A) a (vs.map toV):=by
 obtain ⟨us,h1,h2,h3⟩:=ar a ha
 have hu:us=vs:=by
  rcases h3 with q | q
  ·rw [e] at q
   exact (seq_inj q).2.symm
  ·rw [e] at q
   exact absurd (Value.type.inj (seq_inj q).1) (by decide)
 subst hu
 refine ⟨h2,?_⟩
 cases hk:K.lookup a with
 | none=>exact .inl (.inr ⟨_,by rw [argH_at ha hk e,hoOf_lst]⟩)
 | some o =>
  have e2:=KX a o hk
  rw [e] at e2
  obtain rfl:=Option.some.inj e2
  exact .inr ⟨_,us.toArray,_,hk,rfl,rfl,rfl,by rw [List.size_toArray]; exact h1,by simpa using vals_toV h2⟩
theorem argT (KX:K.In h) (ar:∀ a∈A,ArgOb h A a) {a:Addr} {vs:List Value} (ha:a∈A) (e:h.get? a=some { cls:=.type "tuple",data:=.seq vs.toArray }):(∀ u∈vs,OkU A u)∧SqT K (argH K h A) a (vs.map toV):=by
 obtain ⟨us,h1,h2,h3⟩:=ar a ha
 have hu:us=vs:=by
  rcases h3 with q | q
  ·rw [e] at q
   exact absurd (Value.type.inj (seq_inj q).1) (by decide)
  ·rw [e] at q
   exact (seq_inj q).2.symm
 subst hu
 refine ⟨h2,?_⟩
 cases hk:K.lookup a with
 | none=>exact .inl (.inr ⟨_,by rw [argH_at ha hk e,hoOf_tup]⟩)
 | some o =>
  have e2:=KX a o hk
  rw [e] at e2
  obtain rfl:=Option.some.inj e2
  exact .inr ⟨_,us.toArray,_,hk,rfl,rfl,by rw [List.size_toArray]; exact h1,by simpa using vals_toV h2⟩
mutual
theorem dw_one {Pm:Params} (KX:K.In h) (ar:∀ a∈A,ArgOb h A a):∀ (d:WData) (v:Value),Well Pm h v d→plW d=true→OkU A v→Dw K (argH K h A) (toV v) d
 | .none,_,x,_,_=>by
  cases x
  exact .non
 | .bool b,_,x,_,_=>by
  cases x
  exact .bl b
 | .int i,_,x,_,_=>by
  cases x
  exact .int i
 | .str s,_,x,_,_=>by
  cases x
  exact .str s
 | .bytes b,_,x,_,_=>by
  cases x
  have z:=Dw.byt (K:=K) (H:=argH K h A) b.toArray
  exact z
 | .list ds,_,x,p,hu=>by
  obtain ⟨a,vs,rfl,ho,hall⟩:=well_list x
  obtain ⟨h2,hs⟩:=argL KX ar hu ho
  exact .lst hs (dw_all KX ar ds _ hall p h2)
 | .tuple ds,_,x,p,hu=>by
  obtain ⟨a,vs,rfl,ho,hall⟩:=well_tuple x
  obtain ⟨h2,hs⟩:=argT KX ar hu ho
  exact .tup hs (dw_all KX ar ds _ hall p h2)
 | .float _,_,_,p,_=>Bool.noConfusion (show false=true from p)
 | .dict _,_,_,p,_=>Bool.noConfusion (show false=true from p)
 | .bytearray _,_,_,p,_=>Bool.noConfusion (show false=true from p)
 | .set _,_,_,p,_=>Bool.noConfusion (show false=true from p)
 | .frozenset _,_,_,p,_=>Bool.noConfusion (show false=true from p)
 | .obj _ _,_,_,p,_=>Bool.noConfusion (show false=true from p)
theorem dw_all {Pm:Params} (KX:K.In h) (ar:∀ a∈A,ArgOb h A a):∀ (ds:List WData) (vs:List Value),WellAll Pm h vs ds→plWs ds=true→(∀ u∈vs,OkU A u)→DwAll K (argH K h A) (vs.map toV) ds
 | [],_,x,_,_=>by
  cases x
  exact .nil
 | d::ds,_,x,p,hu=>by
  obtain ⟨v,vs,rfl,x1,x2⟩:=well_cons x
  have q:plW d=true∧plWs ds=true:=Bool.and_eq_true_iff.mp p
  exact .cons (dw_one KX ar d v x1 q.1 (hu _ (List.mem_cons_self ..))) (dw_all KX ar ds vs x2 q.2 fun u m=>hu u (List.mem_cons_of_mem _ m))
end
end
theorem spec_call {P:Program} {w:World} {K:PySem.W.Frag} {mg mb:Str→Option Value} {CX:CXT} {k:Nat} {fa:Addr} {fd:FuncData} {ps:List Str} {sp:Sp} {s₁:Shared} {vals:List Value} {ds:List WData} {R:PySem.W.WRecords} {cl:Str→Option Addr} {d0:WData}
  (KX:K.In s₁.heap) (hns:s₁.heap.Ns mainGlobals mg) (hb:s₁.heap.Ns builtinsNs mb) (hbb:∀ x:Str,x≠"__name__"→mb x=bootBuiltins x) (hlim:s₁.heap.NoLimit) (hg:s₁.gens = #[])
  (hwl:WellAll w.params s₁.heap vals ds) (hpl:plWs ds=true) (hwt:∀ d∈ds,d.weight≤1048576) (hr:Room k callerA)
  (F:∀ base:Heap,K.In base→base.Ns mainGlobals mg→FnOk P w K mg base CX k fa fd ps sp) (hbind:∀ (s:Shared) (us:List Value),us.length=ps.length→BindsTo s fd ⟨us,[]⟩ (ps.zip us)) (hlen:ds.length=ps.length)
  (hsp:∀ (H:Hp) (xs:List V),OnlyF H→DwAll K H xs ds→sp xs H (fun v H'=>Dw K H' v d0) fun _ _ _=>False)
  (hCX:∀ H e s',CX [] H s₁ (fun _ _ _=>False) e s'→False) :
  codeAny (model P w) callerA (.call (.ref fa) ⟨vals,[]⟩) (fun r s'=>∃ u as,r=.ok (.ret u)∧ReadsW R cl s'.heap u d0 as∧OldK s₁.heap s'.heap∧s'.os=s₁.os∧AllBare s'.gens) s₁:=by
 obtain ⟨A,ho,ar⟩:=area_all ds vals hwl hpl hwt
 have hO:OnlyF (argH K s₁.heap A):=argH_only ar
 have hok:HOk P w (argH K s₁.heap A) s₁.heap:=argH_ok ar
 have hS:=dw_all KX ar ds vals hwl hpl ho
 have hV:=vals_toV ho
 have hK:∀ b u,argH K s₁.heap A b=some u→K.lookup b=none:=fun b u q=>(argH_is ar q).1
 have noA:∀ {b:Addr} {o:Obj} {es:Array DictEntry} {ep:Nat},s₁.heap.get? b=some o→o.data=.dict es ep→argH K s₁.heap A b=none:=fun {b o es ep} e d=>by
  cases q:argH K s₁.heap A b with
  | none=>rfl
  | some u =>
   obtain ⟨_,vs,_,_,⟨e2,_⟩ | ⟨e2,_⟩⟩:=argH_is ar q
   ·rw [e2] at e
    cases e
    have d':Data.seq vs.toArray _=Data.dict es ep:=d
    cases d'
   ·rw [e2] at e
    cases e
    have d':Data.seq vs.toArray _=Data.dict es ep:=d
    cases d'
 generalize argH K s₁.heap A=H at hO hok hS hK noA
 have base_of:∀ {b:Addr} {o:Obj},s₁.heap.get? b=some o→H b=none→(hidT s₁.heap H).get? b=some o:=fun e n=>hidT_get e n
 have nsK:∀ {b:Addr} {m:Str→Option Value},s₁.heap.Ns b m→(hidT s₁.heap H).Ns b m:=fun {b m} ⟨o,es,ep,e,d,r⟩=>⟨o,es,ep,base_of e (noA e d),d,r⟩
 have nK:∀ b o,K.lookup b=some o→H b=none:=fun b o e=>by
  cases q:H b with
  | none=>rfl
  | some u =>
   rw [hK b u q] at e
   cases e
 have hKb:K.In (hidT s₁.heap H):=fun b o e=>base_of (KX b o e) (nK b o e)
 have hM:Mod K mg (hidT s₁.heap H):=⟨hKb,nsK hns,⟨mb,nsK hb,hbb⟩,let ⟨mc,h1,h2⟩:=hlim; ⟨mc,nsK h1,h2⟩⟩
 have e0:Env0 P w K mg (hidT s₁.heap H) callerA [] s₁ H:=⟨rfl,hM,fun b o e=>of_hidT e,Nat.le_of_eq (hidT_size _ _),trivial,fun b hb=>absurd (show b∈([]:List Addr) from hb) (by simp),hok,.of_eq hg⟩
 have hl:vals.length=ps.length:=by rw [wellAll_len hwl]; exact hlen
 refine codeAny_mono ((F _ hKb (nsK hns)).run callerA [] s₁ H ⟨vals,[]⟩ vals (vals.map toV) _ _ hr e0 (hbind s₁ vals hl) hV (hsp H _ hO hS)) fun r s' x=>?_
 cases r with
 | error e=>exact (hCX H e s' x).elim
 | ok fl =>
  cases fl with
  | next=>exact False.elim x
  | brk=>exact False.elim x
  | cont=>exact False.elim x
  | ret u =>
   obtain ⟨v,H',os,bare,un,hok',r',q⟩:=x
   have kept:∀ b o,s₁.heap.get? b=some o→s'.heap.get? b=some o:=fun b o e=>by
    cases q2:H b with
    | none=>exact un.keep b o e q2 (by intro z; exact absurd (show b∈([]:List Addr) from z) (by simp)) (by simp)
    | some u2 =>
     rcases hO b with z | ⟨ob,u3,z⟩
     ·rw [q2] at z
      cases z
     ·have z2:=un.frzs b ob _ z
      obtain ⟨e1,_⟩:=hok b _ z
      obtain ⟨e2,_⟩:=hok' b _ z2
      rw [e] at e1
      cases e1
      exact e2
   have KX':K.In s'.heap:=fun b o e=>kept b o (KX b o e)
   obtain ⟨as,hrd⟩:=Dw.reads (R:=R) (cl:=cl) hok' KX' d0 v u q r'
   exact ⟨u,as,rfl,hrd,OldK.of_keep kept,os,bare⟩
theorem layable_weight {ds:List WData} (h:WData.layableAll ds=true):∀ d∈ds,d.weight≤1048576:=fun d hd =>
 (PySem.W.layableW_iff.mp (List.all_eq_true.mp h d hd)).2.2
theorem encAll_len:∀ (cs:List Codec) (a:Codec.denoteAll cs),(Codec.encAll cs a).length=cs.length
 | [],_=>rfl
 | c::cs,a=>by
  show (Codec.encAll cs a.2).length + 1=cs.length + 1
  rw [encAll_len cs a.2]
theorem walk_spec {r:OpenSpec} {k:Nat} {q:Program} {loose:List Str} {XP:(Str→Option Value)→Heap→Prop} {YP:World→Heap→Prop} {d:DefRec} {K:Params→PySem.W.Frag} {CX:World→CXT} {ps:List Str} {sp:World→Sp}
  (hwell:r.wellSaid=true) (hdf:d.params.defaults=[]) (hlen:r.args.length=ps.length) (hr:Room k callerA)
  (hY:∀ (w:World) (h:Heap),YP w h→(K w.params).In h)
  (F:∀ (w:World) (mg:Str→Option Value) (fa:Addr) (h:Heap),YP w h→(K w.params).In h→h.Ns mainGlobals mg→mg d.name=some (.ref fa) →
   ∃ fd:FuncData,(∀ (s:Shared) (us:List Value),us.length=ps.length→BindsTo s fd ⟨us,[]⟩ (ps.zip us)) ∧
    ∀ base:Heap,(K w.params).In base→base.Ns mainGlobals mg→FnOk r.prog w (K w.params) mg base (CX w) k fa fd ps (sp w))
  (hsp:∀ (w:World) (H:Hp) (xs:List V) (a:Codec.denoteAll r.args),OnlyF H→Codec.withinAll r.args a=true→Codec.app r.args r.asked a=true→DwAll (K w.params) H xs (Codec.encAll r.args a) →
   sp w xs H (fun v H'=>Dw (K w.params) H' v (r.ret.enc (Codec.app r.args r.f a))) fun _ _ _=>False)
  (hCX:∀ (w:World) (H:Hp) (s:Shared) (e:Value) (s':Shared),CX w [] H s (fun _ _ _=>False) e s'→False) :
  PySem.W.WalkOS q loose XP YP r d [] (fun f vs=>PySem.call f vs):=by
 intro w s_0 s₁ mg mb G Y fa o pm cd doc dV kV ho hd hcd hD hmg hg args vals as hpre hlay hrd hwl hlo
 obtain ⟨a,e1,e2⟩:=PySem.W.os_pre_some hpre
 obtain ⟨e3,hwi⟩:=Codec.encAll_of_decAll r.args args a e1
 subst e3
 have KX:=hY w _ Y
 obtain ⟨fd,hb,hF⟩:=F w mg fa _ Y KX G.T.g hmg
 refine PySem.W.enter_call (codeAny_mono (spec_call (R:=[]) (cl:=classAt s_0.heap) (d0:=r.ret.enc (Codec.app r.args r.f a)) KX G.T.g G.T.b G.T.builtins G.T.nolimit hg hwl (pl_encAll _ _) (layable_weight hlay) hr hF hb (by rw [encAll_len]; exact hlen)
  (fun H xs hO hS=>hsp w H xs a hO hwi e2 hS) fun H e s'=>hCX w H s₁ e s') fun r' s' hq=>?_)
 obtain ⟨u,as',rfl,h1,h2,h3,h4⟩:=hq
 exact ⟨.inl ⟨u,_,as',rfl,fun _=>rfl,h1,(OpenSpec.post_iff hwell hwi _ _).mpr rfl,fun z=>Bool.noConfusion (show false=true from z)⟩,h2,h3,h4⟩
theorem walk_specK {r:OpenSpec} {k:Nat} {q:Program} {loose:List Str} {XP:(Str→Option Value)→Heap→Prop} {YP:World→Heap→Prop} {d:DefRec} {K:Params→PySem.W.Frag} {CX:CXT} {ps:List Str} {sp:PySem.W.Frag→Sp}
  (hwell:r.wellSaid=true) (hdf:d.params.defaults=[]) (hlen:r.args.length=ps.length) (hr:Room k callerA)
  (hY:∀ (w:World) (h:Heap),YP w h→(K w.params).In h)
  (F:∀ (w:World) (mg:Str→Option Value) (fa:Addr) (h:Heap),YP w h→(K w.params).In h→h.Ns mainGlobals mg→mg d.name=some (.ref fa) →
   ∃ fd:FuncData,(∀ (s:Shared) (us:List Value),us.length=ps.length→BindsTo s fd ⟨us,[]⟩ (ps.zip us)) ∧
    ∀ base:Heap,(K w.params).In base→base.Ns mainGlobals mg→FnOk r.prog w (K w.params) mg base CX k fa fd ps (sp (K w.params)))
  (hsp:∀ (K:PySem.W.Frag) (H:Hp) (xs:List V) (a:Codec.denoteAll r.args),OnlyF H→Codec.withinAll r.args a=true→Codec.app r.args r.asked a=true→DwAll K H xs (Codec.encAll r.args a) →
   sp K xs H (fun v H'=>Dw K H' v (r.ret.enc (Codec.app r.args r.f a))) fun _ _ _=>False)
  (hCX:∀ (H:Hp) (s:Shared) (e:Value) (s':Shared),CX [] H s (fun _ _ _=>False) e s'→False) :
  PySem.W.WalkOS q loose XP YP r d [] (fun f vs=>PySem.call f vs) :=
 walk_spec (K:=K) (CX:=fun _=>CX) (sp:=fun w=>sp (K w.params)) hwell hdf hlen hr hY F (fun w H xs a h1 h2 h3 h4=>hsp (K w.params) H xs a h1 h2 h3 h4) fun _ H s e s'=>hCX H s e s'
end L2
end
namespace L2
open PySem PySem.Spec PyProof.Rows
section
variable {X:Cx}
def tFrz (t:TE):TE:=fun σ H Q=>t σ H fun v H1=>∃ d u,v=.ref d∧H1 d=some u∧Mut (some u)∧∀ od,Q v (upd H1 d (.frz od u))
theorem pe_frz {e:Expr} {t:TE} (h:PE X e t):PE X e (tFrz t):=by
 intro pins s σ H Q I hw
 refine thn (h pins s σ H _ I hw) fun v s1 ⟨x,H1,I1,r,d,u,ex,hd,mu,q⟩=>?_
 subst ex
 obtain ⟨od,I2⟩:=I1.lock hd mu
 exact ⟨_,_,I2,r,q od⟩
theorem pe_gint {x:Str} {v:Int} {pos:Pos} (hm:∃ t,X.mg x=some (.int v t)) (hg:Gl X x:=by rfl) (hd:(x == ("__debug__":Str))=false:=by decide):PE X (.Name x pos) (tC (.int v)):=by
 obtain ⟨t,hm⟩:=hm
 exact pe_glob hg hm ⟨t,rfl⟩ hd
theorem pe_gref {x:Str} {a:Addr} {pos:Pos} (hm:X.mg x=some (.ref a)) (hg:Gl X x:=by rfl) (hd:(x == ("__debug__":Str))=false:=by decide):PE X (.Name x pos) (tC (.ref a)) :=
 pe_glob hg hm rfl hd
def Fn (P:Program) (w:World) (K:PySem.W.Frag) (mg:Str→Option Value) (base:Heap) (x:Str) (k:Nat) (ps:List Str) (sp:Sp):Prop :=
 ∃ f fd,FnOk P w K mg base CX0 k f fd ps sp∧mg x=some (.ref f)∧PySem.W.keepIn K (.ref f)=true∧Binds K fd ps []
theorem pe_fn {x:Str} {k:Nat} {ps:List Str} {sp:Sp} {e:Expr} {es:List Expr} {t:TA} {p pos:Pos} (F:Fn X.prog X.w X.K X.mg X.base x k ps sp) (hr:Room k X.A) (hg:Gl X x) (ha:PA X (e::es) t) (hdb:(x == ("__debug__":Str))=false:=by decide)
  (he:starEach (e::es) X.env=(false,eval e X.env)::starEach es X.env:=by rfl) (hpl:(backTo pos (starEach es X.env)).any (·.1)=false:=by rfl):PE X (.Call (.Name x p) (e::es) [] pos) (tCall sp [] E0 t):=by
 obtain ⟨f,fd,G,hm,hk,hb⟩:=F
 exact pe_call G hr hg hm hk hb .nil pass0 ha hdb he hpl
def MkC (P:Program) (w:World) (K:PySem.W.Frag) (mg:Str→Option Value) (base:Heap) (x:Str) (C:Addr) (k:Nat) (ps:List Str) (sp:Sp):Prop :=
 ∃ f fd,FnOk P w K mg base CX0 k f fd ps sp∧mg x=some (.ref C)∧Mk K C f∧Binds K fd ps []
theorem pe_mk {x:Str} {C:Addr} {k:Nat} {ps:List Str} {sp:Sp} {e:Expr} {es:List Expr} {t:TA} {p pos:Pos} (F:MkC X.prog X.w X.K X.mg X.base x C k ps sp) (hr:Room (k + 1) X.A) (hg:Gl X x) (ha:PA X (e::es) t) (hdb:(x == ("__debug__":Str))=false:=by decide)
  (he:starEach (e::es) X.env=(false,eval e X.env)::starEach es X.env:=by rfl) (hpl:(backTo pos (starEach es X.env)).any (·.1)=false:=by rfl):PE X (.Call (.Name x p) (e::es) [] pos) (tMake C sp [] E0 t):=by
 obtain ⟨f,fd,G,hm,hk,hb⟩:=F
 exact pe_make hk G hr hg hm hb .nil pass0 ha hdb he hpl
theorem pe_mk0 {x:Str} {C:Addr} {k:Nat} {ps:List Str} {sp:Sp} {p pos:Pos} (F:MkC X.prog X.w X.K X.mg X.base x C k ps sp) (hr:Room (k + 1) X.A) (hg:Gl X x) (hdb:(x == ("__debug__":Str))=false:=by decide):PE X (.Call (.Name x p) [] [] pos) (tMake C sp [] E0 tNil):=by
 obtain ⟨f,fd,G,hm,hk,hb⟩:=F
 exact pe_make0 hk G hr hg hm hb .nil pass0 hdb
theorem boot_sorted:bootBuiltins "sorted"=some (.builtin "sorted"):=by decide +kernel
theorem boot_set:bootBuiltins "set"=some (.type "set"):=by decide +kernel
theorem boot_list:bootBuiltins "list"=some (.type "list"):=by decide +kernel
theorem boot_dict:bootBuiltins "dict"=some (.type "dict"):=by decide +kernel
theorem boot_any:bootBuiltins "any"=some (.builtin "any"):=by decide +kernel
theorem boot_all:bootBuiltins "all"=some (.builtin "all"):=by decide +kernel
theorem boot_sum:bootBuiltins "sum"=some (.builtin "sum"):=by decide +kernel
theorem boot_min:bootBuiltins "min"=some (.builtin "min"):=by decide +kernel
theorem boot_max:bootBuiltins "max"=some (.builtin "max"):=by decide +kernel
theorem keys_vals {P:Program} {w:World} {kvs:List (Key×V)} {vs:List (Key×Value)} (rel:KV kvs vs) {us:List Value} (hl:us.length=vs.length) (hv:∀ (j:Nat) (u:Value),us[j]?=some u→∃ k x,vs[j]?=some (k,x)∧(mixKind P w).is k u=true) :
  Vals (kvs.map fun kv=>kV kv.1) us:=by
 have hrel:∀ {k:Key} {u:Value},(mixKind P w).is k u=true→RelV (kV k) u:=fun {k u} h=>by
  rcases keyIs_shape (k:=k) (v:=u) h with ⟨i,t,rfl,rfl⟩ | ⟨x,t,rfl,rfl⟩
  ·exact ⟨t,rfl⟩
  ·exact ⟨t,rfl⟩
 unfold KV at rel
 induction rel generalizing us with
 | nil =>
  cases us with
  | nil=>exact .nil
  | cons u us=>simp at hl
 | cons r t ih =>
  cases us with
  | nil=>simp at hl
  | cons u us =>
   obtain ⟨k,x,e,hk⟩:=hv 0 u rfl
   rw [List.getElem?_cons_zero] at e
   cases e
   refine .cons ?_ (ih (by simpa using hl) fun j v hj=>by
    obtain ⟨k,x,e,h⟩:=hv (j + 1) v (by simpa using hj)
    exact ⟨k,x,by simpa using e,h⟩)
   have e1:=r.1
   show RelV (kV _) u
   rw [e1]
   exact hrel hk
theorem call_dictD:CallR X (.type "dict") (fun xs H Q=>∃ a kvs,xs=[.ref a]∧Rd H a (.dK kvs)∧∀ p,H p=none→Q (.ref p) (upd H p (.dK kvs))):=by
 intro pins s σ H xs us Q I r h
 obtain ⟨a,kvs,rfl,ha,q⟩:=h
 rw [Vals.ref1 r]
 obtain ⟨z,hd,vs,rel,dd⟩:=dk_rd I.hok ha
 refine kt_call_dict hd dd (by rw [← rel.length]; exact z) fun h' hn hs=>?_
 have hm:(s.heap.objs.size == sysModules)=false:=beq_eq_false_iff_ne.mpr (Nat.ne_of_gt I.big)
 exact ⟨.ref _,upd H s.heap.objs.size (.dK kvs),I.laid (t':=s.toks) (fun b o e=>(hs.2 b (Nat.ne_of_lt (Heap.lt_size e))).trans (Heap.get?_push_of_some _ e)) (Nat.le_refl _) (show ObjOk X.prog X.w _ _ _ (.dK kvs) from ⟨z,hm,vs,rel,hn⟩),rfl,q _ (I.hok.fresh (Nat.le_refl _))⟩
theorem vals_keys_int {kvs:List (Key×V)} {ns:List Int} (h:kvs.map (·.1)=ns.map Sum.inl):(kvs.map fun kv=>kV kv.1)=ns.map V.int:=by
 have:(kvs.map (·.1)).map kV=(ns.map Sum.inl).map kV:=by rw [h]
 rw [List.map_map,List.map_map] at this
 exact this
theorem call_listD (hc:X.calm=true):CallR X (.type "list") (fun xs H Q=>∃ a kvs,xs=[.ref a]∧Rd H a (.dK kvs)∧∀ p,H p=none→Q (.ref p) (upd H p (.lst (kvs.map fun kv=>kV kv.1)))):=by
 intro pins s σ H xs us Q I r h
 obtain ⟨a,kvs,rfl,ha,q⟩:=h
 rw [Vals.ref1 r]
 obtain ⟨z,hd,vs,rel,dd⟩:=dk_rd I.hok ha
 obtain ⟨ep,hat⟩:=dd.dictAt
 refine PySem.W.kdl_call (PySem.W.kdl_dict (knd:=mixKind X.prog X.w) (kvs:=vs) (ep:=ep) hd) (I.ok.hd hc) hat (by rw [← rel.length]; exact z) fun h' tk acc c hk hD hacc=>?_
 have hv:Vals (kvs.map fun kv=>kV kv.1) acc.toList:=keys_vals rel (by rw [Array.length_toList]; exact hacc.1) fun j u e=>hacc.2 j u (by rw [← Array.getElem?_toList]; exact e)
 exact ⟨.ref _,upd H s.heap.objs.size (.lst (kvs.map fun kv=>kV kv.1)),I.laid (t':=tk) hk (Nat.le_refl _) ⟨by rw [List.length_map]; exact z,acc.toList,c,hv,by simpa using hD⟩,rfl,q _ (I.hok.fresh (Nat.le_refl _))⟩
theorem call_sortedD (hc:X.calm=true):CallR X (.builtin "sorted") (fun xs H Q=>∃ (a:Addr) (kvs:List (Key×V)) (ns:List Int),xs=[.ref a]∧Rd H a (.dK kvs)∧kvs.map (·.1)=ns.map Sum.inl∧ns.length < 64 ∧
  ∀ (ns':List Int) (p:Addr),ns'.Perm ns→ns'.Pairwise (· ≤ ·)→H p=none→Q (.ref p) (upd H p (.lst (ns'.map V.int)))):=by
 intro pins s σ H xs us Q I r h
 obtain ⟨a,kvs,ns,rfl,ha,hks,h64,q⟩:=h
 rw [Vals.ref1 r]
 obtain ⟨z,hd,vs,rel,dd⟩:=dk_rd I.hok ha
 obtain ⟨ep,hat⟩:=dd.dictAt
 refine Calls.call_function_entry kind_sorted plain_sorted entry_sorted (args_sorted1 _) ?_
 unfold Builtin.«sorted»
 refine wpAny_bind (m:=checkCount "sorted" 1 1 _) (wpAny_pure ?_)
 refine wpAny_bind (PySem.W.kdu_collect (A:=X.A.in1) (PySem.W.kdl_dict (knd:=mixKind X.prog X.w) (kvs:=vs) (ep:=ep) hd) (I.ok.hd hc) hat (by rw [← rel.length]; exact z) fun h' tk acc hk hacc=>?_)
 have hl:acc.toList.length=vs.length:=by rw [Array.length_toList]; exact hacc.1
 have hv:Vals (kvs.map fun kv=>kV kv.1) acc.toList:=keys_vals rel hl fun j u e=>hacc.2 j u (by rw [← Array.getElem?_toList]; exact e)
 rw [vals_keys_int hks] at hv
 refine wpAny_bind (wpAny_newList ?_ (by rw [hl,← rel.length]; exact z))
 have hob:(h'.push { cls:=.type "list",data:=.seq acc.toList.toArray }).get? h'.objs.size=some { cls:=.type "list",data:=.seq acc.toList.toArray }:=Heap.get?_push_size _ rfl
 have hi:=hv.ints
 refine wpAny_bind (wpAny_holding (wpAny_call_entry PyProof.Rows.slot_list_sort ⟨_,hob,rfl⟩ PyProof.Rows.entry_list_sort
  (PyProof.Rows.list_sort_tree hob hi (by rw [hi.length]; exact h64) fun out ns' h1 h2 h3=>⟨.none,rfl,?_⟩) (PyProof.Rows.args_list_sort _)))
 obtain ⟨ep',he'⟩:=PyProof.Rows.sortedHeap_at (vs:=acc.toList) (out:=out) hob
 have hlen:(ns'.map V.int).length≤sizeLine:=by rw [List.length_map,h2.length_eq]; exact small64 h64
 have I1:=I.kept (t':=tk) hk
 refine wpAny_pure ⟨_,rfl,?_⟩
 refine ⟨.ref _,upd H h'.objs.size (.lst (ns'.map V.int)),I1.laid (t':=tk) (fun b o e1=>?_) (Nat.le_refl _) ⟨hlen,out.toList,ep',vals_of_ints h1,he'⟩,rfl,q ns' _ h2 h3 (I1.hok.fresh (Nat.le_refl _))⟩
 have hb:b≠h'.objs.size:=Nat.ne_of_lt (Heap.lt_size e1)
 rw [PyProof.Rows.sortedHeap_old hb (Heap.lt_size (Heap.get?_push_of_some _ e1))]
 exact Heap.get?_push_of_some _ e1
def tDSd (td ty tx:TE):TE:=fun σ H Q=>td σ H fun x H1=>∃ a,x=.ref a∧IsD H1 a∧ty σ H1 fun y H2=>tx σ H2 fun z H3=>∃ kvs k,H3 a=some (.dK kvs)∧y=kV k∧kvs.length < sizeLine ∧
 (∀ v,valV kvs k=some v→Q v H3)∧(valV kvs k=none→Q z (upd H3 a (.dK (putK kvs k z))))
theorem pe_dsetdef {o e f:Expr} {apos cpos:Pos} {td ty tx:TE} (hu:X.A.units + 1 < cLine) (ho:PE X o td) (he:PE X e ty) (hf:PE X f tx) (m:M2 X o "setdefault" apos e f cpos):PE X (.Call (.Attribute o "setdefault" apos) [e,f] [] cpos) (tDSd td ty tx):=by
 intro pins s σ H Q I h
 refine wpAny_Call_method m.base m.few m.line PySem.F.plainAttrs_dict PySem.F.slot_dict_setdefault PySem.F.type_dict_setdefault (thn (ho pins s σ H _ I h) fun u s1 ⟨x,H1,I1,rx,a,ex,d,q1⟩=>?_)
 subst ex
 obtain rfl:u=Value.ref a:=rx
 obtain ⟨t1,t2,_⟩:=isD_at I1 d
 refine ⟨t1,t2,?_⟩
 rw [m.trees]
 refine Calls.callWith_builtin rfl (Calls.evalArgs_plain (Calls.spliced_cons (thn (he pins s1 σ H1 _ I1 q1) fun iv s2 ⟨y,H2,I2,ry,q2⟩ =>
  Calls.spliced_cons (thn (hf pins s2 σ H2 _ I2 q2) fun fv s3 ⟨z,H3,I3,rz,kvs,k,ea,ey,hz,q3,q4⟩=>Calls.spliced_nil ?_))))
 subst ey
 obtain ⟨zz,hd,vs,rel,dd⟩:=dk_of I3.hok ea
 refine call_meetsIn PySem.F.slot_dict_setdefault dd.typeIs PySem.F.entry_dict_setdefault (PySem.F.args_dict_setdefault_3 _ _ _) (kt_meets_setdefault (mixKind X.prog X.w) a (kV_is ry) hd fv)
  ⟨vs,dd,by rw [← rel.length]; exact zz,fun v hv=>?_,fun hn h' hm hs=>?_⟩
 ·obtain ⟨v',hv',rv⟩:∃ v',valV kvs k=some v'∧RelV v' v:=by
   have q:=rel.val k
   rw [hv] at q
   cases e:valV kvs k with
   | none=>rw [e] at q; exact q.elim
   | some v'=>rw [e] at q; exact ⟨v',rfl,q⟩
  exact ⟨v',H3,I3.tok _,rv,q3 v' hv'⟩
 ·have hn':valV kvs k=none:=by
   have q:=rel.val k
   rw [hn] at q
   cases e:valV kvs k with
   | none=>rfl
   | some v'=>rw [e] at q; exact q.elim
  refine ⟨z,upd H3 a (.dK (putK kvs k z)),I3.write (e:=a) (t':=s3.toks + 1) (by rw [ea]; trivial) (.inl rfl) (fun b ob hb e=>(hs.2 b hb).trans e) ?_ ?_,rz,q4 hn'⟩
  ·obtain ⟨ob,_,_,e1,_⟩:=hm
   exact ⟨ob,e1⟩
  ·refine (show ObjOk X.prog X.w _ _ _ (.dK (putK kvs k z)) from ⟨?_,hd,stored vs k fv,rel.put k rz,hm⟩)
   rw [putK_new z hn',List.length_append]
   exact hz
def mets (ns:List Int):List Int:=PyProof.Rows.firstMet (fun i=>ns.getD i 0) ns.length
theorem call_setL (hc:X.calm=true):CallR X (.type "set") (fun xs H Q=>∃ (a:Addr) (ns:List Int),xs=[.ref a]∧SqL X.K H a (ns.map V.int)∧ns.length + 1 < scanBound∧∀ p,H p=none→Q (.ref p) (upd H p (.set (fun k=>(mets ns).any (· == k)) (mets ns).length))):=by
 intro pins s σ H xs us Q I r h
 obtain ⟨a,ns,rfl,hs,hb,q⟩:=h
 rw [Vals.ref1 r]
 obtain ⟨its,rv,hl,_⟩:=I.list hs
 have hi:=rv.ints
 have hsz:its.length=ns.length:=hi.length
 refine PySem.call_set_list (items:=its.toArray) (ns:=ns) (I.ok.hd hc) hl.isList (by simpa using hi) (by rw [List.size_toArray,hsz]; exact hb) fun h' tk hS hk=>?_
 rw [show its.toArray.size=ns.length by rw [List.size_toArray,hsz]] at hS
 exact ⟨.ref _,upd H s.heap.objs.size (.set (fun k=>(mets ns).any (· == k)) (mets ns).length),I.laid (t':=tk) (fun b o e=>hk b o (Heap.lt_size e) e) (Nat.le_refl _) hS,rfl,q _ (I.hok.fresh (Nat.le_refl _))⟩
theorem call_lenS:CallR X (.builtin "len") (fun xs H Q=>∃ (a:Addr) (S:Int→Bool) (n:Nat),xs=[.ref a]∧H a=some (.set S n)∧(n:Int) < 2 ^ 63∧Q (.int n) H):=by
 intro pins s σ H xs us Q I r h
 obtain ⟨a,S,n,rfl,ha,hn,q⟩:=h
 rw [Vals.ref1 r]
 obtain ⟨o,es,ep,t,e1,e2,e3,_,_,_,hf,rfl⟩:=(show s.heap.SetOf (intKind X.prog X.w) a S n from I.hok a _ ha)
 exact PySem.call_len_set e1 e2 e3 hf hn ⟨.int es.size,H,I.tok _,⟨_,rfl⟩,q⟩
end
end L2
namespace L2
open PySem PySem.Spec PyProof.Rows
theorem for_it {J:It} {n:Nat} {g:TG} {tb:TS} {D:Ends} {σ:St} {H:Hp} (Pv:Nat→St→Hp→Prop) (h0:Pv 0 σ H) (hgo:∀ i σ H,i < n→Pv i σ H→J.go i H) (hst:∀ σ H,Pv n σ H→J.stop n H)
  (hs:∀ i x σ H H',i < n→Pv i σ H→J.yld i H x H'→g x σ H' fun σ2 H2=>tb { D with nx:=Pv (i + 1),ct:=Pv (i + 1),bk:=D.nx } σ2 H2) (hd:∀ σ H,Pv n σ H→D.nx σ H) :
  ∃ W:Nat→Nat→St→Hp→Prop,(∃ m,W 0 m σ H)∧∀ i m σ H,W i m σ H →
   (J.stop i H∧D.nx σ H)∨(J.go i H∧∃ N:St→Hp→Prop,(∀ σ' H',N σ' H'→∃ m',m' < m∧W (i + 1) m' σ' H')∧∀ x H',J.yld i H x H'→g x σ H' fun σ2 H2=>tb { D with nx:=N,ct:=N,bk:=D.nx } σ2 H2):=by
 refine ⟨fun i m σ H=>m=n - i∧i≤n∧Pv i σ H,⟨n,by simp,Nat.zero_le _,h0⟩,?_⟩
 rintro i m σ H ⟨rfl,hi,p⟩
 by_cases hlt:i < n
 ·exact .inr ⟨hgo i σ H hlt p,Pv (i + 1),fun σ' H' p'=>⟨n - (i + 1),by omega,rfl,hlt,p'⟩,fun x H' y=>hs i x σ H H' hlt p y⟩
 ·have e:i=n:=by omega
  subst e
  exact .inl ⟨hst σ H p,hd σ H p⟩
theorem for_keys {d:Addr} {o:Obj} {kvs:List (Key×V)} {g:TG} {tb:TS} {D:Ends} {σ:St} {H:Hp} (Pv:Nat→St→Hp→Prop) (h0:Pv 0 σ H) (hl:∀ i σ H,Pv i σ H→H d=some (.frz o (.dK kvs)))
  (hs:∀ i k v σ H,kvs[i]?=some (k,v)→Pv i σ H→g (kV k) σ H fun σ2 H2=>tb { D with nx:=Pv (i + 1),ct:=Pv (i + 1),bk:=D.nx } σ2 H2) (hd:∀ σ H,Pv kvs.length σ H→D.nx σ H) :
  ∃ W:Nat→Nat→St→Hp→Prop,(∃ m,W 0 m σ H)∧∀ i m σ H,W i m σ H →
   ((Itk d o kvs).stop i H∧D.nx σ H)∨((Itk d o kvs).go i H∧∃ N:St→Hp→Prop,(∀ σ' H',N σ' H'→∃ m',m' < m∧W (i + 1) m' σ' H')∧∀ x H',(Itk d o kvs).yld i H x H'→g x σ H' fun σ2 H2=>tb { D with nx:=N,ct:=N,bk:=D.nx } σ2 H2) :=
 for_it (n:=kvs.length) Pv h0 (fun i σ H hi p=>⟨hl i σ H p,hi⟩) (fun σ H p=>⟨hl _ σ H p,Nat.le_refl _⟩) (fun i x σ H H' hi p y=>by
  obtain ⟨e,k,v,hk,ex⟩:=y
  subst e ex
  exact hs i k v σ _ hk p) hd
theorem for_vals {d:Addr} {o:Obj} {kvs:List (Key×V)} {g:TG} {tb:TS} {D:Ends} {σ:St} {H:Hp} (Pv:Nat→St→Hp→Prop) (h0:Pv 0 σ H) (hl:∀ i σ H,Pv i σ H→H d=some (.frz o (.dK kvs)))
  (hs:∀ i k v σ H,kvs[i]?=some (k,v)→Pv i σ H→g v σ H fun σ2 H2=>tb { D with nx:=Pv (i + 1),ct:=Pv (i + 1),bk:=D.nx } σ2 H2) (hd:∀ σ H,Pv kvs.length σ H→D.nx σ H) :
  ∃ W:Nat→Nat→St→Hp→Prop,(∃ m,W 0 m σ H)∧∀ i m σ H,W i m σ H →
   ((Itd d o kvs).stop i H∧D.nx σ H)∨((Itd d o kvs).go i H∧∃ N:St→Hp→Prop,(∀ σ' H',N σ' H'→∃ m',m' < m∧W (i + 1) m' σ' H')∧∀ x H',(Itd d o kvs).yld i H x H'→g x σ H' fun σ2 H2=>tb { D with nx:=N,ct:=N,bk:=D.nx } σ2 H2) :=
 for_it (n:=kvs.length) Pv h0 (fun i σ H hi p=>⟨hl i σ H p,hi⟩) (fun σ H p=>⟨hl _ σ H p,Nat.le_refl _⟩) (fun i x σ H H' hi p y=>by
  obtain ⟨e,k,hk⟩:=y
  subst e
  exact hs i k x σ _ hk p) hd
theorem for_items {d:Addr} {o:Obj} {kvs:List (Key×V)} {g:TG} {tb:TS} {D:Ends} {σ:St} {H:Hp} (Pv:Nat→St→Hp→Prop) (h0:Pv 0 σ H) (hl:∀ i σ H,Pv i σ H→H d=some (.frz o (.dK kvs)))
  (hs:∀ i k v T σ H,kvs[i]?=some (k,v)→Pv i σ H→H T=none→g (.ref T) σ (upd H T (.tup [kV k,v])) fun σ2 H2=>tb { D with nx:=Pv (i + 1),ct:=Pv (i + 1),bk:=D.nx } σ2 H2) (hd:∀ σ H,Pv kvs.length σ H→D.nx σ H) :
  ∃ W:Nat→Nat→St→Hp→Prop,(∃ m,W 0 m σ H)∧∀ i m σ H,W i m σ H →
   ((Iti d o kvs).stop i H∧D.nx σ H)∨((Iti d o kvs).go i H∧∃ N:St→Hp→Prop,(∀ σ' H',N σ' H'→∃ m',m' < m∧W (i + 1) m' σ' H')∧∀ x H',(Iti d o kvs).yld i H x H'→g x σ H' fun σ2 H2=>tb { D with nx:=N,ct:=N,bk:=D.nx } σ2 H2) :=
 for_it (n:=kvs.length) Pv h0 (fun i σ H hi p=>⟨hl i σ H p,hi⟩) (fun σ H p=>⟨hl _ σ H p,Nat.le_refl _⟩) (fun i x σ H H' hi p y=>by
  obtain ⟨T,k,v,hk,ex,hT,e⟩:=y
  subst ex e
  exact hs i k v T σ _ hk p hT) hd
section
variable {D:Ends} {σ:St} {H:Hp} {Q:VK} {K:PySem.W.Frag} {i:Nat} {v:V} {te ta tb tc td ty tx:TE} {t u:TS} {tt tu:TT} {tl:TA}
theorem r_seq (h:t { D with nx:=u D } σ H):tSeq t u D σ H:=h
theorem r_next (h:D.nx σ H):tNext D σ H:=h
theorem r_set (h:te σ H fun x H1=>D.nx (σ.set i (some x)) H1):tAsg te (gName i) D σ H:=h
theorem r_var (h:σ[i]?=some (some v)) (k:Q v H):tVar i σ H Q:=⟨v,h,k⟩
theorem r_c (k:Q v H):tC v σ H Q:=k
theorem r_op {r:R2} (h:ta σ H fun x H1=>tb σ H1 fun y H2=>r x y H2 Q):tOp r ta tb σ H Q:=h
theorem r_un {r:V→Hp→VK→Prop} (h:ta σ H fun x H1=>r x H1 Q):tUn r ta σ H Q:=h
theorem r_U {g:Int→V} {a:Int} (k:Q (g a) H):rU g (.int a) H Q:=⟨a,rfl,k⟩
theorem r_I0 {g:Int→Int→V} {a b:Int} (k:Q (g a b) H):rI0 g (.int a) (.int b) H Q:=⟨a,b,rfl,rfl,k⟩
theorem r_I {C:Int→Int→Prop} {g:Int→Int→V} {a b:Int} (c:C a b) (k:Q (g a b) H):rI C g (.int a) (.int b) H Q:=⟨a,b,rfl,rfl,c,k⟩
theorem dec_intV (a b:Int):decide (V.int a=V.int b)=decide (a=b):=by
 by_cases e:a=b
 ·subst e; simp
 ·rw [decide_eq_false e,decide_eq_false fun q=>e (V.int.inj q)]
theorem r_eqI {a b:Int} (k:Q (.bl (decide (a=b))) H):rEq (.int a) (.int b) H Q:=⟨rfl,by rw [dec_intV]; exact k⟩
theorem r_neI {a b:Int} (k:Q (.bl (!decide (a=b))) H):rNe (.int a) (.int b) H Q:=⟨rfl,by rw [dec_intV]; exact k⟩
def kT (Q:Bool→Hp→Prop):VK:=fun x H=>∃ c,x=.bl c∧Q c H
theorem r_kT {Q:Bool→Hp→Prop} {b:Bool} (k:Q b H):kT Q (.bl b) H:=⟨b,rfl,k⟩
theorem r_tB {Q:Bool→Hp→Prop} (h:te σ H fun x H1=>kT Q x H1):tB te σ H Q:=h
theorem r_test {Q:Bool→Hp→Prop} (h:te σ H fun x H1=>kT Q x H1):tTest te σ H Q:=h
theorem r_not {Q:Bool→Hp→Prop} (h:tt σ H fun c H1=>Q (!c) H1):tNot tt σ H Q:=h
theorem r_and {Q:Bool→Hp→Prop} (h:tt σ H fun c H1=>if c=true then tu σ H1 Q else Q false H1):tAnd tt tu σ H Q:=h
theorem r_or {Q:Bool→Hp→Prop} (h:tt σ H fun c H1=>if c=true then Q true H1 else tu σ H1 Q):tOr tt tu σ H Q:=h
def kAndV (tb:TE) (σ:St) (Q:VK):VK:=fun x H1=>∃ c,x=.bl c∧if c=true then tb σ H1 Q else Q (.bl false) H1
theorem r_andV (h:ta σ H fun x H1=>kAndV tb σ Q x H1):tAndV ta tb σ H Q:=h
theorem r_kAndV {b:Bool} (k:if b=true then tb σ H Q else Q (.bl false) H):kAndV tb σ Q (.bl b) H:=⟨b,rfl,k⟩
theorem r_ife (h:tt σ H fun c H1=>if c=true then ta σ H1 Q else tb σ H1 Q):tIf tt ta tb σ H Q:=h
theorem r_if (h:tt σ H fun b H1=>if b=true then t D σ H1 else u D σ H1):tIfS tt t u D σ H:=h
theorem r_ret (h:te σ H D.rt):tRet te D σ H:=h
theorem r_drop (h:te σ H fun _ H1=>D.nx σ H1):tDrop te D σ H:=h
def kCh (r':R2) (tc:TE) (σ:St) (y:V) (Q:VK):VK:=fun z H3=>∃ k,z=.bl k∧(if k=true then tc σ H3 fun w' H4=>r' y w' H4 Q else Q (.bl false) H3)
theorem r_chain {r r':R2} (h:ta σ H fun x H1=>tb σ H1 fun y H2=>r x y H2 fun z H3=>kCh r' tc σ y Q z H3):tChain r r' ta tb tc σ H Q:=h
theorem r_kCh {r':R2} {y:V} {b:Bool} (k:if b=true then tc σ H fun w' H4=>r' y w' H4 Q else Q (.bl false) H):kCh r' tc σ y Q (.bl b) H:=⟨b,rfl,k⟩
def kF (K:PySem.W.Frag) (f:Str) (Q:VK):VK:=fun x H1=>∃ a C dx fs v,x=.ref a∧H1 a=some (.ins C dx fs)∧Cls K C∧NoAttr K C f∧fs.lookup f=some v∧Q v H1
theorem r_fld {f:Str} (h:ta σ H fun x H1=>kF K f Q x H1):tFld K ta f σ H Q:=h
theorem r_kF {f:Str} {a C dx:Addr} {fs:List (Str×V)} (h:H a=some (.ins C dx fs)) (c:Cls K C) (n:NoAttr K C f) (l:fs.lookup f=some v) (k:Q v H):kF K f Q (.ref a) H:=⟨a,C,dx,fs,v,rfl,h,c,n,l,k⟩
def kDG (Q:VK) (x:V):VK:=fun y H2=>∃ a v,x=.ref a∧DGet H2 a y (some v)∧Q v H2
theorem r_dget (h:td σ H fun x H1=>ty σ H1 fun y H2=>kDG Q x y H2):tDGet td ty σ H Q:=h
theorem r_kDG {a:Addr} {j:Int} {kvs:List (Key×V)} (h:Rd H a (.dK kvs)) (l:valV kvs (Sum.inl j)=some v) (k:Q v H):kDG Q (.ref a) (.int j) H:=⟨a,v,rfl,.inl ⟨kvs,Sum.inl j,h,rfl,l.symm⟩,k⟩
def kDI (Q:VK) (y:V):VK:=fun x H2=>∃ a o,x=.ref a∧DGet H2 a y o∧Q (.bl o.isSome) H2
theorem r_din (h:ty σ H fun y H1=>td σ H1 fun x H2=>kDI Q y x H2):tDIn ty td σ H Q:=h
theorem r_kDI {a:Addr} {j:Int} {kvs:List (Key×V)} (h:Rd H a (.dK kvs)) (k:Q (.bl (valV kvs (Sum.inl j)).isSome) H):kDI Q (.int j) (.ref a) H:=⟨a,_,rfl,.inl ⟨kvs,Sum.inl j,h,rfl,rfl⟩,k⟩
def kDN (Q:VK) (y:V):VK:=fun x H2=>∃ a o,x=.ref a∧DGet H2 a y o∧Q (.bl (!o.isSome)) H2
theorem r_dnin (h:ty σ H fun y H1=>td σ H1 fun x H2=>kDN Q y x H2):tDNotIn ty td σ H Q:=h
theorem r_kDN {a:Addr} {j:Int} {kvs:List (Key×V)} (h:Rd H a (.dK kvs)) (k:Q (.bl (!(valV kvs (Sum.inl j)).isSome)) H):kDN Q (.int j) (.ref a) H:=⟨a,_,rfl,.inl ⟨kvs,Sum.inl j,h,rfl,rfl⟩,k⟩
def kDP (D:Ends) (σ:St) (v x:V):VK:=fun y H3=>∃ a H4,x=.ref a∧DPut H3 a y v H4∧D.nx σ H4
theorem r_dput (h:tx σ H fun v H1=>td σ H1 fun x H2=>ty σ H2 fun y H3=>kDP D σ v x y H3):sDPut td ty tx D σ H:=h
theorem r_kDP {a:Addr} {j:Int} {kvs:List (Key×V)} (h:H a=some (.dK kvs)) (hl:kvs.length < sizeLine) (k:D.nx σ (upd H a (.dK (putK kvs (Sum.inl j) v)))):kDP D σ v (.ref a) (.int j) H:=⟨a,_,rfl,DPut.k (k:=Sum.inl j) h hl,k⟩
theorem r_dnew (k:∀ p,H p=none→Q (.ref p) (upd H p (.dK []))):tDNewK σ H Q:=k
def kL (Q:VK):List V→Hp→Prop:=fun xs H1=>xs.length≤sizeLine∧∀ p,H1 p=none→Q (.ref p) (upd H1 p (.lst xs))
theorem r_lst (h:tl σ H fun xs H1=>kL Q xs H1):tLst tl σ H Q:=h
theorem r_kL {xs:List V} (h:xs.length≤1000) (k:∀ p,H p=none→Q (.ref p) (upd H p (.lst xs))):kL Q xs H:=⟨Nat.le_of_lt (small1000 h),k⟩
theorem r_nil {Q:List V→Hp→Prop} (k:Q [] H):tNil σ H Q:=k
theorem r_cons {Q:List V→Hp→Prop} (h:te σ H fun x H1=>tl σ H1 fun xs H2=>Q (x::xs) H2):tCons te tl σ H Q:=h
theorem r_call {sp:Sp} {E:XK} (h:tl σ H fun vs H1=>sp vs H1 Q E):tCall sp [] E tl σ H Q:=by
 have e:(fun (vs:List V) (H1:Hp)=>sp (vs++[]) H1 Q E)=fun vs H1=>sp vs H1 Q E:=by
  funext vs H1
  rw [List.append_nil]
 show tl σ H fun vs H1=>sp (vs++[]) H1 Q E
 rw [e]
 exact h
theorem r_make {C:Addr} {sp:Sp} {E:XK} (h:tl σ H fun vs H1=>∀ x dx,H1 x=none→H1 dx=none→dx≠x→sp (.ref x::vs) (upd (upd H1 dx (.own x)) x (.ins C dx [])) (fun v H2=>v=.non∧Q (.ref x) H2) E):tMake C sp [] E tl σ H Q:=by
 have e:(fun (vs:List V) (H1:Hp)=>∀ x dx,H1 x=none→H1 dx=none→dx≠x→sp (.ref x::(vs++[])) (upd (upd H1 dx (.own x)) x (.ins C dx [])) (fun v H2=>v=.non∧Q (.ref x) H2) E) =
   fun vs H1=>∀ x dx,H1 x=none→H1 dx=none→dx≠x→sp (.ref x::vs) (upd (upd H1 dx (.own x)) x (.ins C dx [])) (fun v H2=>v=.non∧Q (.ref x) H2) E:=by
  funext vs H1
  rw [List.append_nil]
 show tl σ H fun vs H1=>∀ x dx,H1 x=none→H1 dx=none→dx≠x→sp (.ref x::(vs++[])) (upd (upd H1 dx (.own x)) x (.ins C dx [])) (fun v H2=>v=.non∧Q (.ref x) H2) E
 rw [e]
 exact h
theorem r_cb {r:List V→Hp→VK→Prop} (h:tl σ H fun vs H1=>r vs H1 Q):tCB r tl σ H Q:=h
def kSF (K:PySem.W.Frag) (D:Ends) (σ:St) (f:Str) (y:V):VK:=fun x H2=>∃ a C dx fs,x=.ref a∧H2 a=some (.ins C dx fs)∧Cls K C∧NoAttr K C f∧fs.length < 1000∧D.nx σ (upd H2 a (.ins C dx (putF f y fs)))
theorem r_sfld {f:Str} (h:tx σ H fun y H1=>ta σ H1 fun x H2=>kSF K D σ f y x H2):sFld K ta tx f D σ H:=h
theorem r_kSF {f:Str} {y:V} {a C dx:Addr} {fs:List (Str×V)} (h:H a=some (.ins C dx fs)) (c:Cls K C) (n:NoAttr K C f) (l:fs.length < 1000) (k:D.nx σ (upd H a (.ins C dx (putF f y fs)))):kSF K D σ f y (.ref a) H:=⟨a,C,dx,fs,rfl,h,c,n,l,k⟩
theorem r_ixL {a:Addr} {xs:List V} {j:Int} (h:SqL K H a xs) (l:atI xs j=some v) (k:Q v H):rIxL K (.ref a) (.int j) H Q:=⟨a,xs,j,v,rfl,rfl,h,l,k⟩
theorem r_ixT {a:Addr} {xs:List V} {j:Int} (h:SqT K H a xs) (l:atI xs j=some v) (k:Q v H):rIxT K (.ref a) (.int j) H Q:=⟨a,xs,j,v,rfl,rfl,h,l,k⟩
def kB (K:PySem.W.Frag) (T:String) (r:V→List V→Hp→VK→Prop) (tl:TA) (σ:St) (Q:VK):VK:=fun x H1=>tyV K T x H1∧tl σ H1 fun xs H2=>r x xs H2 Q
theorem r_bm {T:String} {r:V→List V→Hp→VK→Prop} (h:ta σ H fun x H1=>kB K T r tl σ Q x H1):tBM K T r ta tl σ H Q:=h
theorem r_kBl {r:V→List V→Hp→VK→Prop} {a:Addr} {xs:List V} (h:SqL K H a xs) (k:tl σ H fun ys H2=>r (.ref a) ys H2 Q):kB K "list" r tl σ Q (.ref a) H:=⟨.inl ⟨rfl,xs,h⟩,k⟩
end
theorem snoc_take {α:Type}:∀ {l:List α} {i:Nat} {x:α},l[i]?=some x→l.take (i + 1)=l.take i++[x]
 | [],i,x,h=>by simp at h
 | a::l,0,x,h=>by
  have e:a=x:=Option.some.inj h
  subst e
  rfl
 | a::l,i + 1,x,h=>by
  have ih:=snoc_take (l:=l) (i:=i) (x:=x) h
  show a::l.take (i + 1)=a::l.take i++[x]
  rw [ih]
  rfl
section
variable {σ:St} {H:Hp} {Q:VK} {K:PySem.W.Frag} {a:Addr} {xs:List V} {i:Nat} {tl te:TE} {tt:TT}
theorem lc_turn {D:Addr} (p:V→Bool) (f:V→V) (hz:xs.length≤1000) (hD:H D=none)
  (ht:∀ x,x∈xs→∀ H' (Qb:Bool→Hp→Prop),Same H H'→Qb (p x) H'→tt ((σ.set i none).set i (some x)) H' Qb)
  (he:∀ x,x∈xs→p x=true→∀ H' (Q':VK),Same H H'→Q' (f x) H'→te ((σ.set i none).set i (some x)) H' Q') :
  ∀ j x H',xs[j]?=some x→H'=upd H D (.lst (((xs.take j).filter p).map f))→gName i x (wipe σ [i]) H' fun σ2 H2=>wipe σ2 [i]=wipe σ [i]∧tt σ2 H2 fun b H3 =>
   if b=true then te σ2 H3 fun y H4=>∃ acc,H4 D=some (.lst acc)∧acc.length < sizeLine∧upd H4 D (.lst (acc++[y]))=upd H D (.lst (((xs.take (j + 1)).filter p).map f)) else H3=upd H D (.lst (((xs.take (j + 1)).filter p).map f)):=by
 intro j x H' hx e
 subst e
 have hm:x∈xs:=List.mem_of_getElem? hx
 have sm:Same H (upd H D (.lst (((xs.take j).filter p).map f))):=fun b o e=>by
  rw [upd_ne (ne_of_none e hD)]
  exact e
 refine ⟨?_,?_⟩
 ·show ((σ.set i none).set i (some x)).set i none=σ.set i none
  rw [List.set_set,List.set_set]
 ·refine ht x hm _ _ sm ?_
  rw [snoc_take hx,List.filter_append,List.map_append]
  by_cases hp:p x=true
  ·rw [if_pos hp]
   refine he x hm hp _ _ sm ⟨_,upd_same,?_,?_⟩
   ·rw [List.length_map]
    have h1:=List.length_filter_le p (xs.take j)
    have h2:(xs.take j).length≤xs.length:=by rw [List.length_take]; exact Nat.min_le_right _ _
    exact small1000 (by omega)
   ·rw [upd_upd,List.filter_cons,if_pos hp]
    rfl
  ·rw [if_neg hp,List.filter_cons,if_neg hp]
   show _=upd H D (.lst (((xs.take j).filter p).map f++[]))
   rw [List.append_nil]
theorem r_lcl (p:V→Bool) (f:V→V) (hl:∀ R:V→Hp→Prop,R (.ref a) H→tl σ H R) (hS:SqL K H a xs) (hz:xs.length≤1000)
  (ht:∀ x,x∈xs→∀ H' (Qb:Bool→Hp→Prop),Same H H'→Qb (p x) H'→tt ((σ.set i none).set i (some x)) H' Qb)
  (he:∀ x,x∈xs→p x=true→∀ H' (Q':VK),Same H H'→Q' (f x) H'→te ((σ.set i none).set i (some x)) H' Q')
  (k:∀ D,H D=none→Q (.ref D) (upd H D (.lst ((xs.filter p).map f)))):tLc (iList K tl) (gName i) tt te [i] σ H Q:=by
 refine hl _ ⟨a,rfl,⟨xs,hS⟩,fun D hD=>?_⟩
 refine lc_list (K:=K) (a:=a) (xs:=xs) (fun j H'=>H'=upd H D (.lst (((xs.take j).filter p).map f))) rfl (fun j H' _ e=>?_) (lc_turn p f hz hD ht he) (fun H' e=>?_)
 ·subst e
  exact Same.seq (fun b o e=>by rw [upd_ne (ne_of_none e hD)]; exact e) hS
 ·subst e
  rw [List.take_length]
  exact k D hD
theorem r_lct (p:V→Bool) (f:V→V) (hl:∀ R:V→Hp→Prop,R (.ref a) H→tl σ H R) (hS:∀ H',SqT K H' a xs) (hz:xs.length≤1000)
  (ht:∀ x,x∈xs→∀ H' (Qb:Bool→Hp→Prop),Same H H'→Qb (p x) H'→tt ((σ.set i none).set i (some x)) H' Qb)
  (he:∀ x,x∈xs→p x=true→∀ H' (Q':VK),Same H H'→Q' (f x) H'→te ((σ.set i none).set i (some x)) H' Q')
  (k:∀ D,H D=none→Q (.ref D) (upd H D (.lst ((xs.filter p).map f)))):tLc (iTup K tl) (gName i) tt te [i] σ H Q:=by
 refine hl _ ⟨a,rfl,⟨xs,hS H⟩,fun D hD=>?_⟩
 refine lc_tup (K:=K) (a:=a) (xs:=xs) (fun j H'=>H'=upd H D (.lst (((xs.take j).filter p).map f))) rfl (fun j H' _ e=>hS H') (lc_turn p f hz hD ht he) (fun H' e=>?_)
 subst e
 rw [List.take_length]
 exact k D hD
end
theorem r_le2 {σ:St} {H:Hp} {Q:VK} {a b d:Int} (k:Q (.bl (decide (a≤b) && decide (b≤d))) H) :
  if decide (a≤b)=true then tC (.int d) σ H (fun w' H4=>rI0 (fun i j=>.bl (decide (i≤j))) (.int b) w' H4 Q) else Q (.bl false) H:=by
 by_cases h:a≤b
 ·rw [decide_eq_true h] at k ⊢
  rw [if_pos rfl]
  exact ⟨b,d,rfl,rfl,k⟩
 ·rw [decide_eq_false h] at k ⊢
  rw [if_neg (by decide)]
  exact k
section
variable {D:Ends} {σ:St} {H:Hp} {K:PySem.W.Frag} {td tl:TE} {g:TG} {tb:TS} {d a:Addr} {kvs:List (Key×V)} {xs:List V} {i:Nat} {v:V}
theorem r_gn {Q:St→Hp→Prop} (h:Q (σ.set i (some v)) H):gName i v σ H Q:=h
theorem r_for_keys (hd:H d=some (.dK kvs)) (htd:∀ (R:VK) H',R (.ref d) H'→td σ H' R) (Iv:Obj→Nat→St→Hp→Prop) (h0:∀ od,Iv od 0 σ (upd H d (.frz od (.dK kvs)))) (hl:∀ od j σ' H',Iv od j σ' H'→H' d=some (.frz od (.dK kvs)))
  (hs:∀ od j k v σ' H' (D2:Ends),kvs[j]?=some (k,v)→Iv od j σ' H'→(∀ σ3 H3,Iv od (j + 1) σ3 H3→D2.nx σ3 H3)→g (kV k) σ' H' fun σ2 H2=>tb D2 σ2 H2)
  (he:∀ od σ' H',Iv od kvs.length σ' H'→D.nx σ' (upd H' d (.dK kvs))):tLock (tFor (iKeys td) g tb) D σ H:=by
 refine ⟨d,_,hd,trivial,fun od=>htd _ _ ⟨d,od,rfl,.inl ⟨kvs,upd_same,?_⟩⟩⟩
 exact for_keys (Iv od) (h0 od) (hl od) (fun j k v σ' H' hk p=>hs od j k v σ' H' _ hk p fun _ _ q=>q) fun σ' H' p=>⟨hl od _ σ' H' p,he od σ' H' p⟩
theorem r_for_vals (hd:H d=some (.dK kvs)) (htd:∀ od (R:VK),R (.ref d) (upd H d (.frz od (.dK kvs)))→td σ (upd H d (.frz od (.dK kvs))) R) (Iv:Obj→Nat→St→Hp→Prop) (h0:∀ od,Iv od 0 σ (upd H d (.frz od (.dK kvs)))) (hl:∀ od j σ' H',Iv od j σ' H'→H' d=some (.frz od (.dK kvs)))
  (hs:∀ od j k v σ' H' (D2:Ends),kvs[j]?=some (k,v)→Iv od j σ' H'→(∀ σ3 H3,Iv od (j + 1) σ3 H3→D2.nx σ3 H3)→g v σ' H' fun σ2 H2=>tb D2 σ2 H2)
  (he:∀ od σ' H',Iv od kvs.length σ' H'→D.nx σ' (upd H' d (.dK kvs))):tLock (tFor (iVals td) g tb) D σ H:=by
 refine ⟨d,_,hd,trivial,fun od=>htd od _ ⟨d,od,kvs,rfl,upd_same,?_⟩⟩
 exact for_vals (Iv od) (h0 od) (hl od) (fun j k v σ' H' hk p=>hs od j k v σ' H' _ hk p fun _ _ q=>q) fun σ' H' p=>⟨hl od _ σ' H' p,he od σ' H' p⟩
theorem r_for_items {i j:Nat} (hd:H d=some (.dK kvs)) (htd:∀ od (R:VK),R (.ref d) (upd H d (.frz od (.dK kvs)))→td σ (upd H d (.frz od (.dK kvs))) R) (Iv:Obj→Nat→St→Hp→Prop) (h0:∀ od,Iv od 0 σ (upd H d (.frz od (.dK kvs)))) (hl:∀ od j σ' H',Iv od j σ' H'→H' d=some (.frz od (.dK kvs)))
  (hs:∀ od n k v T σ' H' (D2:Ends),kvs[n]?=some (k,v)→Iv od n σ' H'→H' T=none→(∀ σ3 H3,Iv od (n + 1) σ3 H3→D2.nx σ3 H3)→tb D2 ((σ'.set i (some (kV k))).set j (some v)) (upd H' T (.tup [kV k,v])))
  (he:∀ od σ' H',Iv od kvs.length σ' H'→D.nx σ' (upd H' d (.dK kvs))):tLock (tFor (iItems td) (gTup K 2 (gCons (gName i) (gCons (gName j) gNil))) tb) D σ H:=by
 refine ⟨d,_,hd,trivial,fun od=>htd od _ ⟨d,od,kvs,rfl,upd_same,?_⟩⟩
 refine for_items (Iv od) (h0 od) (hl od) (fun n k v T σ' H' hk p hT=>?_) fun σ' H' p=>⟨hl od _ σ' H' p,he od σ' H' p⟩
 exact ⟨T,_,rfl,.inl (.inl upd_same),rfl,kV k,_,rfl,v,_,rfl,rfl,hs od n k v T σ' H' _ hk p hT fun _ _ q=>q⟩
def kFor (K:PySem.W.Frag) (g:TG) (tb:TS) (D:Ends) (σ:St):VK:=fun x H1=>∃ a,x=.ref a∧(∃ xs,SqL K H1 a xs)∧∃ W:Nat→Nat→St→Hp→Prop,(∃ m,W 0 m σ H1)∧∀ i m σ H,W i m σ H →
 ((Itl K a).stop i H∧D.nx σ H)∨((Itl K a).go i H∧∃ N:St→Hp→Prop,(∀ σ' H',N σ' H'→∃ m',m' < m∧W (i + 1) m' σ' H')∧∀ x H',(Itl K a).yld i H x H'→g x σ H' fun σ2 H2=>tb { D with nx:=N,ct:=N,bk:=D.nx } σ2 H2)
theorem r_for (h:tl σ H fun x H1=>kFor K g tb D σ x H1):tFor (iList K tl) g tb D σ H:=h
theorem r_kFor (Iv:Nat→St→Hp→Prop) (h0:Iv 0 σ H) (hl:∀ j σ' H',Iv j σ' H'→SqL K H' a xs)
  (hs:∀ j x σ' H' (D2:Ends),xs[j]?=some x→Iv j σ' H'→(∀ σ3 H3,Iv (j + 1) σ3 H3→D2.nx σ3 H3)→g x σ' H' fun σ2 H2=>tb D2 σ2 H2) (he:∀ σ' H',Iv xs.length σ' H'→D.nx σ' H'):kFor K g tb D σ (.ref a) H :=
 ⟨a,rfl,⟨xs,hl 0 σ H h0⟩,for_list (K:=K) (a:=a) (xs:=xs) Iv h0 (fun j σ' H' _ p=>hl j σ' H' p) (fun j x σ' H' hx p=>hs j x σ' H' _ hx p fun _ _ q=>q) he⟩
def kDA (ty tv:TE) (rd:V→V→Hp→VK→Prop) (D:Ends) (σ:St) (x:V):VK:=fun y H2=>∃ a v,x=.ref a∧DGet H2 a y (some v)∧tv σ H2 fun y2 H3=>rd v y2 H3 fun z H4=>∃ H5,DPut H4 a y z H5∧D.nx σ H5
theorem r_daug {ty tv:TE} {rd:V→V→Hp→VK→Prop} (h:td σ H fun x H1=>ty σ H1 fun y H2=>kDA ty tv rd D σ x y H2):sDAug td ty tv rd D σ H:=h
end
theorem pps4 {X : Cx} {pos : Pos} {a0 a1 a2 a3 b0 b1 b2 b3 : Int} {i0 i1 i2 i3 j0 j1 j2 j3 : Nat} {p0 p1 p2 p3 q0 q1 q2 q3 : Pos} : PE X (.Dict [some (.Constant (.int a0) i0 p0), some (.Constant (.int a1) i1 p1), some (.Constant (.int a2) i2 p2), some (.Constant (.int a3) i3 p3)]
   [.Constant (.int b0) j0 q0, .Constant (.int b1) j1 q1, .Constant (.int b2) j2 q2, .Constant (.int b3) j3 q3] pos) (tDisp [(tC (.int a0), tC (.int b0)), (tC (.int a1), tC (.int b1)), (tC (.int a2), tC (.int b2)), (tC (.int a3), tC (.int b3))]) :=
  pe_disp (pps_cons pe_int pe_int (pps_cons pe_int pe_int (pps_cons pe_int pe_int (pps_cons pe_int pe_int pps_nil)))) rfl rfl (by simp) (by simp)
theorem pps1 {X:Cx} {pos:Pos} {e v:Expr} {te tv:TE} (he:PE X e te) (hv:PE X v tv):PE X (.Dict [some e] [v] pos) (tDisp [(te,tv)]) :=
 pe_disp (pps_cons he hv pps_nil) rfl rfl (by simp) (by simp)
end L2
namespace L2
open PySem PySem.Spec PyProof.Rows
section
variable {D:Ends} {σ:St} {H:Hp} {Q:VK} {K:PySem.W.Frag} {td tl te:TE} {tt:TT} {g:TG} {tb:TS} {d a:Addr} {kvs:List (Key×V)} {xs:List V} {i:Nat} {v:V} {o:Obj}
theorem pe_fldK {X:Cx} {K:PySem.W.Frag} {e:Expr} {f:Str} {pos:Pos} {ta:TE} (hK:X.K=K) (he:PE X e ta) (hb:attributeBase e f X.env (eval e X.env)=eval e X.env):PE X (.Attribute e f pos) (tFld K ta f):=by
 subst hK
 exact pe_fld he hb
def kFrz (Q:VK):VK:=fun v H1=>∃ d u,v=.ref d∧H1 d=some u∧Mut (some u)∧∀ od,Q v (upd H1 d (.frz od u))
theorem r_frz (h:te σ H fun v H1=>kFrz Q v H1):tFrz te σ H Q:=h
theorem r_kFrz (h:H d=some (.dK kvs)) (k:∀ od,Q (.ref d) (upd H d (.frz od (.dK kvs)))):kFrz Q (.ref d) H:=⟨d,_,rfl,h,trivial,k⟩
def kFK (g:TG) (tb:TS) (D:Ends) (σ:St):VK:=fun x H1=>∃ d o,x=.ref d∧((∃ kvs,H1 d=some (.frz o (.dK kvs))∧∃ W:Nat→Nat→St→Hp→Prop,(∃ m,W 0 m σ H1)∧∀ i m σ H,W i m σ H →
 ((Itk d o kvs).stop i H∧D.nx σ H)∨((Itk d o kvs).go i H∧∃ N:St→Hp→Prop,(∀ σ' H',N σ' H'→∃ m',m' < m∧W (i + 1) m' σ' H')∧∀ x H',(Itk d o kvs).yld i H x H'→g x σ H' fun σ2 H2=>tb { D with nx:=N,ct:=N,bk:=D.nx } σ2 H2)) ∨
 ∃ kvs,H1 d=some (.frz o (.dT kvs))∧∃ W:Nat→Nat→St→Hp→Prop,(∃ m,W 0 m σ H1)∧∀ i m σ H,W i m σ H →
 ((Itkt d o kvs).stop i H∧D.nx σ H)∨((Itkt d o kvs).go i H∧∃ N:St→Hp→Prop,(∀ σ' H',N σ' H'→∃ m',m' < m∧W (i + 1) m' σ' H')∧∀ x H',(Itkt d o kvs).yld i H x H'→g x σ H' fun σ2 H2=>tb { D with nx:=N,ct:=N,bk:=D.nx } σ2 H2))
theorem r_forK (h:td σ H fun x H1=>kFK g tb D σ x H1):tFor (iKeys td) g tb D σ H:=h
theorem r_kFK (hd:H d=some (.frz o (.dK kvs))) (Iv:Nat→St→Hp→Prop) (h0:Iv 0 σ H) (hl:∀ j σ' H',Iv j σ' H'→H' d=some (.frz o (.dK kvs)))
  (hs:∀ j k v σ' H' (D2:Ends),kvs[j]?=some (k,v)→Iv j σ' H'→(∀ σ3 H3,Iv (j + 1) σ3 H3→D2.nx σ3 H3)→g (kV k) σ' H' fun σ2 H2=>tb D2 σ2 H2) (he:∀ σ' H',Iv kvs.length σ' H'→D.nx σ' H'):kFK g tb D σ (.ref d) H :=
 ⟨d,o,rfl,.inl ⟨kvs,hd,for_keys Iv h0 hl (fun j k v σ' H' hk p=>hs j k v σ' H' _ hk p fun _ _ q=>q) he⟩⟩
theorem r_lck (hd:H d=some (.dK kvs)) (htd:∀ (R:VK) H',R (.ref d) H'→td σ H' R) (p:V→Bool) (f:V→V) (hz:kvs.length≤1000)
  (ht:∀ od x,x∈kvs.map (fun kv=>kV kv.1)→∀ H' (Qb:Bool→Hp→Prop),Same (upd H d (.frz od (.dK kvs))) H'→Qb (p x) H'→tt ((σ.set i none).set i (some x)) H' Qb)
  (he:∀ od x,x∈kvs.map (fun kv=>kV kv.1)→p x=true→∀ H' (Q':VK),Same (upd H d (.frz od (.dK kvs))) H'→Q' (f x) H'→te ((σ.set i none).set i (some x)) H' Q')
  (k:∀ D,H D=none→Q (.ref D) (upd H D (.lst (((kvs.map fun kv=>kV kv.1).filter p).map f)))):tLockE (tLc (iKeys td) (gName i) tt te [i]) σ H Q:=by
 refine ⟨d,_,hd,trivial,fun od=>htd _ _ ⟨d,od,rfl,.inl ⟨kvs,upd_same,fun D hD=>?_⟩⟩⟩
 have hDd:D≠d:=fun e=>by rw [e,upd_same] at hD; cases hD
 have turn:=lc_turn (H:=upd H d (.frz od (.dK kvs))) (σ:=σ) (i:=i) (xs:=kvs.map fun kv=>kV kv.1) p f (by rw [List.length_map]; exact hz) hD (ht od) (he od)
 have dd:∀ l,upd (upd H d (.frz od (.dK kvs))) D (.lst l) d=some (.frz od (.dK kvs)):=fun l=>by rw [upd_ne (Ne.symm hDd),upd_same]
 refine ⟨fun j m H'=>m=kvs.length - j∧j≤kvs.length∧H'=upd (upd H d (.frz od (.dK kvs))) D (.lst ((((kvs.map fun kv=>kV kv.1).take j).filter p).map f)),⟨_,rfl,Nat.zero_le _,rfl⟩,?_⟩
 rintro j m H' ⟨rfl,hj,rfl⟩
 by_cases hlt:j < kvs.length
 ·refine .inr ⟨⟨dd _,hlt⟩,fun H3=>H3=upd (upd H d (.frz od (.dK kvs))) D (.lst ((((kvs.map fun kv=>kV kv.1).take (j + 1)).filter p).map f)),fun H3 e=>⟨kvs.length - (j + 1),by omega,rfl,hlt,e⟩,fun x H3 y=>?_⟩
  obtain ⟨e,k1,v1,hk1,ex⟩:=y
  subst e ex
  exact turn j (kV k1) _ (by rw [List.getElem?_map,hk1]; rfl) rfl
 ·have e:j=kvs.length:=by omega
  subst e
  refine .inl ⟨⟨dd _,Nat.le_refl _⟩,dd _,?_⟩
  have hDH:H D=none:=by rw [upd_ne hDd] at hD; exact hD
  have:=k D hDH
  rw [← List.length_map (as:=kvs) (f:=fun kv=>kV kv.1),List.take_length]
  have e2:upd (upd (upd H d (.frz od (.dK kvs))) D (.lst (((kvs.map fun kv=>kV kv.1).filter p).map f))) d (.dK kvs)=upd H D (.lst (((kvs.map fun kv=>kV kv.1).filter p).map f)):=by
   funext b
   by_cases hb:b=d
   ·subst hb
    rw [upd_same,upd_ne (Ne.symm hDd),hd]
   ·rw [upd_ne hb]
    by_cases hb2:b=D
    ·subst hb2
     rw [upd_same,upd_same]
    ·rw [upd_ne hb2,upd_ne hb,upd_ne hb2]
  rw [e2]
  exact this
end
end L2
namespace L2
open PySem PySem.Spec PyProof.Rows
section
variable {σ:St} {H:Hp} {Q:VK} {K:PySem.W.Frag} {a:Addr} {xs:List V} {i:Nat} {te tl ta:TE} {tt:TT} {g:TG} {vs:List Nat}
theorem r_sl {r:V→Option Int→Option Int→Hp→VK→Prop} {tlo thi:TO} (h:te σ H fun x H1=>tlo σ H1 fun l H2=>thi σ H2 fun u H3=>r x l u H3 Q):tSl r te tlo thi σ H Q:=h
theorem r_noP {Q:Option Int→Hp→Prop} (k:Q none H):tNoPart σ H Q:=k
def kP (Q:Option Int→Hp→Prop):VK:=fun x H1=>∃ i,x=.int i∧Q (some i) H1
theorem r_part {Q:Option Int→Hp→Prop} (h:te σ H fun x H1=>kP Q x H1):tPart te σ H Q:=h
theorem r_kP {Q:Option Int→Hp→Prop} {j:Int} (k:Q (some j) H):kP Q (.int j) H:=⟨j,rfl,k⟩
theorem r_kSl {lo hi:Option Int} (h:SqL K H a xs) (k:∀ p,H p=none→Q (.ref p) (upd H p (.lst (cutV xs lo hi)))):rSlL K (.ref a) lo hi H Q:=⟨a,xs,rfl,h,k⟩
def kLc (K:PySem.W.Frag) (g:TG) (tt:TT) (te:TE) (vs:List Nat) (σ:St) (Q:VK):VK:=fun x H1=>tLc (iList K (tC x)) g tt te vs σ H1 Q
theorem r_lc0 (h:tl σ H fun x H1=>kLc K g tt te vs σ Q x H1):tLc (iList K tl) g tt te vs σ H Q:=h
theorem r_kLc (p:V→Bool) (f:V→V) (hS:SqL K H a xs) (hz:xs.length≤1000)
  (ht:∀ x,x∈xs→∀ H' (Qb:Bool→Hp→Prop),Same H H'→Qb (p x) H'→tt ((σ.set i none).set i (some x)) H' Qb)
  (he:∀ x,x∈xs→p x=true→∀ H' (Q':VK),Same H H'→Q' (f x) H'→te ((σ.set i none).set i (some x)) H' Q')
  (k:∀ D,H D=none→Q (.ref D) (upd H D (.lst ((xs.filter p).map f)))):kLc K (gName i) tt te [i] σ Q (.ref a) H:=r_lcl p f (fun R q=>q) hS hz ht he k
end
theorem cut_take {xs:List V} {j:Nat} (h:j≤xs.length):cutV xs none (some (j:Int))=xs.take j:=by
 unfold cutV
 show (xs.drop 0).take ((if (j:Int) < 0 then ((j:Int) + (xs.length:Int)).toNat else min ((j:Int)).toNat xs.length) - 0)=_
 rw [if_neg (by omega),Int.toNat_natCast,Nat.min_eq_left h,List.drop_zero,Nat.sub_zero]
theorem cut_drop {xs:List V} {j:Nat}:cutV xs (some (j:Int)) none=xs.drop j:=by
 unfold cutV
 show (xs.drop (if (j:Int) < 0 then ((j:Int) + (xs.length:Int)).toNat else min ((j:Int)).toNat xs.length)).take (xs.length - (if (j:Int) < 0 then ((j:Int) + (xs.length:Int)).toNat else min ((j:Int)).toNat xs.length))=_
 rw [if_neg (by omega),Int.toNat_natCast]
 by_cases h:j≤xs.length
 ·rw [Nat.min_eq_left h,List.take_of_length_le (by rw [List.length_drop]; omega)]
 ·rw [Nat.min_eq_right (by omega),List.drop_of_length_le (Nat.le_refl _),List.drop_of_length_le (by omega),List.take_nil]
theorem cut_both {xs:List V} {i j:Nat} (h1:i≤j) (h2:j≤xs.length):cutV xs (some (i:Int)) (some (j:Int))=(xs.drop i).take (j - i):=by
 unfold cutV
 show (xs.drop (if (i:Int) < 0 then ((i:Int) + (xs.length:Int)).toNat else min ((i:Int)).toNat xs.length)).take ((if (j:Int) < 0 then ((j:Int) + (xs.length:Int)).toNat else min ((j:Int)).toNat xs.length) - (if (i:Int) < 0 then ((i:Int) + (xs.length:Int)).toNat else min ((i:Int)).toNat xs.length))=_
 rw [if_neg (by omega),if_neg (by omega),Int.toNat_natCast,Int.toNat_natCast,Nat.min_eq_left h2,Nat.min_eq_left (by omega)]
end L2
namespace Vb
open PySem PySem.Spec PyProof.Rows L2
def top (i:Nat):Stmt:=PySem.Challenge.pw_settledatonce_s01_answers.main.body.getD i (.Pass ⟨0,0,0,0⟩)
structure Cs where
 leg:Addr
 grp:Addr
 acc:Addr
 hou:Addr
 goods:Addr
 whole:Addr
 withl:Addr
def Raw (K:PySem.W.Frag) (mg:Str→Option Value) (x:Str) (st:Stmt) (ps:List Str):Prop:=∃ f fd,Fun K x x st f fd∧mg x=some (.ref f)∧Binds K fd ps []
def RawI (K:PySem.W.Frag) (mg:Str→Option Value) (x q:Str) (C:Addr) (st:Stmt) (ps:List Str):Prop:=∃ f fd,Fun K "__init__" q st f fd∧mg x=some (.ref C)∧Mk K C f∧Binds K fd ps []
theorem Raw.fn {P:Program} {w:World} {K:PySem.W.Frag} {mg:Str→Option Value} {base:Heap} {x:Str} {st:Stmt} {N ps:List Str} {k:Nat} {sp:Sp} (r:Raw K mg x st ps) (S:FnScope N ps (defScope st)) (len:∀ vs H Q E,sp vs H Q E→vs.length=ps.length)
  (hbody:∀ (f:Addr) (cdv:Value) (A:Around) (outer:List Env) (s:Shared) (H:Hp) (vs:List V) (Q:VK) (E:XK),Room k (A.deeper (envOfC x (defScope st) s.heap.objs.size f cdv))→sp vs H Q E →
   ∃ t,PSs (cxOf CX0 P w K mg base N x (defScope st) f cdv A outer s H E).nox (defBody st) t∧t { nx:=fun _ H'=>Q .non H',rt:=Q } (start N vs) H):Fn P w K mg base x (k + 1) ps sp:=by
 obtain ⟨f,fd,F,hm,hb⟩:=r
 exact ⟨f,fd,F.ok S len (hbody f),hm,F.kp,hb⟩
theorem RawI.mk {P:Program} {w:World} {K:PySem.W.Frag} {mg:Str→Option Value} {base:Heap} {x q:Str} {C:Addr} {st:Stmt} {N ps:List Str} {k:Nat} {sp:Sp} (r:RawI K mg x q C st ps) (S:FnScope N ps (defScope st)) (len:∀ vs H Q E,sp vs H Q E→vs.length=ps.length)
  (hbody:∀ (f:Addr) (cdv:Value) (A:Around) (outer:List Env) (s:Shared) (H:Hp) (vs:List V) (Q:VK) (E:XK),Room k (A.deeper (envOfC q (defScope st) s.heap.objs.size f cdv))→sp vs H Q E →
   ∃ t,PSs (cxOf CX0 P w K mg base N q (defScope st) f cdv A outer s H E).nox (defBody st) t∧t { nx:=fun _ H'=>Q .non H',rt:=Q } (start N vs) H):MkC P w K mg base x C (k + 1) ps sp:=by
 obtain ⟨f,fd,F,hm,hk,hb⟩:=r
 exact ⟨f,fd,F.ok S len (hbody f),hm,hk,hb⟩
structure Txt (K:PySem.W.Frag) (mg:Str→Option Value) (c:Cs):Prop where
 k_Leg:Cls K c.leg
 n_Leg_giver:NoAttr K c.leg "giver"
 n_Leg_taker:NoAttr K c.leg "taker"
 n_Leg_good:NoAttr K c.leg "good"
 n_Leg_amount:NoAttr K c.leg "amount"
 k_Group:Cls K c.grp
 n_Group_legs:NoAttr K c.grp "legs"
 n_Group_held:NoAttr K c.grp "held"
 k_Account:Cls K c.acc
 n_Account_amounts:NoAttr K c.acc "amounts"
 n_Account_limits:NoAttr K c.acc "limits"
 n_Account_row:NoAttr K c.acc "row"
 k_House:Cls K c.hou
 n_House_accounts:NoAttr K c.hou "accounts"
 n_House_groups:NoAttr K c.hou "groups"
 i_Leg:RawI K mg "Leg" "Leg.__init__" c.leg (inClass (top 1) 0) ["self","giver","taker","good","amount"]
 i_Group:RawI K mg "Group" "Group.__init__" c.grp (inClass (top 2) 0) ["self","legs"]
 i_Account:RawI K mg "Account" "Account.__init__" c.acc (inClass (top 3) 0) ["self"]
 i_House:RawI K mg "House" "House.__init__" c.hou (inClass (top 4) 0) ["self"]
 f_is_key:Raw K mg "is_key" (top 24) ["number"]
 f_is_good:Raw K mg "is_good" (top 25) ["number"]
 f_is_amount:Raw K mg "is_amount" (top 26) ["number"]
 f_is_limit:Raw K mg "is_limit" (top 27) ["number"]
 f_is_place:Raw K mg "is_place" (top 28) ["number"]
 f_list_refusal:Raw K mg "list_refusal" (top 29) ["house","keys"]
 f_groups_told:Raw K mg "groups_told" (top 31) ["keys"]
 f_amounts_after:Raw K mg "amounts_after" (top 32) ["house","chosen"]
 f_short_accounts:Raw K mg "short_accounts" (top 33) ["house","chosen"]
 f_blocked_groups:Raw K mg "blocked_groups" (top 34) ["house","chosen"]
 f_less:Raw K mg "less" (top 35) ["chosen","away"]
 f_less_blocked:Raw K mg "less_blocked" (top 36) ["house","chosen"]
 f_free_groups:Raw K mg "free_groups" (top 37) ["house"]
 f_touching_groups:Raw K mg "touching_groups" (top 38) ["house","account_key","chosen"]
 f_culprits:Raw K mg "culprits" (top 39) ["house","chosen"]
 f_rounds:Raw K mg "rounds" (top 40) ["house","chosen"]
 f_greatest_within:Raw K mg "greatest_within" (top 41) ["house","chosen"]
 f_greatest_set:Raw K mg "greatest_set" (top 42) ["house"]
 f_can_go:Raw K mg "can_go" (top 43) ["house","chosen"]
 f_add_account:Raw K mg "add_account" (top 45) ["house","key"]
 f_deposit:Raw K mg "deposit" (top 46) ["house","account_key","good","amount"]
 f_withdraw:Raw K mg "withdraw" (top 47) ["house","account_key","good","amount"]
 f_set_limit:Raw K mg "set_limit" (top 48) ["house","account_key","good","limit"]
 f_cut_legs:Raw K mg "cut_legs" (top 49) ["numbers"]
 f_is_leg:Raw K mg "is_leg" (top 50) ["leg"]
 f_are_legs:Raw K mg "are_legs" (top 51) ["numbers"]
 f_touched_accounts:Raw K mg "touched_accounts" (top 52) ["legs"]
 f_add_group:Raw K mg "add_group" (top 53) ["house","key","numbers"]
 f_take_out:Raw K mg "take_out" (top 54) ["house","gone"]
 f_cancel:Raw K mg "cancel" (top 55) ["house","key"]
 f_hold:Raw K mg "hold" (top 56) ["house","key","held"]
 f_place:Raw K mg "place" (top 57) ["house","account_key","key","n"]
 f_let_go:Raw K mg "let_go" (top 58) ["house","chosen"]
 f_settle:Raw K mg "settle" (top 59) ["house"]
 f_go:Raw K mg "go" (top 60) ["house","keys"]
 f_first_ahead:Raw K mg "first_ahead" (top 65) ["house","key","chosen"]
 f_reason:Raw K mg "reason" (top 66) ["house","key"]
 f_with_more:Raw K mg "with_more" (top 68) ["house","account_key","good","amount"]
 f_missing_amount:Raw K mg "missing_amount" (top 69) ["house","account_key","good","chosen"]
 f_let_in:Raw K mg "let_in" (top 70) ["house","account_key","good","amount"]
 f_least_amounts:Raw K mg "least_amounts" (top 71) ["house","account_key","good","key"]
 f_counted:Raw K mg "counted" (top 73) ["keys"]
 f_ready:Raw K mg "ready" (top 74) ["house"]
 f_can:Raw K mg "can" (top 75) ["house","keys"]
 f_why:Raw K mg "why" (top 76) ["house","key"]
 f_good_refusal:Raw K mg "good_refusal" (top 77) ["house","account_key","good"]
 f_has:Raw K mg "has" (top 78) ["house","account_key","good"]
 f_then:Raw K mg "then" (top 79) ["house","account_key","good"]
 f_with_all:Raw K mg "with_all" (top 80) ["house","account_key","good"]
 f_need:Raw K mg "need" (top 81) ["house","account_key","good","key"]
 f_more:Raw K mg "more" (top 82) ["house","account_key","good","amount"]
 f_row:Raw K mg "row" (top 83) ["house","account_key"]
 f_legs:Raw K mg "legs" (top 84) ["house","key"]
 f_waiting:Raw K mg "waiting" (top 85) ["house"]
 f_moved:Raw K mg "moved" (top 86) ["house","good"]
 f_answer_change:Raw K mg "answer_change" (top 91) ["house","number","told","listed"]
 f_answer_question:Raw K mg "answer_question" (top 92) ["house","number","told","listed"]
 f_answer:Raw K mg "answer" (top 93) ["house","number","told","listed"]
 f_answers:Raw K mg "answers" (top 94) ["calls"]
 c_OUT_OF_RANGE:∃ t,mg "OUT_OF_RANGE"=some (.int (-1) t)
 c_KEY_TAKEN:∃ t,mg "KEY_TAKEN"=some (.int (-2) t)
 c_TWICE:∃ t,mg "TWICE"=some (.int (-3) t)
 c_NOT_THERE:∃ t,mg "NOT_THERE"=some (.int (-4) t)
 c_TOO_MUCH:∃ t,mg "TOO_MUCH"=some (.int (-5) t)
 c_BELOW_LIMIT:∃ t,mg "BELOW_LIMIT"=some (.int (-6) t)
 c_NOT_TOUCHED:∃ t,mg "NOT_TOUCHED"=some (.int (-7) t)
 c_CANNOT_BE:∃ t,mg "CANNOT_BE"=some (.int (-8) t)
 c_FULL:∃ t,mg "FULL"=some (.int (-9) t)
 c_GREATEST_KEY:∃ t,mg "GREATEST_KEY"=some (.int (1000000000) t)
 c_GREATEST_AMOUNT:∃ t,mg "GREATEST_AMOUNT"=some (.int (1000000000000) t)
 c_GREATEST_AFTER_DEPOSIT:∃ t,mg "GREATEST_AFTER_DEPOSIT"=some (.int (10000000000000) t)
 c_GREATEST_NEED:∃ t,mg "GREATEST_NEED"=some (.int (1000000000000000) t)
 c_MOST_ACCOUNTS:∃ t,mg "MOST_ACCOUNTS"=some (.int (8) t)
 c_MOST_GROUPS:∃ t,mg "MOST_GROUPS"=some (.int (24) t)
 c_MOST_LEGS:∃ t,mg "MOST_LEGS"=some (.int (8) t)
 c_NUMBERS_OF_A_LEG:∃ t,mg "NUMBERS_OF_A_LEG"=some (.int (4) t)
 c_SHORT:∃ t,mg "SHORT"=some (.int (1) t)
 c_BEHIND:∃ t,mg "BEHIND"=some (.int (2) t)
 c_HELD:∃ t,mg "HELD"=some (.int (3) t)
 c_FIRST_QUESTION:∃ t,mg "FIRST_QUESTION"=some (.int (10) t)
 c_GOODS:mg "GOODS"=some (.ref c.goods)
 t_GOODS:∀ H:Hp,SqT K H c.goods [.int 1,.int 2,.int 3,.int 4]
 c_WHOLE_NUMBERS:mg "WHOLE_NUMBERS"=some (.ref c.whole)
 t_WHOLE_NUMBERS:∀ H:Hp,SqT K H c.whole [.int 1,.int 3,.int 3,.int 3,.int 1,.int 1,.int 2,.int 3,.int 0,.int 0,.int 0,.int 0,.int 1,.int 2,.int 2,.int 2,.int 3,.int 3,.int 1,.int 1,.int 0,.int 1]
 c_WITH_A_LIST:mg "WITH_A_LIST"=some (.ref c.withl)
 t_WITH_A_LIST:∀ H:Hp,SqT K H c.withl [.int 4,.int 9,.int 11]
 b_len:mg "len"=none
 b_sorted:mg "sorted"=none
 b_set:mg "set"=none
 b_list:mg "list"=none
 b_dict:mg "dict"=none
 b_any:mg "any"=none
 b_all:mg "all"=none
 b_sum:mg "sum"=none
 b_min:mg "min"=none
 b_max:mg "max"=none
 b_range:mg "range"=none
theorem sc_Leg_init:FnScope ["self","giver","taker","good","amount"] ["self","giver","taker","good","amount"] (defScope (inClass (top 1) 0)):=⟨rfl,rfl,rfl,by decide +kernel,rfl,by decide +kernel,by decide +kernel⟩
theorem sc_Group_init:FnScope ["self","legs"] ["self","legs"] (defScope (inClass (top 2) 0)):=⟨rfl,rfl,rfl,by decide +kernel,rfl,by decide +kernel,by decide +kernel⟩
theorem sc_Account_init:FnScope ["self"] ["self"] (defScope (inClass (top 3) 0)):=⟨rfl,rfl,rfl,by decide +kernel,rfl,by decide +kernel,by decide +kernel⟩
theorem sc_House_init:FnScope ["self"] ["self"] (defScope (inClass (top 4) 0)):=⟨rfl,rfl,rfl,by decide +kernel,rfl,by decide +kernel,by decide +kernel⟩
theorem sc_is_key:FnScope ["number"] ["number"] (defScope (top 24)):=⟨rfl,rfl,rfl,by decide +kernel,rfl,by decide +kernel,by decide +kernel⟩
theorem sc_is_good:FnScope ["number"] ["number"] (defScope (top 25)):=⟨rfl,rfl,rfl,by decide +kernel,rfl,by decide +kernel,by decide +kernel⟩
theorem sc_is_amount:FnScope ["number"] ["number"] (defScope (top 26)):=⟨rfl,rfl,rfl,by decide +kernel,rfl,by decide +kernel,by decide +kernel⟩
theorem sc_is_limit:FnScope ["number"] ["number"] (defScope (top 27)):=⟨rfl,rfl,rfl,by decide +kernel,rfl,by decide +kernel,by decide +kernel⟩
theorem sc_is_place:FnScope ["number"] ["number"] (defScope (top 28)):=⟨rfl,rfl,rfl,by decide +kernel,rfl,by decide +kernel,by decide +kernel⟩
theorem sc_list_refusal:FnScope ["house","keys","key"] ["house","keys"] (defScope (top 29)):=⟨rfl,rfl,rfl,by decide +kernel,rfl,by decide +kernel,by decide +kernel⟩
theorem sc_groups_told:FnScope ["keys","chosen","key"] ["keys"] (defScope (top 31)):=⟨rfl,rfl,rfl,by decide +kernel,rfl,by decide +kernel,by decide +kernel⟩
theorem sc_amounts_after:FnScope ["house","chosen","after","key","account","leg"] ["house","chosen"] (defScope (top 32)):=⟨rfl,rfl,rfl,by decide +kernel,rfl,by decide +kernel,by decide +kernel⟩
theorem sc_short_accounts:FnScope ["house","chosen","after","short","key","limits","below","good"] ["house","chosen"] (defScope (top 33)):=⟨rfl,rfl,rfl,by decide +kernel,rfl,by decide +kernel,by decide +kernel⟩
theorem sc_blocked_groups:FnScope ["house","chosen","blocked","account","free","key"] ["house","chosen"] (defScope (top 34)):=⟨rfl,rfl,rfl,by decide +kernel,rfl,by decide +kernel,by decide +kernel⟩
theorem sc_less:FnScope ["chosen","away","kept","key"] ["chosen","away"] (defScope (top 35)):=⟨rfl,rfl,rfl,by decide +kernel,rfl,by decide +kernel,by decide +kernel⟩
theorem sc_less_blocked:FnScope ["house","chosen","kept","blocked"] ["house","chosen"] (defScope (top 36)):=⟨rfl,rfl,rfl,by decide +kernel,rfl,by decide +kernel,by decide +kernel⟩
theorem sc_free_groups:FnScope ["house","free","key","group"] ["house"] (defScope (top 37)):=⟨rfl,rfl,rfl,by decide +kernel,rfl,by decide +kernel,by decide +kernel⟩
theorem sc_touching_groups:FnScope ["house","account_key","chosen","key"] ["house","account_key","chosen"] (defScope (top 38)):=⟨rfl,rfl,rfl,by decide +kernel,rfl,by decide +kernel,by decide +kernel⟩
theorem sc_culprits:FnScope ["house","chosen","found","key"] ["house","chosen"] (defScope (top 39)):=⟨rfl,rfl,rfl,by decide +kernel,rfl,by decide +kernel,by decide +kernel⟩
theorem sc_rounds:FnScope ["house","chosen","sets","away"] ["house","chosen"] (defScope (top 40)):=⟨rfl,rfl,rfl,by decide +kernel,rfl,by decide +kernel,by decide +kernel⟩
theorem sc_greatest_within:FnScope ["house","chosen"] ["house","chosen"] (defScope (top 41)):=⟨rfl,rfl,rfl,by decide +kernel,rfl,by decide +kernel,by decide +kernel⟩
theorem sc_greatest_set:FnScope ["house"] ["house"] (defScope (top 42)):=⟨rfl,rfl,rfl,by decide +kernel,rfl,by decide +kernel,by decide +kernel⟩
theorem sc_can_go:FnScope ["house","chosen","key"] ["house","chosen"] (defScope (top 43)):=⟨rfl,rfl,rfl,by decide +kernel,rfl,by decide +kernel,by decide +kernel⟩
theorem sc_add_account:FnScope ["house","key"] ["house","key"] (defScope (top 45)):=⟨rfl,rfl,rfl,by decide +kernel,rfl,by decide +kernel,by decide +kernel⟩
theorem sc_deposit:FnScope ["house","account_key","good","amount","amounts","after"] ["house","account_key","good","amount"] (defScope (top 46)):=⟨rfl,rfl,rfl,by decide +kernel,rfl,by decide +kernel,by decide +kernel⟩
theorem sc_withdraw:FnScope ["house","account_key","good","amount","account","after"] ["house","account_key","good","amount"] (defScope (top 47)):=⟨rfl,rfl,rfl,by decide +kernel,rfl,by decide +kernel,by decide +kernel⟩
theorem sc_set_limit:FnScope ["house","account_key","good","limit","account","before"] ["house","account_key","good","limit"] (defScope (top 48)):=⟨rfl,rfl,rfl,by decide +kernel,rfl,by decide +kernel,by decide +kernel⟩
theorem sc_cut_legs:FnScope ["numbers","legs","start"] ["numbers"] (defScope (top 49)):=⟨rfl,rfl,rfl,by decide +kernel,rfl,by decide +kernel,by decide +kernel⟩
theorem sc_is_leg:FnScope ["leg"] ["leg"] (defScope (top 50)):=⟨rfl,rfl,rfl,by decide +kernel,rfl,by decide +kernel,by decide +kernel⟩
theorem sc_are_legs:FnScope ["numbers","leg"] ["numbers"] (defScope (top 51)):=⟨rfl,rfl,rfl,by decide +kernel,rfl,by decide +kernel,by decide +kernel⟩
theorem sc_touched_accounts:FnScope ["legs","touched","leg"] ["legs"] (defScope (top 52)):=⟨rfl,rfl,rfl,by decide +kernel,rfl,by decide +kernel,by decide +kernel⟩
theorem sc_add_group:FnScope ["house","key","numbers","legs","touched","account_key","leg"] ["house","key","numbers"] (defScope (top 53)):=⟨rfl,rfl,rfl,by decide +kernel,rfl,by decide +kernel,by decide +kernel⟩
theorem sc_take_out:FnScope ["house","gone","key","account"] ["house","gone"] (defScope (top 54)):=⟨rfl,rfl,rfl,by decide +kernel,rfl,by decide +kernel,by decide +kernel⟩
theorem sc_cancel:FnScope ["house","key"] ["house","key"] (defScope (top 55)):=⟨rfl,rfl,rfl,by decide +kernel,rfl,by decide +kernel,by decide +kernel⟩
theorem sc_hold:FnScope ["house","key","held","group","before"] ["house","key","held"] (defScope (top 56)):=⟨rfl,rfl,rfl,by decide +kernel,rfl,by decide +kernel,by decide +kernel⟩
theorem sc_place:FnScope ["house","account_key","key","n","account","before","others","other"] ["house","account_key","key","n"] (defScope (top 57)):=⟨rfl,rfl,rfl,by decide +kernel,rfl,by decide +kernel,by decide +kernel⟩
theorem sc_let_go:FnScope ["house","chosen","after","key","account"] ["house","chosen"] (defScope (top 58)):=⟨rfl,rfl,rfl,by decide +kernel,rfl,by decide +kernel,by decide +kernel⟩
theorem sc_settle:FnScope ["house"] ["house"] (defScope (top 59)):=⟨rfl,rfl,rfl,by decide +kernel,rfl,by decide +kernel,by decide +kernel⟩
theorem sc_go:FnScope ["house","keys","refusal","chosen"] ["house","keys"] (defScope (top 60)):=⟨rfl,rfl,rfl,by decide +kernel,rfl,by decide +kernel,by decide +kernel⟩
theorem sc_first_ahead:FnScope ["house","key","chosen","found","account_key","row","ahead","other"] ["house","key","chosen"] (defScope (top 65)):=⟨rfl,rfl,rfl,by decide +kernel,rfl,by decide +kernel,by decide +kernel⟩
theorem sc_reason:FnScope ["house","key","sets","out_at","before","away","chosen"] ["house","key"] (defScope (top 66)):=⟨rfl,rfl,rfl,by decide +kernel,rfl,by decide +kernel,by decide +kernel⟩
theorem sc_with_more:FnScope ["house","account_key","good","amount","account","richer","supposed"] ["house","account_key","good","amount"] (defScope (top 68)):=⟨rfl,rfl,rfl,by decide +kernel,rfl,by decide +kernel,by decide +kernel⟩
theorem sc_missing_amount:FnScope ["house","account_key","good","chosen","after"] ["house","account_key","good","chosen"] (defScope (top 69)):=⟨rfl,rfl,rfl,by decide +kernel,rfl,by decide +kernel,by decide +kernel⟩
theorem sc_let_in:FnScope ["house","account_key","good","amount"] ["house","account_key","good","amount"] (defScope (top 70)):=⟨rfl,rfl,rfl,by decide +kernel,rfl,by decide +kernel,by decide +kernel⟩
theorem sc_least_amounts:FnScope ["house","account_key","good","key","supposed","chosen","found","touching"] ["house","account_key","good","key"] (defScope (top 71)):=⟨rfl,rfl,rfl,by decide +kernel,rfl,by decide +kernel,by decide +kernel⟩
theorem sc_counted:FnScope ["keys"] ["keys"] (defScope (top 73)):=⟨rfl,rfl,rfl,by decide +kernel,rfl,by decide +kernel,by decide +kernel⟩
theorem sc_ready:FnScope ["house"] ["house"] (defScope (top 74)):=⟨rfl,rfl,rfl,by decide +kernel,rfl,by decide +kernel,by decide +kernel⟩
theorem sc_can:FnScope ["house","keys","refusal"] ["house","keys"] (defScope (top 75)):=⟨rfl,rfl,rfl,by decide +kernel,rfl,by decide +kernel,by decide +kernel⟩
theorem sc_why:FnScope ["house","key","found"] ["house","key"] (defScope (top 76)):=⟨rfl,rfl,rfl,by decide +kernel,rfl,by decide +kernel,by decide +kernel⟩
theorem sc_good_refusal:FnScope ["house","account_key","good"] ["house","account_key","good"] (defScope (top 77)):=⟨rfl,rfl,rfl,by decide +kernel,rfl,by decide +kernel,by decide +kernel⟩
theorem sc_has:FnScope ["house","account_key","good","refusal","account"] ["house","account_key","good"] (defScope (top 78)):=⟨rfl,rfl,rfl,by decide +kernel,rfl,by decide +kernel,by decide +kernel⟩
theorem sc_then:FnScope ["house","account_key","good","refusal"] ["house","account_key","good"] (defScope (top 79)):=⟨rfl,rfl,rfl,by decide +kernel,rfl,by decide +kernel,by decide +kernel⟩
theorem sc_with_all:FnScope ["house","account_key","good","refusal"] ["house","account_key","good"] (defScope (top 80)):=⟨rfl,rfl,rfl,by decide +kernel,rfl,by decide +kernel,by decide +kernel⟩
theorem sc_need:FnScope ["house","account_key","good","key","found"] ["house","account_key","good","key"] (defScope (top 81)):=⟨rfl,rfl,rfl,by decide +kernel,rfl,by decide +kernel,by decide +kernel⟩
theorem sc_more:FnScope ["house","account_key","good","amount"] ["house","account_key","good","amount"] (defScope (top 82)):=⟨rfl,rfl,rfl,by decide +kernel,rfl,by decide +kernel,by decide +kernel⟩
theorem sc_row:FnScope ["house","account_key"] ["house","account_key"] (defScope (top 83)):=⟨rfl,rfl,rfl,by decide +kernel,rfl,by decide +kernel,by decide +kernel⟩
theorem sc_legs:FnScope ["house","key","group","numbers","leg"] ["house","key"] (defScope (top 84)):=⟨rfl,rfl,rfl,by decide +kernel,rfl,by decide +kernel,by decide +kernel⟩
theorem sc_waiting:FnScope ["house"] ["house"] (defScope (top 85)):=⟨rfl,rfl,rfl,by decide +kernel,rfl,by decide +kernel,by decide +kernel⟩
theorem sc_moved:FnScope ["house","good","chosen","after","by_legs","key","given_up","account","leg"] ["house","good"] (defScope (top 86)):=⟨rfl,rfl,rfl,by decide +kernel,rfl,by decide +kernel,by decide +kernel⟩
theorem sc_answer_change:FnScope ["house","number","told","listed"] ["house","number","told","listed"] (defScope (top 91)):=⟨rfl,rfl,rfl,by decide +kernel,rfl,by decide +kernel,by decide +kernel⟩
theorem sc_answer_question:FnScope ["house","number","told","listed"] ["house","number","told","listed"] (defScope (top 92)):=⟨rfl,rfl,rfl,by decide +kernel,rfl,by decide +kernel,by decide +kernel⟩
theorem sc_answer:FnScope ["house","number","told","listed"] ["house","number","told","listed"] (defScope (top 93)):=⟨rfl,rfl,rfl,by decide +kernel,rfl,by decide +kernel,by decide +kernel⟩
theorem sc_answers:FnScope ["calls","house","given","at","number","start","told","listed","numbers"] ["calls"] (defScope (top 94)):=⟨rfl,rfl,rfl,by decide +kernel,rfl,by decide +kernel,by decide +kernel⟩
end Vb
namespace Vb
open PySem PySem.Spec PyProof.Rows L2
open Vbchak (State Account Group wouldHave hasOf goods accountAt groupAt shortOf beginning cutOnce closed culprits round rounds ready canGo withMore)
theorem rd_same {H H':Hp} {a:Addr} {u:HO} (e:Same H H') (h:Rd H a u):Rd H' a u:=by
 rcases h with h | ⟨o,h⟩
 ·exact .inl (e _ _ h)
 ·exact .inr ⟨o,e _ _ h⟩
theorem rd_lock {H:Hp} {a d:Addr} {u u':HO} {od:Obj} (hd:H d=some u') (mu:Mut (some u')) (h:Rd H a u):Rd (upd H d (.frz od u')) a u:=by
 by_cases e:a=d
 ·subst e
  rcases h with h | ⟨o,h⟩
  ·rw [hd] at h
   cases h
   exact .inr ⟨od,upd_same⟩
  ·rw [hd] at h
   cases h
   exact mu.elim
 ·rcases h with h | ⟨o,h⟩
  ·exact .inl (by rw [upd_ne e]; exact h)
  ·exact .inr ⟨o,by rw [upd_ne e]; exact h⟩
theorem same_new {H:Hp} {p:Addr} {o:HO} (h:H p=none):Same H (upd H p o):=fun b u e=>by
 rw [upd_ne (ne_of_none e h)]
 exact e
theorem same_upd {H H':Hp} {p:Addr} {o:HO} (s:Same H H') (h:H p=none):Same H (upd H' p o):=fun b u e=>by
 rw [upd_ne (ne_of_none e h)]
 exact s b u e
theorem same_unlock {H H':Hp} {d:Addr} {u:HO} {od:Obj} (hd:H d=some u) (s:Same (upd H d (.frz od u)) H'):Same H (upd H' d u):=fun b o e=>by
 by_cases hb:b=d
 ·subst hb
  rw [hd] at e
  cases e
  exact upd_same
 ·rw [upd_ne hb]
  exact s b o (by rw [upd_ne hb]; exact e)
theorem take_snoc {α:Type}:∀ {l:List α} {i:Nat} {x:α},l[i]?=some x→l.take (i + 1)=l.take i++[x]
 | [],i,x,h=>by simp at h
 | a::l,0,x,h=>by
  have e:a=x:=Option.some.inj h
  subst e
  rfl
 | a::l,i + 1,x,h=>by
  have ih:=take_snoc (l:=l) (i:=i) (x:=x) h
  show a::l.take (i + 1)=a::l.take i++[x]
  rw [ih]
  rfl
theorem map_at {α β:Type} {f:α→β} {l:List α} {i:Nat} {y:β} (h:(l.map f)[i]?=some y):∃ x,l[i]?=some x∧y=f x:=by
 rw [List.getElem?_map] at h
 cases e:l[i]? with
 | none=>rw [e] at h; cases h
 | some x=>rw [e] at h; exact ⟨x,rfl,(Option.some.inj h).symm⟩
def kI (n:Nat):Key:=Sum.inl (n:Int)
def vI (n:Nat):V:=.int (n:Int)
theorem kI_inj {a b:Nat} (h:kI a=kI b):a=b:=by
 have:=Sum.inl.inj h
 omega
def gd (l:List Int):List (Key×V):=[(Sum.inl 1,.int (l.getD 0 0)),(Sum.inl 2,.int (l.getD 1 0)),(Sum.inl 3,.int (l.getD 2 0)),(Sum.inl 4,.int (l.getD 3 0))]
def fH (pa pg:Addr):List (Str×V):=[("accounts",.ref pa),("groups",.ref pg)]
def fA (am li ro:Addr):List (Str×V):=[("amounts",.ref am),("limits",.ref li),("row",.ref ro)]
def hI (h:Bool):Int:=if h=true then 1 else 0
def fG (le:Addr) (h:Bool):List (Str×V):=[("legs",.ref le),("held",.int (hI h))]
def fL (x:Vbchak.Leg):List (Str×V):=[("giver",vI x.from_),("taker",vI x.to),("good",vI x.good),("amount",vI x.amount)]
theorem goods4 {q:Nat} (h:q∈goods):q=1∨q=2∨q=3∨q=4:=by
 have:=mem_goods.mp h
 omega
theorem gd_val (l:List Int) {q:Nat} (h:q∈goods):valV (gd l) (kI q)=some (.int (l.getD (q - 1) 0)):=by
 rcases goods4 h with rfl | rfl | rfl | rfl <;> rfl
theorem gd_put {l:List Int} (h4:l.length=4) {q:Nat} (h:q∈goods) (v:Int):putK (gd l) (kI q) (.int v)=gd (l.set (q - 1) v):=by
 obtain ⟨x0,x1,x2,x3,rfl⟩:=list4 h4
 rcases goods4 h with rfl | rfl | rfl | rfl <;> rfl
def lims (a:Account):List Int:=a.limits.map fun (n:Nat)=>(n:Int)
theorem lims_get {a:Account} (h4:a.limits.length=4) {q:Nat} (h:q∈goods):(lims a).getD (q - 1) 0=(Vbchak.limitOf a q:Int):=by
 unfold lims Vbchak.limitOf
 obtain ⟨x0,x1,x2,x3,e⟩:=list4 h4
 rw [e]
 rcases goods4 h with rfl | rfl | rfl | rfl <;> rfl
structure AccL where
 a:Addr
 am:Addr
 li:Addr
 ro:Addr
 acc:Account
structure GrpL where
 g:Addr
 le:Addr
 xs:List Addr
 grp:Group
structure Lay where
 pa:Addr
 pg:Addr
 as:List AccL
 gs:List GrpL
def Lay.st (L:Lay):State:=⟨L.as.map (·.acc),L.gs.map (·.grp)⟩
def Lay.da (L:Lay):List (Key×V):=L.as.map fun x=>(kI x.acc.key,.ref x.a)
def Lay.dg (L:Lay):List (Key×V):=L.gs.map fun x=>(kI x.grp.key,.ref x.g)
structure AccAt (c:Cs) (H:Hp) (x:AccL):Prop where
 o:∃ dx,H x.a=some (.ins c.acc dx (fA x.am x.li x.ro))
 am:Rd H x.am (.dK (gd x.acc.has))
 li:Rd H x.li (.dK (gd (lims x.acc)))
 ro:Rd H x.ro (.lst (x.acc.row.map vI))
structure GrpAt (c:Cs) (H:Hp) (x:GrpL):Prop where
 o:∃ dx,H x.g=some (.ins c.grp dx (fG x.le x.grp.held))
 le:Rd H x.le (.lst (x.xs.map V.ref))
 legs:Paired (fun a l=>∃ dx,H a=some (.ins c.leg dx (fL l))) x.xs x.grp.legs
structure HouseAt (c:Cs) (H:Hp) (p:Addr) (L:Lay):Prop where
 o:∃ dx,H p=some (.ins c.hou dx (fH L.pa L.pg))
 da:Rd H L.pa (.dK L.da)
 dg:Rd H L.pg (.dK L.dg)
 as:∀ x,x∈L.as→AccAt c H x
 gs:∀ x,x∈L.gs→GrpAt c H x
structure HX (c:Cs) (H:Hp) (p:Addr) (L:Lay) (s:State):Prop where
 at_:HouseAt c H p L
 ea:H L.pa=some (.dK L.da)
 eg:H L.pg=some (.dK L.dg)
 r:R L.st s
theorem AccAt.same {c:Cs} {H H':Hp} {x:AccL} (e:Same H H') (h:AccAt c H x):AccAt c H' x:=⟨let ⟨dx,q⟩:=h.o; ⟨dx,e _ _ q⟩,rd_same e h.am,rd_same e h.li,rd_same e h.ro⟩
theorem GrpAt.same {c:Cs} {H H':Hp} {x:GrpL} (e:Same H H') (h:GrpAt c H x):GrpAt c H' x:=⟨let ⟨dx,q⟩:=h.o; ⟨dx,e _ _ q⟩,rd_same e h.le,Paired.mapP h.legs fun a l ⟨dx,q⟩=>⟨dx,e _ _ q⟩⟩
theorem HouseAt.same {c:Cs} {H H':Hp} {p:Addr} {L:Lay} (e:Same H H') (h:HouseAt c H p L):HouseAt c H' p L :=
 ⟨let ⟨dx,q⟩:=h.o; ⟨dx,e _ _ q⟩,rd_same e h.da,rd_same e h.dg,fun x hx=>(h.as x hx).same e,fun x hx=>(h.gs x hx).same e⟩
theorem HX.same {c:Cs} {H H':Hp} {p:Addr} {L:Lay} {s:State} (e:Same H H') (h:HX c H p L s):HX c H' p L s:=⟨h.at_.same e,e _ _ h.ea,e _ _ h.eg,h.r⟩
theorem ins_lock {H:Hp} {a d C dx:Addr} {fs:List (Str×V)} {kvs:List (Key×V)} {od:Obj} (hd:H d=some (.dK kvs)) (h:H a=some (.ins C dx fs)):upd H d (.frz od (.dK kvs)) a=some (.ins C dx fs):=by
 rw [upd_ne (ne_of h hd (by intro z; cases z))]
 exact h
theorem HouseAt.lock {c:Cs} {H:Hp} {p d:Addr} {L:Lay} {kvs:List (Key×V)} {od:Obj} (hd:H d=some (.dK kvs)) (h:HouseAt c H p L):HouseAt c (upd H d (.frz od (.dK kvs))) p L :=
 ⟨let ⟨dx,q⟩:=h.o; ⟨dx,ins_lock hd q⟩,rd_lock hd trivial h.da,rd_lock hd trivial h.dg,
  fun x hx=>⟨let ⟨dx,q⟩:=(h.as x hx).o; ⟨dx,ins_lock hd q⟩,rd_lock hd trivial (h.as x hx).am,rd_lock hd trivial (h.as x hx).li,rd_lock hd trivial (h.as x hx).ro⟩,
  fun x hx=>⟨let ⟨dx,q⟩:=(h.gs x hx).o; ⟨dx,ins_lock hd q⟩,rd_lock hd trivial (h.gs x hx).le,Paired.mapP (h.gs x hx).legs fun a l ⟨dx,q⟩=>⟨dx,ins_lock hd q⟩⟩⟩
theorem valV_map {α:Type} {f:α→Nat} {g:α→V}:∀ {l:List α},(l.map f).Nodup→∀ {x:α},x∈l→valV (l.map fun x=>(kI (f x),g x)) (kI (f x))=some (g x)
 | [],_,x,h=>by cases h
 | y::l,nd,x,h=>by
  rw [List.map_cons,List.nodup_cons] at nd
  rw [List.map_cons]
  rcases List.mem_cons.mp h with e | h'
  ·subst e
   exact valV_pos rfl
  ·rw [valV_neg (fun e=>nd.1 (by rw [kI_inj e]; exact List.mem_map.mpr ⟨x,h',rfl⟩))]
   exact valV_map nd.2 h'
theorem valV_out {kvs:List (Key×V)} {k:Key} (h:¬ k∈kvs.map (·.1)):valV kvs k=none:=by
 cases e:valV kvs k with
 | none=>rfl
 | some v=>exact absurd (valV_in e) h
theorem keys_in {kvs:List (Key×V)} {ks:List Nat} (h:kvs.map (·.1)=ks.map kI) (k:Nat):(valV kvs (kI k)).isSome=ks.contains k:=by
 rw [Bool.eq_iff_iff,List.contains_iff_mem]
 constructor
 ·intro e
  obtain ⟨v,hv⟩:=Option.isSome_iff_exists.mp e
  have:=valV_in hv
  rw [h] at this
  obtain ⟨j,hj,e⟩:=List.mem_map.mp this
  rw [← kI_inj e]
  exact hj
 ·intro e
  cases q:valV kvs (kI k) with
  | some v=>rfl
  | none=>exact absurd (by rw [h]; exact List.mem_map.mpr ⟨k,e,rfl⟩) (valV_not q)
theorem lay_acc {L:Lay} {s:State} (r:R L.st s) {a:Account} (h:a∈s.accounts):∃ x,x∈L.as∧x.acc=a:=by
 have:=r.pa.mem_iff.mpr h
 obtain ⟨x,hx,e⟩:=List.mem_map.mp this
 exact ⟨x,hx,e⟩
theorem lay_grp {L:Lay} {s:State} (r:R L.st s) {g:Group} (h:g∈s.groups):∃ x,x∈L.gs∧x.grp=g:=by
 have:=r.pg.mem_iff.mpr h
 obtain ⟨x,hx,e⟩:=List.mem_map.mp this
 exact ⟨x,hx,e⟩
theorem acc_lay {L:Lay} {s:State} (r:R L.st s) {x:AccL} (h:x∈L.as):x.acc∈s.accounts:=r.pa.mem_iff.mp (List.mem_map.mpr ⟨x,h,rfl⟩)
theorem grp_lay {L:Lay} {s:State} (r:R L.st s) {x:GrpL} (h:x∈L.gs):x.grp∈s.groups:=r.pg.mem_iff.mp (List.mem_map.mpr ⟨x,h,rfl⟩)
theorem lay_an {L:Lay} {s:State} (r:R L.st s):(L.as.map fun x=>x.acc.key).Nodup:=by
 have:=r.an
 unfold Lay.st at this
 rw [List.map_map] at this
 exact this
theorem lay_gn {L:Lay} {s:State} (r:R L.st s):(L.gs.map fun x=>x.grp.key).Nodup:=by
 have:=r.gn
 unfold Lay.st at this
 rw [List.map_map] at this
 exact this
theorem da_at {L:Lay} {s:State} (r:R L.st s) {x:AccL} (h:x∈L.as):valV L.da (kI x.acc.key)=some (.ref x.a):=valV_map (f:=fun x:AccL=>x.acc.key) (lay_an r) h
theorem dg_at {L:Lay} {s:State} (r:R L.st s) {x:GrpL} (h:x∈L.gs):valV L.dg (kI x.grp.key)=some (.ref x.g):=valV_map (f:=fun x:GrpL=>x.grp.key) (lay_gn r) h
theorem da_keys (L:Lay):L.da.map (·.1)=(L.as.map fun x=>x.acc.key).map kI:=by
 unfold Lay.da
 rw [List.map_map,List.map_map]
 rfl
theorem dg_keys (L:Lay):L.dg.map (·.1)=(L.gs.map fun x=>x.grp.key).map kI:=by
 unfold Lay.dg
 rw [List.map_map,List.map_map]
 rfl
theorem da_some {L:Lay} {s:State} (r:R L.st s) (k:Nat):(valV L.da (kI k)).isSome=(accountAt s k).isSome:=by
 rw [keys_in (da_keys L),Bool.eq_iff_iff,List.contains_iff_mem]
 constructor
 ·intro h
  obtain ⟨x,hx,rfl⟩:=List.mem_map.mp h
  rw [accountAt_mem r.good (acc_lay r hx)]
  rfl
 ·intro h
  obtain ⟨a,e⟩:=Option.isSome_iff_exists.mp h
  obtain ⟨h1,h2⟩:=accountAt_some e
  obtain ⟨x,hx,rfl⟩:=lay_acc r h1
  exact List.mem_map.mpr ⟨x,hx,h2⟩
theorem dg_some {L:Lay} {s:State} (r:R L.st s) (k:Nat):(valV L.dg (kI k)).isSome=(groupAt s k).isSome:=by
 rw [keys_in (dg_keys L),Bool.eq_iff_iff,List.contains_iff_mem]
 constructor
 ·intro h
  obtain ⟨x,hx,rfl⟩:=List.mem_map.mp h
  rw [groupAt_mem r.good (grp_lay r hx)]
  rfl
 ·intro h
  obtain ⟨a,e⟩:=Option.isSome_iff_exists.mp h
  obtain ⟨h1,h2⟩:=groupAt_some e
  obtain ⟨x,hx,rfl⟩:=lay_grp r h1
  exact List.mem_map.mpr ⟨x,hx,h2⟩
def sdk (ks:List Nat):List (Key×V):=ks.map fun k=>(kI k,.bl true)
def SetAt (H:Hp) (d:Addr) (ks:List Nat):Prop:=H d=some (.dK (sdk ks))
def KeysAt (H:Hp) (d:Addr) (ks:List Nat):Prop:=∃ kvs,H d=some (.dK kvs)∧kvs.map (·.1)=ks.map kI
theorem sdk_keys (ks:List Nat):(sdk ks).map (·.1)=ks.map kI:=by
 unfold sdk
 rw [List.map_map]
 rfl
theorem sdk_len (ks:List Nat):(sdk ks).length=ks.length:=List.length_map ..
theorem SetAt.keys {H:Hp} {d:Addr} {ks:List Nat} (h:SetAt H d ks):KeysAt H d ks:=⟨_,h,sdk_keys ks⟩
theorem sdk_new {ks:List Nat} {k:Nat} (h:¬ k∈ks):putK (sdk ks) (kI k) (.bl true)=sdk (ks++[k]):=by
 rw [putK_new]
 ·unfold sdk
  rw [List.map_append]
  rfl
 ·refine valV_out fun m=>?_
  rw [sdk_keys] at m
  obtain ⟨j,hj,e⟩:=List.mem_map.mp m
  exact h (kI_inj e ▸ hj)
theorem sdk_old {ks:List Nat} {k:Nat} (h:k∈ks):putK (sdk ks) (kI k) (.bl true)=sdk ks:=by
 unfold putK
 rw [if_pos (by rw [valV_any,keys_in (sdk_keys ks)]; exact List.contains_iff_mem.mpr h)]
 unfold sdk
 rw [List.map_map]
 refine List.map_congr_left fun j _=>?_
 show (if kI j=kI k then (kI j,V.bl true) else (kI j,V.bl true))=(kI j,V.bl true)
 split <;> rfl
end Vb
namespace Vb
open PySem PySem.Spec PyProof.Rows L2
open Vbchak (State Account Group wouldHave hasOf goods accountAt groupAt shortOf beginning cutOnce closed culprits round rounds ready canGo withMore keyed goodly within keysIn nats distinct total reasonIn blockedBy whyOf whyFrom unheld changed helps needOf NEED legsOf legsIn touches)
local macro_rules | `(tactic| walk_at "1") => `(tactic| repeat (first
 | with_reducible refine r_seq ?_ | with_reducible refine r_ret ?_ | with_reducible refine r_if ?_ | with_reducible refine r_set ?_ | with_reducible refine r_drop ?_
 | (with_reducible show tVar _ _ _ _; refine r_var rfl ?_) | with_reducible refine r_c ?_ | with_reducible refine r_op ?_ | with_reducible refine r_un ?_ | with_reducible refine r_I0 ?_ | with_reducible refine r_U ?_
 | with_reducible refine r_eqI ?_ | with_reducible refine r_neI ?_ | with_reducible refine r_tB ?_ | with_reducible refine r_test ?_ | with_reducible refine r_kT ?_ | with_reducible refine r_not ?_ | with_reducible refine r_and ?_ | with_reducible refine r_or ?_
 | with_reducible refine r_andV ?_ | with_reducible refine r_kAndV ?_ | with_reducible refine r_notV ?_ | with_reducible refine r_kNotV ?_ | with_reducible refine r_ife ?_ | with_reducible refine r_chain ?_ | with_reducible refine r_kCh ?_
 | with_reducible refine r_fld ?_ | with_reducible refine r_dget ?_ | with_reducible refine r_din ?_ | with_reducible refine r_dnin ?_ | with_reducible refine r_dput ?_ | with_reducible refine r_dnew ?_ | with_reducible refine r_lst ?_
 | with_reducible refine r_nil ?_ | with_reducible refine r_cons ?_ | with_reducible refine r_call ?_ | with_reducible refine r_make ?_ | with_reducible refine r_cb ?_ | with_reducible refine r_sfld ?_ | with_reducible refine r_bm ?_ | with_reducible refine r_next ?_ | with_reducible refine r_gn ?_ | with_reducible refine r_for ?_ | with_reducible refine r_daug ?_))
section
variable {P:Program} {w:World} {K:PySem.W.Frag} {mg:Str→Option Value} {base:Heap} {c:Cs}
theorem lk1 {f:Str} {v:V} {r:List (Str×V)}:((f,v)::r).lookup f=some v:=by
 rw [List.lookup_cons,beq_self_eq_true]
theorem lk2 {f g:Str} {v:V} {r:List (Str×V)} (h:(f == g)=false):((g,v)::r).lookup f=r.lookup f:=by
 rw [List.lookup_cons,h]
theorem pf1 {f:Str} {v y:V} {r:List (Str×V)}:putF f y ((f,v)::r)=(f,y)::r:=by
 show (if f=f then _ else _)=_
 rw [if_pos rfl]
theorem pf2 {f g:Str} {v y:V} {r:List (Str×V)} (h:¬ g=f):putF f y ((g,v)::r)=(g,v)::putF f y r:=by
 show (if g=f then _ else _)=_
 rw [if_neg h]
theorem plS {f:Str} {v:V} {n:Nat}:∀ {fs:List (Str×V)},fs.length < n→(putF f v fs).length < n + 1
 | [],h=>by show 1 < n + 1; have:0 < n:=h; omega
 | (g,x)::r,h=>by
  show (if g=f then (g,v)::r else (g,x)::putF f v r).length < n + 1
  split
  ·rw [List.length_cons] at h ⊢
   omega
  ·have:r.length < n - 1:=by rw [List.length_cons] at h; omega
   have:=plS (f:=f) (v:=v) this
   rw [List.length_cons] at h ⊢
   omega
theorem pl1 {f:Str} {v:V}:(putF f v []).length < 1000:=plS (n:=999) (by decide)
theorem pl2 {f f2:Str} {v v2:V}:(putF f v (putF f2 v2 [])).length < 1000:=plS (n:=999) (plS (n:=998) (by decide))
theorem pl3 {f f2 f3:Str} {v v2 v3:V}:(putF f v (putF f2 v2 (putF f3 v3 []))).length < 1000:=plS (n:=999) (plS (n:=998) (plS (n:=997) (by decide)))
theorem lH_a {pa pg:Addr}:(fH pa pg).lookup ("accounts":Str)=some (V.ref pa):=lk1
theorem lH_g {pa pg:Addr}:(fH pa pg).lookup ("groups":Str)=some (V.ref pg):=(lk2 (by decide +kernel)).trans lk1
theorem lA_m {am li ro:Addr}:(fA am li ro).lookup ("amounts":Str)=some (V.ref am):=lk1
theorem lA_l {am li ro:Addr}:(fA am li ro).lookup ("limits":Str)=some (V.ref li):=(lk2 (by decide +kernel)).trans lk1
theorem lA_r {am li ro:Addr}:(fA am li ro).lookup ("row":Str)=some (V.ref ro):=(lk2 (by decide +kernel)).trans ((lk2 (by decide +kernel)).trans lk1)
theorem lG_l {le:Addr} {h:Bool}:(fG le h).lookup ("legs":Str)=some (V.ref le):=lk1
theorem lG_h {le:Addr} {h:Bool}:(fG le h).lookup ("held":Str)=some (V.int (hI h)):=(lk2 (by decide +kernel)).trans lk1
theorem lL_f {x:Vbchak.Leg}:(fL x).lookup ("giver":Str)=some (vI x.from_):=lk1
theorem lL_t {x:Vbchak.Leg}:(fL x).lookup ("taker":Str)=some (vI x.to):=(lk2 (by decide +kernel)).trans lk1
theorem lL_g {x:Vbchak.Leg}:(fL x).lookup ("good":Str)=some (vI x.good):=(lk2 (by decide +kernel)).trans ((lk2 (by decide +kernel)).trans lk1)
theorem lL_a {x:Vbchak.Leg}:(fL x).lookup ("amount":Str)=some (vI x.amount):=(lk2 (by decide +kernel)).trans ((lk2 (by decide +kernel)).trans ((lk2 (by decide +kernel)).trans lk1))
def spLeg (c:Cs):Sp:=fun vs H Q _=>∃ (p dx:Addr) (a b g n:V),vs=[.ref p,a,b,g,n]∧H p=some (.ins c.leg dx [])∧Q .non (upd H p (.ins c.leg dx [("giver",a),("taker",b),("good",g),("amount",n)]))
theorem mk_Leg (T:Txt K mg c):MkC P w K mg base "Leg" c.leg 1 ["self","giver","taker","good","amount"] (spLeg c):=by
 refine T.i_Leg.mk sc_Leg_init (fun vs H Q E h=>?_) (fun f cdv A outer s H vs Q E hr h=>?_)
 ·obtain ⟨p,dx,a,b,g,n,rfl,_⟩:=h
  rfl
 ·obtain ⟨p,dx,a,b,g,n,rfl,hp,k⟩:=h
  have hu:=hu_of hr
  have nd:=sc_Leg_init.nd
  refine ⟨_,(pss_cons (ps_fld (pv 0) (pv 1) rfl)
   (pss_cons (ps_fld (pv 0) (pv 2) rfl)
   (pss_cons (ps_fld (pv 0) (pv 3) rfl)
   (pss_one (ps_fld (pv 0) (pv 4) rfl))))),?_⟩
  try simp only [Cx.nox,Cx.wish,cxOf]
  walk_at "1"
  refine r_kSF hp T.k_Leg T.n_Leg_giver (by decide) ?_
  walk_at "1"
  refine r_kSF upd_same T.k_Leg T.n_Leg_taker pl1 ?_
  walk_at "1"
  refine r_kSF upd_same T.k_Leg T.n_Leg_good pl2 ?_
  walk_at "1"
  refine r_kSF upd_same T.k_Leg T.n_Leg_amount pl3 ?_
  rw [upd_upd,upd_upd,upd_upd]
  exact k
def spGroup (c:Cs):Sp:=fun vs H Q _=>∃ (p dx:Addr) (l:V),vs=[.ref p,l]∧H p=some (.ins c.grp dx [])∧Q .non (upd H p (.ins c.grp dx [("legs",l),("held",.int 0)]))
theorem mk_Group (T:Txt K mg c):MkC P w K mg base "Group" c.grp 1 ["self","legs"] (spGroup c):=by
 refine T.i_Group.mk sc_Group_init (fun vs H Q E h=>?_) (fun f cdv A outer s H vs Q E hr h=>?_)
 ·obtain ⟨p,dx,a,rfl,_⟩:=h
  rfl
 ·obtain ⟨p,dx,a,rfl,hp,k⟩:=h
  have hu:=hu_of hr
  have nd:=sc_Group_init.nd
  refine ⟨_,(pss_cons (ps_fld (pv 0) (pv 1) rfl)
   (pss_one (ps_fld (pv 0) pe_int rfl))),?_⟩
  try simp only [Cx.nox,Cx.wish,cxOf]
  walk_at "1"
  refine r_kSF hp T.k_Group T.n_Group_legs (by decide) ?_
  walk_at "1"
  refine r_kSF upd_same T.k_Group T.n_Group_held pl1 ?_
  rw [upd_upd]
  exact k
def spAccount (c:Cs):Sp:=fun vs H Q _=>∃ (p dx:Addr),vs=[.ref p]∧H p=some (.ins c.acc dx [])∧∀ (H':Hp) (am li ro:Addr),(∀ b o,H b=some o→b≠p→H' b=some o)→H am=none→H li=none→H ro=none→am≠li →
 H' p=some (.ins c.acc dx (fA am li ro))→H' am=some (.dK (gd [0,0,0,0]))→H' li=some (.dK (gd [0,0,0,0]))→H' ro=some (.lst [])→Q .non H'
theorem mk_Account (T:Txt K mg c):MkC P w K mg base "Account" c.acc 1 ["self"] (spAccount c):=by
 refine T.i_Account.mk sc_Account_init (fun vs H Q E h=>?_) (fun f cdv A outer s H vs Q E hr h=>?_)
 ·obtain ⟨p,dx,rfl,_⟩:=h
  rfl
 ·obtain ⟨p,dx,rfl,hp,k⟩:=h
  have hu:=hu_of hr
  have nd:=sc_Account_init.nd
  refine ⟨_,(pss_cons (ps_fld (pv 0) pps4 rfl)
   (pss_cons (ps_fld (pv 0) pps4 rfl)
   (pss_one (ps_fld (pv 0) (pe_lst pa_nil) rfl)))),?_⟩
  try simp only [Cx.nox,Cx.wish,cxOf]
  walk_at "1"
  intro am hm
  refine ⟨upd_same,[(Sum.inl 1,.int 0),(Sum.inl 2,.int 0),(Sum.inl 3,.int 0),(Sum.inl 4,.int 0)],rfl,by decide,?_⟩
  have ep:upd (upd H am (.dK [])) am (.dK (mergeK [] [(Sum.inl 1,.int 0),(Sum.inl 2,.int 0),(Sum.inl 3,.int 0),(Sum.inl 4,.int 0)]))=upd H am (.dK (gd [0,0,0,0])):=upd_upd
  rw [ep]
  have p1:p≠am:=ne_of_none hp hm
  walk_at "1"
  refine r_kSF (by rw [upd_ne p1]; exact hp) T.k_Account T.n_Account_amounts (by decide) ?_
  walk_at "1"
  intro li hl
  refine ⟨upd_same,[(Sum.inl 1,.int 0),(Sum.inl 2,.int 0),(Sum.inl 3,.int 0),(Sum.inl 4,.int 0)],rfl,by decide,?_⟩
  rw [upd_upd]
  have p2:p≠li:=ne_of_none upd_same hl
  have l1:am≠li:=ne_of_none (by rw [upd_ne (Ne.symm p1),upd_same]) hl
  have hl0:H li=none:=by rw [upd_ne (Ne.symm p2),upd_ne (Ne.symm l1)] at hl; exact hl
  walk_at "1"
  refine r_kSF (by rw [upd_ne p2,upd_same]) T.k_Account T.n_Account_limits pl1 ?_
  walk_at "1"
  refine r_kL (by decide) fun ro hro=>?_
  have p3:p≠ro:=ne_of_none upd_same hro
  have l3:li≠ro:=ne_of_none (by rw [upd_ne (Ne.symm p2),upd_same]) hro
  have l4:am≠ro:=ne_of_none (by rw [upd_ne (Ne.symm p1),upd_ne l1,upd_ne (Ne.symm p1),upd_same]) hro
  have hr0:H ro=none:=by rw [upd_ne (Ne.symm p3),upd_ne (Ne.symm l3),upd_ne (Ne.symm p3),upd_ne (Ne.symm l4)] at hro; exact hro
  walk_at "1"
  refine r_kSF (by rw [upd_ne p3,upd_same]) T.k_Account T.n_Account_row pl2 ?_
  refine k _ am li ro (fun b o e hb=>?_) hm hl0 hr0 l1 upd_same ?_ ?_ ?_
  ·rw [upd_ne hb,upd_ne (ne_of_none e hr0),upd_ne hb,upd_ne (ne_of_none e hl0),upd_ne hb,upd_ne (ne_of_none e hm)]
   exact e
  ·rw [upd_ne (Ne.symm p1),upd_ne l4,upd_ne (Ne.symm p1),upd_ne l1,upd_ne (Ne.symm p1),upd_same]
  ·rw [upd_ne (Ne.symm p2),upd_ne l3,upd_ne (Ne.symm p2),upd_same]
   rfl
  ·rw [upd_ne (Ne.symm p3),upd_same]
def spHouse (c:Cs):Sp:=fun vs H Q _=>∃ (p dx:Addr),vs=[.ref p]∧H p=some (.ins c.hou dx [])∧∀ (H':Hp) (pa pg:Addr),(∀ b o,H b=some o→b≠p→H' b=some o)→H pa=none→H pg=none→pa≠pg →
 H' p=some (.ins c.hou dx (fH pa pg))→H' pa=some (.dK [])→H' pg=some (.dK [])→Q .non H'
theorem mk_House (T:Txt K mg c):MkC P w K mg base "House" c.hou 1 ["self"] (spHouse c):=by
 refine T.i_House.mk sc_House_init (fun vs H Q E h=>?_) (fun f cdv A outer s H vs Q E hr h=>?_)
 ·obtain ⟨p,dx,rfl,_⟩:=h
  rfl
 ·obtain ⟨p,dx,rfl,hp,k⟩:=h
  have hu:=hu_of hr
  have nd:=sc_House_init.nd
  refine ⟨_,(pss_cons (ps_fld (pv 0) pe_dnewK rfl)
   (pss_one (ps_fld (pv 0) pe_dnewK rfl))),?_⟩
  try simp only [Cx.nox,Cx.wish,cxOf]
  walk_at "1"
  intro pa ha
  have p1:p≠pa:=ne_of_none hp ha
  walk_at "1"
  refine r_kSF (by rw [upd_ne p1]; exact hp) T.k_House T.n_House_accounts (by decide) ?_
  walk_at "1"
  intro pg hg
  have p2:p≠pg:=ne_of_none upd_same hg
  have l1:pa≠pg:=ne_of_none (by rw [upd_ne (Ne.symm p1),upd_same]) hg
  have hg0:H pg=none:=by rw [upd_ne (Ne.symm p2),upd_ne (Ne.symm l1)] at hg; exact hg
  walk_at "1"
  refine r_kSF (by rw [upd_ne p2,upd_same]) T.k_House T.n_House_groups pl1 ?_
  refine k _ pa pg (fun b o e hb=>?_) ha hg0 l1 upd_same ?_ ?_
  ·rw [upd_ne hb,upd_ne (ne_of_none e hg0),upd_ne hb,upd_ne (ne_of_none e ha)]
   exact e
  ·rw [upd_ne (Ne.symm p1),upd_ne l1,upd_ne (Ne.symm p1),upd_same]
  ·rw [upd_ne (Ne.symm p2),upd_same]
def spB1 (f:Int→Bool):Sp:=fun vs H Q _=>∃ n:Int,vs=[.int n]∧Q (.bl (f n)) H
theorem spB1_len {f:Int→Bool} (vs:List V) (H:Hp) (Q:VK) (E:XK) (h:spB1 f vs H Q E):vs.length=1:=by
 obtain ⟨n,rfl,_⟩:=h
 rfl
theorem fn_is_key (T:Txt K mg c):Fn P w K mg base "is_key" 1 ["number"] (spB1 keyed):=by
 refine T.f_is_key.fn sc_is_key spB1_len (fun f cdv A outer s H vs Q E hr h=>?_)
 obtain ⟨n,rfl,k⟩:=h
 have hu:=hu_of hr
 have nd:=sc_is_key.nd
 refine ⟨_,(pss_one (ps_ret (pe_chain op_le op_le pe_int (pv 0) (pe_gint T.c_GREATEST_KEY)))),?_⟩
 try simp only [Cx.nox,Cx.wish,cxOf]
 walk_at "1"
 exact r_le2 k
theorem fn_is_good (T:Txt K mg c):Fn P w K mg base "is_good" 1 ["number"] (spB1 goodly):=by
 refine T.f_is_good.fn sc_is_good spB1_len (fun f cdv A outer s H vs Q E hr h=>?_)
 obtain ⟨n,rfl,k⟩:=h
 have hu:=hu_of hr
 have nd:=sc_is_good.nd
 refine ⟨_,(pss_one (ps_ret (pe_cmpR op_in_seq (pv 0) (pe_gref T.c_GOODS) rfl))),?_⟩
 try simp only [Cx.nox,Cx.wish,cxOf]
 walk_at "1"
 refine ⟨_,_,rfl,.inr (T.t_GOODS H),rfl,rfl,?_⟩
 have e:inV (.int n) [.int 1,.int 2,.int 3,.int 4]=goodly n:=by
  show ((1:Int) == n || ((2:Int) == n || ((3:Int) == n || ((4:Int) == n || false))))=(decide (1≤n) && decide (n≤((4:Nat):Int)))
  rw [Bool.eq_iff_iff]
  simp only [Bool.or_eq_true,Bool.and_eq_true,decide_eq_true_eq,beq_iff_eq,Bool.false_eq_true,or_false]
  omega
 show Q (.bl (inV (.int n) [.int 1,.int 2,.int 3,.int 4])) H
 rw [e]
 exact k
theorem fn_is_amount (T:Txt K mg c):Fn P w K mg base "is_amount" 1 ["number"] (spB1 fun n=>within n 1 Vbchak.MOST):=by
 refine T.f_is_amount.fn sc_is_amount spB1_len (fun f cdv A outer s H vs Q E hr h=>?_)
 obtain ⟨n,rfl,k⟩:=h
 have hu:=hu_of hr
 have nd:=sc_is_amount.nd
 refine ⟨_,(pss_one (ps_ret (pe_chain op_le op_le pe_int (pv 0) (pe_gint T.c_GREATEST_AMOUNT)))),?_⟩
 try simp only [Cx.nox,Cx.wish,cxOf]
 walk_at "1"
 exact r_le2 k
theorem fn_is_limit (T:Txt K mg c):Fn P w K mg base "is_limit" 1 ["number"] (spB1 fun n=>within n 0 Vbchak.MOST):=by
 refine T.f_is_limit.fn sc_is_limit spB1_len (fun f cdv A outer s H vs Q E hr h=>?_)
 obtain ⟨n,rfl,k⟩:=h
 have hu:=hu_of hr
 have nd:=sc_is_limit.nd
 refine ⟨_,(pss_one (ps_ret (pe_chain op_le op_le pe_int (pv 0) (pe_gint T.c_GREATEST_AMOUNT)))),?_⟩
 try simp only [Cx.nox,Cx.wish,cxOf]
 walk_at "1"
 exact r_le2 k
theorem fn_is_place (T:Txt K mg c):Fn P w K mg base "is_place" 1 ["number"] (spB1 fun n=>within n 1 Vbchak.GROUPS):=by
 refine T.f_is_place.fn sc_is_place spB1_len (fun f cdv A outer s H vs Q E hr h=>?_)
 obtain ⟨n,rfl,k⟩:=h
 have hu:=hu_of hr
 have nd:=sc_is_place.nd
 refine ⟨_,(pss_one (ps_ret (pe_chain op_le op_le pe_int (pv 0) (pe_gint T.c_MOST_GROUPS)))),?_⟩
 try simp only [Cx.nox,Cx.wish,cxOf]
 walk_at "1"
 exact r_le2 k
end
theorem same_lock {H H':Hp} {d:Addr} {o:HO} (s:Same H H'):Same (upd H d o) (upd H' d o):=fun b u e=>by
 by_cases hb:b=d
 ·subst hb
  rw [upd_same] at e ⊢
  exact e
 ·rw [upd_ne hb] at e ⊢
  exact s b u e
theorem key_at {kvs:List (Key×V)} {ks:List Nat} (h:kvs.map (·.1)=ks.map kI) {j:Nat} {k:Key} {v:V} (e:kvs[j]?=some (k,v)):∃ n,ks[j]?=some n∧k=kI n:=by
 have:(kvs.map (·.1))[j]?=some k:=by rw [List.getElem?_map,e]; rfl
 rw [h] at this
 exact map_at this
theorem keys_len {kvs:List (Key×V)} {ks:List Nat} (h:kvs.map (·.1)=ks.map kI):kvs.length=ks.length:=by
 have:=congrArg List.length h
 rwa [List.length_map,List.length_map] at this
theorem not_taken {α:Type}:∀ {l:List α} {j:Nat} {x:α},l.Nodup→l[j]?=some x→¬ x∈l.take j
 | [],j,x,_,h=>by simp at h
 | a::l,0,x,_,_=>by simp
 | a::l,j + 1,x,nd,h=>by
  obtain ⟨n1,n2⟩:=List.nodup_cons.mp nd
  rw [List.take_succ_cons,List.mem_cons]
  rintro (e | m)
  ·subst e
   exact n1 (List.mem_of_getElem? h)
  ·exact not_taken n2 h m
theorem beg_at {X:List Nat}:∀ {row:List Nat} {i n:Nat},row.Nodup→row[i]?=some n→(n∈beginning X row↔((row.take i).all fun k=>X.contains k)=true∧n∈X)
 | [],i,n,_,h=>by simp at h
 | a::l,0,n,nd,h=>by
  have e:a=n:=Option.some.inj h
  subst e
  constructor
  ·intro m
   exact ⟨rfl,(beg_mem m).2⟩
  ·rintro ⟨_,m⟩
   unfold beginning
   rw [List.takeWhile_cons_of_pos (List.contains_iff_mem.mpr m)]
   exact List.mem_cons_self ..
 | a::l,i + 1,n,nd,h=>by
  obtain ⟨n1,n2⟩:=List.nodup_cons.mp nd
  have ih:=beg_at (X:=X) (row:=l) (i:=i) (n:=n) n2 h
  have hne:n≠a:=fun e=>n1 (e ▸ List.mem_of_getElem? h)
  rw [List.take_succ_cons,List.all_cons,Bool.and_eq_true]
  by_cases ha:a∈X
  ·have hc:X.contains a=true:=List.contains_iff_mem.mpr ha
   unfold beginning at ih ⊢
   rw [List.takeWhile_cons_of_pos hc,List.mem_cons]
   constructor
   ·rintro (e | m)
    ·exact absurd e hne
    ·exact ⟨⟨hc,(ih.mp m).1⟩,(ih.mp m).2⟩
   ·rintro ⟨⟨_,q⟩,m⟩
    exact .inr (ih.mpr ⟨q,m⟩)
  ·have hc:¬ X.contains a=true:=fun e=>ha (List.contains_iff_mem.mp e)
   unfold beginning
   rw [List.takeWhile_cons_of_neg hc]
   constructor
   ·intro m
    cases m
   ·rintro ⟨⟨q,_⟩,_⟩
    exact absurd q hc
section
variable {P:Program} {w:World} {K:PySem.W.Frag} {mg:Str→Option Value} {base:Heap} {c:Cs}
def spLess:Sp:=fun vs H Q _=>∃ (d e:Addr) (ks bs:List Nat) (ke:List (Key×V)),vs=[.ref d,.ref e]∧KeysAt H d ks∧Rd H e (.dK ke)∧ke.map (·.1)=bs.map kI∧ks.Nodup∧ks.length≤1000 ∧
 ∀ H' r,Same H H'→H r=none→SetAt H' r (ks.filter fun k=>!bs.contains k)→Q (.ref r) H'
theorem fn_less (T:Txt K mg c):Fn P w K mg base "less" 1 ["chosen","away"] spLess:=by
 refine T.f_less.fn sc_less (fun vs H Q E h=>?_) (fun f cdv A outer s H vs Q E hr h=>?_)
 ·obtain ⟨d,e,ks,bs,ke,rfl,_⟩:=h
  rfl
 obtain ⟨d,e,ks,bs,ke,rfl,⟨kd,hd,hk⟩,he,hb,hn,hz,k⟩:=h
 have hu:=hu_of hr
 have nd:=sc_less.nd
 refine ⟨_,(pss_cons (ps_set (i:=2) nd rfl (Or.inl rfl) pe_dnewK)
   (pss_cons (ps_lock (ps_for PassesOwn.never rfl (pi_keys (pv 0)) (pg_name (i:=3) nd rfl (Or.inl rfl)) (pss_one (ps_if (pt_cmp (pc_dnotin hu (pv 3) (pv 1)) rfl) (pss_one (ps_dput hu (pv 2) (pv 3) pe_bl rfl)) pss_nil))))
   (pss_one (ps_ret (pv 2))))),?_⟩
 try simp only [Cx.nox,Cx.wish,cxOf]
 walk_at "1"
 intro r hr0
 walk_at "1"
 have hd1:upd H r (.dK []) d=some (.dK kd):=same_new hr0 _ _ hd
 have hrd:r≠d:=Ne.symm (ne_of_none hd hr0)
 refine r_for_keys hd1 (fun R H' q=>r_var rfl q) (fun od j σ' H'=>∃ v,σ'=[some (.ref d),some (.ref e),some (.ref r),v]∧H' r=some (.dK (sdk ((ks.take j).filter fun k=>!bs.contains k)))∧Same (upd H d (.frz od (.dK kd))) H')
  (fun od=>⟨none,rfl,?_,same_lock (same_new hr0)⟩) (fun od j σ' H' ⟨v,_,_,s1⟩=>s1 _ _ upd_same) ?_ ?_
 ·rw [upd_ne hrd,upd_same]
  rfl
 ·rintro od j k' v' σ' H' D2 hkv ⟨v,rfl,hr,s1⟩ hD
  obtain ⟨n,hn',rfl⟩:=key_at hk hkv
  refine r_gn ?_
  walk_at "1"
  refine r_kDN (j:=(n:Int)) (rd_same s1 (rd_lock hd trivial he)) ?_
  walk_at "1"
  rw [show (valV ke (Sum.inl (n:Int))).isSome=bs.contains n from keys_in hb n]
  have hnin:¬ n∈ks.take j:=not_taken hn hn'
  by_cases hc:bs.contains n=true
  ·rw [hc]
   refine iteF ?_
   walk_at "1"
   refine hD _ _ ⟨_,rfl,?_,s1⟩
   rw [take_snoc hn',List.filter_append,List.filter_cons,if_neg (by rw [hc]; decide),List.filter_nil,List.append_nil]
   exact hr
  ·have hc':bs.contains n=false:=by simpa using hc
   rw [hc']
   refine iteT ?_
   walk_at "1"
   have hlen:((ks.take j).filter fun k=>!bs.contains k).length≤1000:=by
    have h1:=List.length_filter_le (fun k=>!bs.contains k) (ks.take j)
    have h2:(ks.take j).length≤ks.length:=by rw [List.length_take]; exact Nat.min_le_right _ _
    omega
   refine r_kDP (j:=(n:Int)) hr (by rw [sdk_len]; exact small1000 hlen) ?_
   refine hD _ _ ⟨_,rfl,?_,same_upd s1 (by rw [upd_ne hrd]; exact hr0)⟩
   rw [upd_same,show (Sum.inl (n:Int):Key)=kI n from rfl,sdk_new (fun m=>hnin (List.mem_filter.mp m).1),take_snoc hn',List.filter_append,List.filter_cons,if_pos (by rw [hc']; rfl),List.filter_nil]
 ·rintro od σ' H' ⟨v,rfl,hr,s1⟩
  walk_at "1"
  refine k _ r (same_unlock hd s1) hr0 ?_
  rw [keys_len hk,List.take_length] at hr
  unfold SetAt
  rw [upd_ne hrd]
  exact hr
end
theorem take_len_le {α:Type} (l:List α) (j:Nat):(l.take j).length≤l.length:=by
 rw [List.length_take]
 exact Nat.min_le_right _ _
section
variable {P:Program} {w:World} {K:PySem.W.Frag} {mg:Str→Option Value} {base:Heap} {c:Cs}
def spTold (K:PySem.W.Frag):Sp:=fun vs H Q _=>∃ (a:Addr) (ks:List Nat),vs=[.ref a]∧SqL K H a (ks.map vI)∧ks.Nodup∧ks.length≤1000∧∀ H' r,Same H H'→H r=none→SetAt H' r ks→Q (.ref r) H'
theorem fn_groups_told (T:Txt K mg c):Fn P w K mg base "groups_told" 1 ["keys"] (spTold K):=by
 refine T.f_groups_told.fn sc_groups_told (fun vs H Q E h=>?_) (fun f cdv A outer s H vs Q E hr h=>?_)
 ·obtain ⟨a,ks,rfl,_⟩:=h
  rfl
 obtain ⟨a,ks,rfl,hS,hn,hz,k⟩:=h
 have hu:=hu_of hr
 have nd:=sc_groups_told.nd
 refine ⟨_,(pss_cons (ps_set (i:=1) nd rfl (Or.inl rfl) pe_dnewK)
   (pss_cons (ps_for PassesOwn.never rfl (pi_list (pv 0)) (pg_name (i:=2) nd rfl (Or.inl rfl)) (pss_one (ps_dput hu (pv 1) (pv 2) pe_bl rfl)))
   (pss_one (ps_ret (pv 1))))),?_⟩
 try simp only [Cx.nox,Cx.wish,cxOf]
 walk_at "1"
 intro r hr0
 walk_at "1"
 refine r_kFor (xs:=ks.map vI) (fun j σ' H'=>∃ v,σ'=[some (.ref a),some (.ref r),v]∧H' r=some (.dK (sdk (ks.take j)))∧Same H H') ⟨none,rfl,upd_same,same_new hr0⟩ (fun j σ' H' ⟨v,_,_,s1⟩=>s1.seq hS) ?_ ?_
 ·rintro j x σ' H' D2 hx ⟨v,rfl,hr,s1⟩ hD
  obtain ⟨n,hn',rfl⟩:=map_at hx
  walk_at "1"
  refine r_kDP (j:=(n:Int)) hr (by rw [sdk_len]; exact small1000 (Nat.le_trans (take_len_le _ _) hz)) ?_
  refine hD _ _ ⟨_,rfl,?_,same_upd s1 hr0⟩
  rw [upd_same,show (Sum.inl (n:Int):Key)=kI n from rfl,sdk_new (not_taken hn hn'),take_snoc hn']
 ·rintro σ' H' ⟨v,rfl,hr,s1⟩
  walk_at "1"
  rw [List.length_map,List.take_length] at hr
  exact k _ r s1 hr0 hr
def spFree (c:Cs):Sp:=fun vs H Q _=>∃ (p:Addr) (L:Lay) (s:State),vs=[.ref p]∧HX c H p L s∧∀ H' r fs,Same H H'→H r=none→SetAt H' r fs→fs.Perm (free s)→Q (.ref r) H'
theorem fn_free_groups (T:Txt K mg c):Fn P w K mg base "free_groups" 1 ["house"] (spFree c):=by
 refine T.f_free_groups.fn sc_free_groups (fun vs H Q E h=>?_) (fun f cdv A outer sh H vs Q E hr h=>?_)
 ·obtain ⟨p,L,s,rfl,_⟩:=h
  rfl
 obtain ⟨p,L,s,rfl,hx,k⟩:=h
 have hu:=hu_of hr
 have nd:=sc_free_groups.nd
 refine ⟨_,(pss_cons (ps_set (i:=1) nd rfl (Or.inl rfl) pe_dnewK)
   (pss_cons (ps_lock (ps_for PassesOwn.never rfl (pi_items (pe_fld (pv 0) rfl)) (pg_tup rfl (pgs_cons (pg_name (i:=2) nd rfl (Or.inl rfl)) (pgs_cons (pg_name (i:=3) nd rfl (Or.inl rfl)) pgs_nil))) (pss_one (ps_if (pt_cmpR op_eq (pe_fld (pv 3) rfl) pe_int (nomark _)) (pss_one (ps_dput hu (pv 1) (pv 2) pe_bl rfl)) pss_nil))))
   (pss_one (ps_ret (pv 1))))),?_⟩
 try simp only [Cx.nox,Cx.wish,cxOf]
 walk_at "1"
 intro r hr0
 walk_at "1"
 have hd1:upd H r (.dK []) L.pg=some (.dK L.dg):=same_new hr0 _ _ hx.eg
 have hrd:r≠L.pg:=Ne.symm (ne_of_none hx.eg hr0)
 obtain ⟨dx,hp⟩:=hx.at_.o
 refine r_for_items (i:=2) (j:=3) hd1 (fun od R q=>r_fld (r_var rfl (r_kF (ins_lock hd1 (same_new hr0 _ _ hp)) T.k_House T.n_House_groups lH_g q)))
  (fun od j σ' H'=>∃ v1 v2,σ'=[some (.ref p),some (.ref r),v1,v2]∧H' r=some (.dK (sdk (((L.gs.take j).filter fun x=>!x.grp.held).map fun x=>x.grp.key)))∧Same (upd H L.pg (.frz od (.dK L.dg))) H')
  (fun od=>⟨none,none,rfl,by rw [upd_ne hrd,upd_same]; rfl,same_lock (same_new hr0)⟩) (fun od j σ' H' ⟨_,_,_,_,s1⟩=>s1 _ _ upd_same) ?_ ?_
 ·rintro od j k' v' T' σ' H' D2 hkv ⟨v1,v2,rfl,hr,s1⟩ hT hD
  obtain ⟨x,hxj,e⟩:=map_at (f:=fun x:GrpL=>(kI x.grp.key,V.ref x.g)) hkv
  cases e
  have hm:x∈L.gs:=List.mem_of_getElem? hxj
  have ha:=(((hx.at_.lock hx.eg (od:=od)).same s1).same (same_new (o:=.tup [kV (kI x.grp.key),V.ref x.g]) hT)).gs x hm
  obtain ⟨dg,hg⟩:=ha.o
  walk_at "1"
  refine r_kF hg T.k_Group T.n_Group_held lG_h ?_
  walk_at "1"
  have rT:r≠T':=ne_of_none hr hT
  have rn:upd H L.pg (.frz od (.dK L.dg)) r=none:=by rw [upd_ne hrd]; exact hr0
  have rest:∀ {H2:Hp},H2 r=H' r∨True→True:=fun _=>trivial
  have s2:Same (upd H L.pg (.frz od (.dK L.dg))) (upd H' T' (.tup [kV (kI x.grp.key),V.ref x.g])):=s1.trans (same_new hT)
  by_cases hh:x.grp.held=true
  ·rw [hh]
   refine iteF ?_
   walk_at "1"
   refine hD _ _ ⟨_,_,rfl,?_,s2⟩
   rw [upd_ne rT,take_snoc hxj,List.filter_append,List.filter_cons,if_neg (by rw [hh]; decide),List.filter_nil,List.append_nil]
   exact hr
  ·have hh':x.grp.held=false:=by simpa using hh
   rw [hh']
   refine iteT ?_
   walk_at "1"
   have hlen:(((L.gs.take j).filter fun x=>!x.grp.held).map fun x=>x.grp.key).length≤1000:=by
    rw [List.length_map]
    have h1:=List.length_filter_le (fun x:GrpL=>!x.grp.held) (L.gs.take j)
    have h2:=take_len_le L.gs j
    have h3:L.gs.length≤24:=by
     have:=hx.r.good.g24
     rw [← hx.r.pg.length_eq] at this
     simpa [Lay.st] using this
    omega
   refine r_kDP (j:=(x.grp.key:Int)) (by rw [upd_ne rT]; exact hr) (by rw [sdk_len]; exact small1000 hlen) ?_
   refine hD _ _ ⟨_,_,rfl,?_,same_upd s2 rn⟩
   have hnin:¬ x.grp.key∈((L.gs.take j).filter fun x=>!x.grp.held).map fun x=>x.grp.key:=fun m=>by
    obtain ⟨y,hy,e⟩:=List.mem_map.mp m
    have hy':=(List.mem_filter.mp hy).1
    have:(L.gs.map fun x=>x.grp.key)[j]?=some x.grp.key:=by rw [List.getElem?_map,hxj]; rfl
    refine not_taken (lay_gn hx.r) this ?_
    rw [← List.map_take]
    exact List.mem_map.mpr ⟨y,hy',e⟩
   rw [upd_same,show (Sum.inl (x.grp.key:Int):Key)=kI x.grp.key from rfl,sdk_new hnin,take_snoc hxj,List.filter_append,List.filter_cons,if_pos (by rw [hh']; rfl),List.filter_nil,List.map_append]
   rfl
 ·rintro od σ' H' ⟨v1,v2,rfl,hr,s1⟩
  walk_at "1"
  have hl:L.dg.length=L.gs.length:=List.length_map ..
  rw [hl,List.take_length] at hr
  refine k _ r _ (same_unlock hx.eg s1) hr0 (by unfold SetAt; rw [upd_ne hrd]; exact hr) ?_
  have:=free_perm hx.r
  unfold free Lay.st at this
  rw [List.filter_map,List.map_map] at this
  exact this
def spTouch (c:Cs):Sp:=fun vs H Q _=>∃ (p d:Addr) (L:Lay) (s:State) (a:Account) (ks:List Nat) (kd:List (Key×V)),vs=[.ref p,vI a.key,.ref d]∧HX c H p L s∧a∈s.accounts∧Rd H d (.dK kd)∧kd.map (·.1)=ks.map kI ∧
 ∀ H' r,Same H H'→H r=none→H' r=some (.lst ((a.row.filter fun k=>ks.contains k).map vI))→Q (.ref r) H'
theorem row_len {s:State} (G:Good s) {a:Account} (ha:a∈s.accounts):a.row.length≤24:=by
 have h1:a.row.length≤(s.groups.map (·.key)).length:=by
  refine (G.acc a ha).nd.length_le_of_subset ?_
  intro k hk
  obtain ⟨g,hg,e,_⟩:=(G.row a ha k).mp hk
  exact List.mem_map.mpr ⟨g,hg,e⟩
 rw [List.length_map] at h1
 exact Nat.le_trans h1 G.g24
end
def keyV:V→Key
 | .int i=>Sum.inl i
 | _=>Sum.inl 0
theorem cutOnce_filter {s:State} {X bs:List Nat} (h:∀ k,k∈bs↔k∈X∧¬ k∈cutOnce s X):(X.filter fun k=>!bs.contains k)=cutOnce s X:=by
 unfold cutOnce
 refine List.filter_congr fun k hk=>?_
 rw [Bool.eq_iff_iff]
 have e:(s.accounts.all fun a=>!a.row.contains k || (beginning X a.row).contains k)=true↔k∈cutOnce s X:=by
  unfold cutOnce
  rw [List.mem_filter]
  exact ⟨fun q=>⟨hk,q⟩,fun q=>q.2⟩
 rw [e,Bool.not_eq_true',← Bool.not_eq_true,List.contains_iff_mem,h]
 constructor
 ·intro q
  exact Classical.byContradiction fun z=>q ⟨hk,z⟩
 ·intro q z
  exact z.2 q
section
variable {P:Program} {w:World} {K:PySem.W.Frag} {mg:Str→Option Value} {base:Heap} {c:Cs}
theorem fn_touching_groups (T:Txt K mg c):Fn P w K mg base "touching_groups" 1 ["house","account_key","chosen"] (spTouch c):=by
 refine T.f_touching_groups.fn sc_touching_groups (fun vs H Q E h=>?_) (fun f cdv A outer sh H vs Q E hr h=>?_)
 ·obtain ⟨p,d,L,s,a,ks,kd,rfl,_⟩:=h
  rfl
 obtain ⟨p,d,L,s,a,ks,kd,rfl,hx,ha,hd,hk,k⟩:=h
 have hu:=hu_of hr
 have nd:=sc_touching_groups.nd
 refine ⟨_,(pss_one (ps_ret (pe_lc rfl nd (pi_list (pe_fld (pe_dget hu (pe_fld (pv 0) rfl) (pv 1) (fun _ _=>rfl)) rfl)) (blkOk_by (own:=[("key",3)]) (by simp only [Cx.nox,Cx.wish,cxOf,envOfC]; decide +kernel)) (fun _ _ _ _ _=>pg_name (i:=3) nd rfl (Or.inl rfl)) (fun _ _ _ _ _=>(pts_one (pt_cmp (pc_din hu (pv 3) (pv 2)) rfl))) (fun _ _ _ _ _=>(pv 3))))),?_⟩
 try simp only [Cx.nox,Cx.wish,cxOf]
 walk_at "1"
 obtain ⟨x,hxm,rfl⟩:=lay_acc hx.r ha
 obtain ⟨dx,hp⟩:=hx.at_.o
 have hA:=hx.at_.as x hxm
 obtain ⟨da,hao⟩:=hA.o
 refine r_lcl (i:=3) (a:=x.ro) (xs:=x.acc.row.map vI) (fun v=>(valV kd (keyV v)).isSome) (fun v=>v)
  (fun R q=>r_fld (r_dget (r_fld (r_var rfl (r_kF hp T.k_House T.n_House_accounts lH_a (r_var rfl (r_kDG (j:=(x.acc.key:Int)) hx.at_.da (da_at hx.r hxm) (r_kF hao T.k_Account T.n_Account_row lA_r q))))))))
  (.inl hA.ro) (by rw [List.length_map]; have:=row_len hx.r.good ha; omega) (fun v hv H' Qb s1 q=>?_) (fun v hv _ H' Q' s1 q=>r_var rfl q) (fun D hD=>?_)
 ·obtain ⟨n,hn,rfl⟩:=List.mem_map.mp hv
  exact r_tB (r_din (r_var rfl (r_var rfl (r_kDI (j:=(n:Int)) (rd_same s1 hd) (r_kT q)))))
 ·refine k _ D (same_new hD) hD ?_
  rw [upd_same,List.map_id'',List.filter_map]
  ·refine congrArg (fun l=>some (HO.lst (List.map vI l))) (List.filter_congr fun n _=>?_)
   exact keys_in hk n
  ·intro v
   rfl
def spBlock (c:Cs):Sp:=fun vs H Q _=>∃ (p d:Addr) (L:Lay) (s:State) (ks:List Nat),vs=[.ref p,.ref d]∧HX c H p L s∧KeysAt H d ks∧∀ H' r bs,Same H H'→H r=none→SetAt H' r bs→bs.Nodup→(∀ k,k∈bs↔k∈ks∧¬ k∈cutOnce s ks)→Q (.ref r) H'
theorem fn_blocked_groups (T:Txt K mg c):Fn P w K mg base "blocked_groups" 1 ["house","chosen"] (spBlock c):=by
 refine T.f_blocked_groups.fn sc_blocked_groups (fun vs H Q E h=>?_) (fun f cdv A outer sh H vs Q E hr h=>?_)
 ·obtain ⟨p,d,L,s,ks,rfl,_⟩:=h
  rfl
 obtain ⟨p,d,L,s,ks,rfl,hx,⟨kd,hd,hk⟩,k⟩:=h
 have hu:=hu_of hr
 have nd:=sc_blocked_groups.nd
 refine ⟨_,(pss_cons (ps_set (i:=2) nd rfl (Or.inl rfl) pe_dnewK)
   (pss_cons (ps_lock (ps_for PassesOwn.never rfl (pi_values (pe_fld (pv 0) rfl)) (pg_name (i:=3) nd rfl (Or.inl rfl)) (pss_cons (ps_set (i:=4) nd rfl (Or.inl rfl) pe_bl)
   (pss_one (ps_for PassesOwn.never rfl (pi_list (pe_fld (pv 3) rfl)) (pg_name (i:=5) nd rfl (Or.inl rfl)) (pss_one (ps_if (pt_cmp (pc_dnotin hu (pv 5) (pv 1)) rfl) (pss_one (ps_set (i:=4) nd rfl (Or.inl rfl) pe_bl)) (pss_one (ps_if (pt_not (pt_val (pv 4))) (pss_one (ps_dput hu (pv 2) (pv 5) pe_bl rfl)) pss_nil)))))))))
   (pss_one (ps_ret (pv 2))))),?_⟩
 try simp only [Cx.nox,Cx.wish,cxOf]
 walk_at "1"
 intro r hr0
 walk_at "1"
 have hd1:upd H r (.dK []) L.pa=some (.dK L.da):=same_new hr0 _ _ hx.ea
 have hrd:r≠L.pa:=Ne.symm (ne_of_none hx.ea hr0)
 obtain ⟨dx,hp⟩:=hx.at_.o
 have glen:∀ bs:List Nat,bs.Nodup→(∀ k,k∈bs→∃ a,a∈s.accounts∧k∈a.row)→bs.length≤24:=fun bs hn h=>by
  have h1:bs.length≤(s.groups.map (·.key)).length:=by
   refine hn.length_le_of_subset ?_
   intro k hk
   obtain ⟨a,ha,hka⟩:=h k hk
   obtain ⟨g,hg,e,_⟩:=(hx.r.good.row a ha k).mp hka
   exact List.mem_map.mpr ⟨g,hg,e⟩
  rw [List.length_map] at h1
  exact Nat.le_trans h1 hx.r.good.g24
 refine r_for_vals hd1 (fun od R q=>r_fld (r_var rfl (r_kF (ins_lock hd1 (same_new hr0 _ _ hp)) T.k_House T.n_House_accounts lH_a q)))
  (fun od j σ' H'=>∃ v1 v2 v3 bs,σ'=[some (.ref p),some (.ref d),some (.ref r),v1,v2,v3]∧H' r=some (.dK (sdk bs))∧bs.Nodup∧(∀ n,n∈bs↔n∈ks∧∃ x,x∈L.as.take j∧n∈x.acc.row∧¬ n∈beginning ks x.acc.row)∧Same (upd H L.pa (.frz od (.dK L.da))) H')
  (fun od=>⟨none,none,none,[],rfl,by rw [upd_ne hrd,upd_same]; rfl,List.nodup_nil,fun n=>⟨fun h=>(by cases h),fun ⟨_,x,h,_⟩=>(by cases h)⟩,same_lock (same_new hr0)⟩) (fun od j σ' H' ⟨_,_,_,_,_,_,_,_,s1⟩=>s1 _ _ upd_same) ?_ ?_
 ·rintro od j k' v' σ' H' D2 hkv ⟨v1,v2,v3,bs,rfl,hr,hbn,hb,s1⟩ hD
  obtain ⟨x,hxj,e⟩:=map_at (f:=fun x:AccL=>(kI x.acc.key,V.ref x.a)) hkv
  cases e
  have hm:x∈L.as:=List.mem_of_getElem? hxj
  have hacc:x.acc∈s.accounts:=acc_lay hx.r hm
  have hA0:=(hx.at_.lock hx.ea (od:=od)).as x hm
  have hA:=hA0.same s1
  obtain ⟨da,hao⟩:=hA.o
  have rn:upd H L.pa (.frz od (.dK L.da)) r=none:=by rw [upd_ne hrd]; exact hr0
  walk_at "1"
  refine r_kF hao T.k_Account T.n_Account_row lA_r ?_
  refine r_kFor (xs:=x.acc.row.map vI) (fun i σ2 H2=>∃ v5 bs',σ2=[some (.ref p),some (.ref d),some (.ref r),some (.ref x.a),some (.bl ((x.acc.row.take i).all fun n=>ks.contains n)),v5]∧H2 r=some (.dK (sdk bs'))∧bs'.Nodup ∧
    (∀ n,n∈bs'↔n∈bs∨(n∈x.acc.row.take i∧n∈ks∧¬ n∈beginning ks x.acc.row))∧Same (upd H L.pa (.frz od (.dK L.da))) H2)
   ⟨v3,bs,rfl,hr,hbn,fun n=>⟨.inl,fun h=>h.elim id fun h=>(by cases h.1)⟩,s1⟩ (fun i σ2 H2 ⟨_,_,_,_,_,_,s2⟩=>s2.seq (.inl hA0.ro)) ?_ ?_
  ·rintro i y σ2 H2 D3 hy ⟨v5,bs',rfl,hr2,hbn2,hb2,s2⟩ hD3
   obtain ⟨n,hn,rfl⟩:=map_at hy
   have nd':=(hx.r.good.acc x.acc hacc).nd
   have hbeg:=beg_at (X:=ks) nd' hn
   walk_at "1"
   refine r_kDN (j:=(n:Int)) (rd_same s2 (rd_lock hx.ea trivial (.inl hd))) ?_
   walk_at "1"
   rw [show (valV kd (Sum.inl (n:Int))).isSome=ks.contains n from keys_in hk n]
   by_cases hc:n∈ks
   ·have hc':ks.contains n=true:=List.contains_iff_mem.mpr hc
    rw [hc']
    refine iteF ?_
    walk_at "1"
    cases hall:(x.acc.row.take i).all fun n=>ks.contains n with
    | true =>
     refine iteF ?_
     walk_at "1"
     have hfree:(x.acc.row.take (i + 1)).all (fun n=>ks.contains n)=true:=by rw [take_snoc hn,List.all_append,hall,List.all_cons,hc']; rfl
     refine hD3 _ _ ⟨some (vI n),bs',by rw [hfree]; rfl,hr2,hbn2,fun m=>?_,s2⟩
     rw [hb2 m,take_snoc hn,List.mem_append,List.mem_singleton]
     constructor
     ·rintro (h | h)
      ·exact .inl h
      ·exact .inr ⟨.inl h.1,h.2⟩
     ·rintro (h | ⟨h | rfl,h2⟩)
      ·exact .inl h
      ·exact .inr ⟨h,h2⟩
      ·exact absurd (hbeg.mpr ⟨hall,hc⟩) h2.2
    | false =>
     refine iteT ?_
     walk_at "1"
     have hnb:¬ n∈beginning ks x.acc.row:=fun z=>by
      have:=(hbeg.mp z).1
      rw [hall] at this
      cases this
     have hlen:=glen bs' hbn2 (fun m hm'=>by
      rcases (hb2 m).mp hm' with h | h
      ·obtain ⟨_,y,hy,hr',_⟩:=(hb m).mp h
       exact ⟨y.acc,acc_lay hx.r (List.mem_of_mem_take hy),hr'⟩
      ·exact ⟨x.acc,hacc,List.mem_of_mem_take h.1⟩)
     refine r_kDP (j:=(n:Int)) hr2 (by rw [sdk_len]; exact small1000 (by omega)) ?_
     have mem_iff:∀ m,(m∈bs'∨m=n)↔(m∈bs∨(m∈x.acc.row.take (i + 1)∧m∈ks∧¬ m∈beginning ks x.acc.row)):=fun m=>by
      rw [hb2 m,take_snoc hn,List.mem_append,List.mem_singleton]
      constructor
      ·rintro ((h | h) | rfl)
       ·exact .inl h
       ·exact .inr ⟨.inl h.1,h.2⟩
       ·exact .inr ⟨.inr rfl,hc,hnb⟩
      ·rintro (h | ⟨h | rfl,h2⟩)
       ·exact .inl (.inl h)
       ·exact .inl (.inr ⟨h,h2⟩)
       ·exact .inr rfl
     have hfree:(x.acc.row.take (i + 1)).all (fun n=>ks.contains n)=false:=by rw [take_snoc hn,List.all_append,hall]; rfl
     by_cases hin:n∈bs'
     ·refine hD3 _ _ ⟨some (vI n),bs',by rw [hfree]; rfl,by rw [upd_same,show (Sum.inl (n:Int):Key)=kI n from rfl,sdk_old hin],hbn2,fun m=>?_,same_upd s2 rn⟩
      rw [← mem_iff m]
      exact ⟨.inl,fun h=>h.elim id fun e=>e ▸ hin⟩
     ·refine hD3 _ _ ⟨some (vI n),bs'++[n],by rw [hfree]; rfl,by rw [upd_same,show (Sum.inl (n:Int):Key)=kI n from rfl,sdk_new hin],nd_snoc hbn2 hin,fun m=>?_,same_upd s2 rn⟩
      rw [← mem_iff m,List.mem_append,List.mem_singleton]
   ·have hc':ks.contains n=false:=by
     rw [← Bool.not_eq_true,List.contains_iff_mem]
     exact hc
    rw [hc']
    refine iteT ?_
    walk_at "1"
    have hfree:(x.acc.row.take (i + 1)).all (fun n=>ks.contains n)=false:=by rw [take_snoc hn,List.all_append,List.all_cons,hc',Bool.false_and,Bool.and_false]
    refine hD3 _ _ ⟨some (vI n),bs',by rw [hfree]; rfl,hr2,hbn2,fun m=>?_,s2⟩
    rw [hb2 m,take_snoc hn,List.mem_append,List.mem_singleton]
    constructor
    ·rintro (h | h)
     ·exact .inl h
     ·exact .inr ⟨.inl h.1,h.2⟩
    ·rintro (h | ⟨h | rfl,h2⟩)
     ·exact .inl h
     ·exact .inr ⟨h,h2⟩
     ·exact absurd h2.1 hc
  ·rintro σ2 H2 ⟨v5,bs',rfl,hr2,hbn2,hb2,s2⟩
   rw [List.length_map,List.take_length] at hb2
   refine hD _ _ ⟨_,_,_,bs',rfl,hr2,hbn2,fun n=>?_,s2⟩
   rw [hb2 n,hb n,take_snoc hxj]
   constructor
   ·rintro (⟨h1,y,hy,h2⟩ | ⟨h1,h2,h3⟩)
    ·exact ⟨h1,y,List.mem_append_left _ hy,h2⟩
    ·exact ⟨h2,x,List.mem_append_right _ (List.mem_singleton.mpr rfl),h1,h3⟩
   ·rintro ⟨h1,y,hy,h2⟩
    rcases List.mem_append.mp hy with hy | hy
    ·exact .inl ⟨h1,y,hy,h2⟩
    ·rw [List.mem_singleton] at hy
     subst hy
     exact .inr ⟨h2.1,h1,h2.2⟩
 ·rintro od σ' H' ⟨v1,v2,v3,bs,rfl,hr,hbn,hb,s1⟩
  walk_at "1"
  have hl:L.da.length=L.as.length:=List.length_map ..
  rw [hl,List.take_length] at hb
  refine k _ r bs (same_unlock hx.ea s1) hr0 (by unfold SetAt; rw [upd_ne hrd]; exact hr) hbn fun n=>?_
  rw [hb n]
  refine and_congr_right fun hn=>?_
  rw [cutOnce_mem]
  constructor
  ·rintro ⟨x,hx1,h1,h2⟩ ⟨_,h3⟩
   exact h2 (h3 x.acc (acc_lay hx.r hx1) h1)
  ·intro h
   refine Classical.byContradiction fun hno=>h ⟨hn,fun a ha hr'=>?_⟩
   refine Classical.byContradiction fun hb'=>hno ?_
   obtain ⟨x,hx1,rfl⟩:=lay_acc hx.r ha
   exact ⟨x,hx1,hr',hb'⟩
def spLessB (c:Cs):Sp:=fun vs H Q _=>∃ (p d:Addr) (L:Lay) (s:State) (ks:List Nat),vs=[.ref p,.ref d]∧HX c H p L s∧SetAt H d ks∧ks.Nodup∧ks.length≤1000∧∀ H' r,Same H H'→(r=d∨H r=none)→SetAt H' r (closed s ks)→Q (.ref r) H'
theorem fn_less_blocked (T:Txt K mg c):Fn P w K mg base "less_blocked" 2 ["house","chosen"] (spLessB c):=by
 refine T.f_less_blocked.fn sc_less_blocked (fun vs H Q E h=>?_) (fun f cdv A outer sh H vs Q E hr h=>?_)
 ·obtain ⟨p,d,L,s,ks,rfl,_⟩:=h
  rfl
 obtain ⟨p,d,L,s,ks,rfl,hx,hd,hn,hz,k⟩:=h
 have hu:=hu_of hr
 have nd:=sc_less_blocked.nd
 refine ⟨_,(pss_cons (ps_set (i:=2) nd rfl (Or.inl rfl) (pv 1))
   (pss_cons (ps_set (i:=3) nd rfl (Or.inl rfl) (pe_fn (fn_blocked_groups T) (hr.mono (by decide)) rfl (pa_cons (pv 0) (pa_cons (pv 2) pa_nil))))
   (pss_cons (ps_while PassesOwn.never (pt_cmpR op_gt (pe_callB call_lenD rfl T.b_len boot_len (pa_cons (pv 3) pa_nil)) pe_int (nomark _)) (pss_cons (ps_set (i:=2) nd rfl (Or.inl rfl) (pe_fn (fn_less T) (hr.mono (by decide)) rfl (pa_cons (pv 2) (pa_cons (pv 3) pa_nil))))
   (pss_one (ps_set (i:=3) nd rfl (Or.inl rfl) (pe_fn (fn_blocked_groups T) (hr.mono (by decide)) rfl (pa_cons (pv 0) (pa_cons (pv 2) pa_nil)))))))
   (pss_one (ps_ret (pv 2)))))),?_⟩
 try simp only [Cx.nox,Cx.wish,cxOf]
 walk_at "1"
 refine ⟨p,d,L,s,ks,rfl,hx,hd.keys,fun H1 e bs s1 he0 he hbn hb=>?_⟩
 walk_at "1"
 refine ⟨fun m σ' H'=>∃ X r e bs,m=X.length∧σ'=[some (.ref p),some (.ref d),some (.ref r),some (.ref e)]∧SetAt H' r X∧SetAt H' e bs∧X.Nodup∧X.length≤ks.length∧(∀ k,k∈bs↔k∈X∧¬ k∈cutOnce s X)∧closed s X=closed s ks∧(r=d∨H r=none)∧Same H H',
  ⟨_,ks,d,e,bs,rfl,rfl,s1 _ _ hd,he,hn,Nat.le_refl _,hb,rfl,.inl rfl,s1⟩,?_⟩
 rintro m σ' H' ⟨X,r,e,bs,rfl,rfl,hr',he',hXn,hXl,hb',hcl,hfr,s2⟩
 walk_at "1"
 refine ⟨e,_,rfl,he',?_⟩
 walk_at "1"
 rw [sdk_len]
 cases bs with
 | nil =>
  refine iteF ?_
  walk_at "1"
  refine k _ r s2 hfr ?_
  rw [← hcl,closed_step]
  have e1:cutOnce s X=X:=by
   rw [← cutOnce_filter hb']
   exact List.filter_eq_self.mpr fun k _=>rfl
  rw [e1,if_pos rfl]
  exact hr'
 | cons b0 bs0 =>
  refine ite2 (fun _=>?_) (fun hno=>absurd (by rw [decide_eq_true_eq,List.length_cons]; omega) hno)
  refine ⟨_,fun _ _ q=>q,?_⟩
  walk_at "1"
  refine ⟨r,e,X,b0::bs0,_,rfl,hr'.keys,.inl he',sdk_keys _,hXn,by omega,fun H3 r3 s3 hr30 hr3=>?_⟩
  rw [cutOnce_filter hb'] at hr3
  walk_at "1"
  refine ⟨p,r3,L,s,cutOnce s X,rfl,(hx.same s2).same s3,hr3.keys,fun H4 e4 bs4 s4 he40 he4 hbn4 hb4=>?_⟩
  walk_at "1"
  have hlt:(cutOnce s X).length < X.length:=by
   have h0:=(hb' b0).mp (List.mem_cons_self ..)
   refine Nat.lt_of_le_of_ne (cutOnce_len s X) fun e=>h0.2 ?_
   rw [cutOnce_eq e]
   exact h0.1
  have s24:Same H H4:=(s2.trans s3).trans s4
  refine ⟨_,hlt,cutOnce s X,r3,e4,bs4,rfl,rfl,s4 _ _ hr3,he4,hXn.sublist List.filter_sublist,by omega,hb4,?_,.inr (s2.free hr30),s24⟩
  rw [← hcl,closed_step s X,if_neg (by omega)]
end
def AfterIs (H:Hp) (r:Addr) (l:List (Account×Addr)) (f:Account→Nat→Int):Prop :=
 H r=some (.dK (l.map fun y=>(kI y.1.key,V.ref y.2)))∧∀ y,y∈l→H y.2=some (.dK (gd (goods.map (f y.1))))
theorem AfterIs.congr {H:Hp} {r:Addr} {l:List (Account×Addr)} {f g:Account→Nat→Int} (h:AfterIs H r l f) (e:∀ y,y∈l→∀ q,q∈goods→f y.1 q=g y.1 q):AfterIs H r l g :=
 ⟨h.1,fun y hy=>by rw [h.2 y hy,List.map_congr_left (e y hy)]⟩
theorem AfterIs.same {H H':Hp} {r:Addr} {l:List (Account×Addr)} {f:Account→Nat→Int} (h:AfterIs H r l f) (s:Same H H'):AfterIs H' r l f:=⟨s _ _ h.1,fun y hy=>s _ _ (h.2 y hy)⟩
theorem AfterIs.put {H:Hp} {r:Addr} {l:List (Account×Addr)} {f:Account→Nat→Int} (h:AfterIs H r l f) (nk:(l.map fun y=>y.1.key).Nodup) (na:(l.map (·.2)).Nodup) (hr:∀ y,y∈l→y.2≠r) {y:Account×Addr} (hy:y∈l) {q:Nat} (hq:q∈goods) (v:Int) :
  AfterIs (upd H y.2 (.dK (putK (gd (goods.map (f y.1))) (kI q) (.int v)))) r l (fun a q'=>if a.key=y.1.key∧q'=q then v else f a q'):=by
 refine ⟨by rw [upd_ne (Ne.symm (hr y hy))]; exact h.1,fun z hz=>?_⟩
 by_cases e:z=y
 ·subst e
  rw [upd_same,gd_put rfl hq]
  congr 2
  rcases goods4 hq with rfl | rfl | rfl | rfl <;> simp [goods]
 ·have h1:z.2≠y.2:=fun q'=>e (key_inj (f:=fun y:Account×Addr=>y.2) na hz hy q')
  have h2:¬ z.1.key=y.1.key:=fun q'=>e (key_inj (f:=fun y:Account×Addr=>y.1.key) nk hz hy q')
  rw [upd_ne h1,h.2 z hz]
  congr 3
  refine List.map_congr_left fun q' _=>?_
  show f z.1 q'=if z.1.key=y.1.key∧q'=q then v else f z.1 q'
  rw [if_neg (fun z=>h2 z.1)]
theorem after_val {l:List (Account×Addr)} (nk:(l.map fun y=>y.1.key).Nodup) {y:Account×Addr} (hy:y∈l):valV (l.map fun y=>(kI y.1.key,V.ref y.2)) (kI y.1.key)=some (.ref y.2):=valV_map (f:=fun y:Account×Addr=>y.1.key) nk hy
theorem goods_get {f:Nat→Int} {q:Nat} (hq:q∈goods):(goods.map f).getD (q - 1) 0=f q:=by
 rcases goods4 hq with rfl | rfl | rfl | rfl <;> rfl
section
variable {P:Program} {w:World} {K:PySem.W.Frag} {mg:Str→Option Value} {base:Heap} {c:Cs}
structure Fresh (H:Hp) (L:Lay) (r:Addr) (l:List (Account×Addr)):Prop where
 fst:l.map (·.1)=L.as.map (·.acc)
 nd:(l.map (·.2)).Nodup
 new:∀ y,y∈l→H y.2=none∧y.2≠r
def spAfter (c:Cs):Sp:=fun vs H Q _=>∃ (p d:Addr) (L:Lay) (s:State) (ks:List Nat),vs=[.ref p,.ref d]∧HX c H p L s∧KeysAt H d ks∧ks.Nodup∧(∀ k,k∈ks→∃ g,g∈s.groups∧g.key=k) ∧
 ∀ H' r l,Same H H'→H r=none→Fresh H L r l→AfterIs H' r l (wouldHave s ks)→Q (.ref r) H'
theorem fn_amounts_after (T:Txt K mg c):Fn P w K mg base "amounts_after" 1 ["house","chosen"] (spAfter c):=by
 refine T.f_amounts_after.fn sc_amounts_after (fun vs H Q E h=>?_) (fun f cdv A outer sh H vs Q E hr h=>?_)
 ·obtain ⟨p,d,L,s,ks,rfl,_⟩:=h
  rfl
 obtain ⟨p,d,L,s,ks,rfl,hx,⟨kd,hd,hk⟩,hkn,hkg,k⟩:=h
 have hu:=hu_of hr
 have nd:=sc_amounts_after.nd
 refine ⟨_,(pss_cons (ps_set (i:=2) nd rfl (Or.inl rfl) pe_dnewK)
   (pss_cons (ps_lock (ps_for PassesOwn.never rfl (pi_items (pe_fld (pv 0) rfl)) (pg_tup rfl (pgs_cons (pg_name (i:=3) nd rfl (Or.inl rfl)) (pgs_cons (pg_name (i:=4) nd rfl (Or.inl rfl)) pgs_nil))) (pss_one (ps_dput hu (pv 2) (pv 3) (pe_callTy call_dictD rfl T.b_dict L2.boot_dict (pa_cons (pe_fld (pv 4) rfl) pa_nil)) rfl))))
   (pss_cons (ps_lock (ps_for PassesOwn.never rfl (pi_keys (pv 1)) (pg_name (i:=3) nd rfl (Or.inl rfl)) (pss_one (ps_for PassesOwn.never rfl (pi_list (pe_fld (pe_dget hu (pe_fld (pv 0) rfl) (pv 3) (fun _ _=>rfl)) rfl)) (pg_name (i:=5) nd rfl (Or.inl rfl)) (pss_cons (ps_daug hu (pe_dget hu (pv 2) (pe_fld (pv 5) rfl) (fun _ _=>rfl)) (pe_fld (pv 5) rfl) (pe_fld (pv 5) rfl) in_sub (by intros; rfl))
   (pss_one (ps_daug hu (pe_dget hu (pv 2) (pe_fld (pv 5) rfl) (fun _ _=>rfl)) (pe_fld (pv 5) rfl) (pe_fld (pv 5) rfl) in_add (by intros; rfl))))))))
   (pss_one (ps_ret (pv 2)))))),?_⟩
 try simp only [Cx.nox,Cx.wish,cxOf]
 walk_at "1"
 intro r hr0
 walk_at "1"
 have hd1:upd H r (.dK []) L.pa=some (.dK L.da):=same_new hr0 _ _ hx.ea
 have hrd:r≠L.pa:=Ne.symm (ne_of_none hx.ea hr0)
 obtain ⟨dx,hp⟩:=hx.at_.o
 have l8:L.as.length≤8:=by
  have:=hx.r.good.a8
  rw [← hx.r.pa.length_eq] at this
  simpa [Lay.st] using this
 refine r_for_items (i:=3) (j:=4) hd1 (fun od R q=>r_fld (r_var rfl (r_kF (ins_lock hd1 (same_new hr0 _ _ hp)) T.k_House T.n_House_accounts lH_a q)))
  (fun od j σ' H'=>∃ v1 v2 l,σ'=[some (.ref p),some (.ref d),some (.ref r),v1,v2,none]∧l.map (·.1)=(L.as.take j).map (·.acc)∧(l.map (·.2)).Nodup∧(∀ y,y∈l→H y.2=none∧y.2≠r)∧AfterIs H' r l hasOf∧Same (upd H L.pa (.frz od (.dK L.da))) H')
  (fun od=>⟨none,none,[],rfl,rfl,List.nodup_nil,fun y h=>(by cases h),⟨by rw [upd_ne hrd,upd_same]; rfl,fun y h=>(by cases h)⟩,same_lock (same_new hr0)⟩) (fun od j σ' H' ⟨_,_,_,_,_,_,_,_,s1⟩=>s1 _ _ upd_same) ?_ ?_
 ·rintro od j k' v' T' σ' H' D2 hkv ⟨v1,v2,l,rfl,hl1,hl2,hl3,hl4,s1⟩ hT hD
  obtain ⟨x,hxj,e⟩:=map_at (f:=fun x:AccL=>(kI x.acc.key,V.ref x.a)) hkv
  cases e
  have hm:x∈L.as:=List.mem_of_getElem? hxj
  have hA:=(((hx.at_.lock hx.ea (od:=od)).same s1).same (same_new (o:=.tup [kV (kI x.acc.key),V.ref x.a]) hT)).as x hm
  obtain ⟨da,hao⟩:=hA.o
  walk_at "1"
  refine r_kF hao T.k_Account T.n_Account_amounts lA_m ?_
  walk_at "1"
  refine ⟨_,_,rfl,hA.am,fun n hn=>?_⟩
  have rT:r≠T':=ne_of_none hl4.1 hT
  have nT:n≠T':=Ne.symm (ne_of_none upd_same hn)
  have hn1:H' n=none:=by rw [upd_ne nT] at hn; exact hn
  have rn:r≠n:=ne_of_none hl4.1 hn1
  have nr0:upd H L.pa (.frz od (.dK L.da)) r=none:=by rw [upd_ne hrd]; exact hr0
  have nn0:=s1.free hn1
  have hnH:H n=none:=by
   have hne:n≠L.pa:=fun e=>by rw [e,upd_same] at nn0; cases nn0
   rw [upd_ne hne] at nn0
   exact nn0
  walk_at "1"
  have hlen:l.length≤8:=by
   have:=congrArg List.length hl1
   rw [List.length_map,List.length_map] at this
   have:=take_len_le L.as j
   omega
  refine r_kDP (j:=(x.acc.key:Int)) (by rw [upd_ne rn,upd_ne rT]; exact hl4.1) (by rw [List.length_map]; exact small1000 (by omega)) ?_
  have s2:Same (upd H L.pa (.frz od (.dK L.da))) (upd (upd (upd H' T' (.tup [kV (kI x.acc.key),V.ref x.a])) n (.dK (gd x.acc.has))) r (.dK (putK (l.map fun y=>(kI y.1.key,V.ref y.2)) (Sum.inl (x.acc.key:Int)) (.ref n)))) :=
   same_upd (same_upd (s1.trans (same_new hT)) nn0) nr0
  have hnk:¬ kI x.acc.key∈(l.map fun y=>(kI y.1.key,V.ref y.2)).map (·.1):=fun m=>by
   rw [List.map_map] at m
   obtain ⟨y,hy,e⟩:=List.mem_map.mp m
   have e':y.1.key=x.acc.key:=kI_inj e
   have hy1:y.1∈(L.as.take j).map (·.acc):=by rw [← hl1]; exact List.mem_map.mpr ⟨y,hy,rfl⟩
   obtain ⟨z,hz,ez⟩:=List.mem_map.mp hy1
   have:(L.as.map fun x=>x.acc.key)[j]?=some x.acc.key:=by rw [List.getElem?_map,hxj]; rfl
   refine not_taken (lay_an hx.r) this ?_
   rw [← List.map_take]
   exact List.mem_map.mpr ⟨z,hz,by rw [ez,e']⟩
  refine hD _ _ ⟨_,_,l++[(x.acc,n)],rfl,?_,?_,?_,⟨?_,?_⟩,s2⟩
  ·rw [take_snoc hxj,List.map_append,List.map_append,hl1]
   rfl
  ·rw [List.map_append]
   refine nd_snoc hl2 fun m=>?_
   obtain ⟨y,hy,e⟩:=List.mem_map.mp m
   have:=hl4.2 y hy
   rw [show y.2=n from e,hn1] at this
   cases this
  ·intro y hy
   rcases List.mem_append.mp hy with hy | hy
   ·exact hl3 y hy
   ·rw [List.mem_singleton] at hy
    subst hy
    exact ⟨hnH,Ne.symm rn⟩
  ·rw [upd_same,show (Sum.inl (x.acc.key:Int):Key)=kI x.acc.key from rfl,putK_new _ (valV_out hnk),List.map_append]
   rfl
  ·intro y hy
   rcases List.mem_append.mp hy with hy | hy
   ·have h2:=hl4.2 y hy
    rw [upd_ne (hl3 y hy).2,upd_ne (ne_of_none h2 hn1),upd_ne (ne_of_none h2 hT)]
    exact h2
   ·rw [List.mem_singleton] at hy
    subst hy
    show upd _ r _ n=_
    rw [upd_ne (Ne.symm rn),upd_same]
    rfl
 ·rintro od σ' H1 ⟨v1,v2,l,rfl,hl1,hl2,hl3,hl4,s1⟩
  have hlL:L.da.length=L.as.length:=List.length_map ..
  rw [hlL,List.take_length] at hl1
  have S1:Same H (upd H1 L.pa (.dK L.da)):=same_unlock hx.ea s1
  have hF:Fresh H L r l:=⟨hl1,hl2,hl3⟩
  have nk:(l.map fun y=>y.1.key).Nodup:=by
   have:(l.map fun y=>y.1.key)=(l.map (·.1)).map (·.key):=by rw [List.map_map]; rfl
   rw [this,hl1,List.map_map]
   exact lay_an hx.r
  have hr1:∀ y,y∈l→y.2≠r:=fun y hy=>(hl3 y hy).2
  have hA1:AfterIs (upd H1 L.pa (.dK L.da)) r l hasOf:=by
   refine ⟨by rw [upd_ne hrd]; exact hl4.1,fun y hy=>?_⟩
   rw [upd_ne (fun e=>by have:=(hl3 y hy).1; rw [e,hx.ea] at this; cases this)]
   exact hl4.2 y hy
  have hrdd:r≠d:=Ne.symm (ne_of_none hd hr0)
  have hyd:∀ y,y∈l→y.2≠d:=fun y hy e=>by have:=(hl3 y hy).1; rw [e,hd] at this; cases this
  have hd2:=S1 _ _ hd
  walk_at "1"
  refine r_for_keys hd2 (fun R H' q=>r_var rfl q) (fun od2 j σ2 H2=>∃ v3 v4 v5,σ2=[some (.ref p),some (.ref d),some (.ref r),v3,v4,v5] ∧
    AfterIs H2 r l (fun a q=>hasOf a q + total ((ks.take j).map fun k=>total ((legsAt s k).map (legTo a.key q))))∧Same (upd H d (.frz od2 (.dK kd))) H2)
   (fun od2=>⟨_,_,_,rfl,?_,same_lock S1⟩) (fun od2 j σ2 H2 ⟨_,_,_,_,_,s2⟩=>s2 _ _ upd_same) ?_ ?_
  ·refine AfterIs.congr (f:=hasOf) ⟨by rw [upd_ne hrdd]; exact hA1.1,fun y hy=>by rw [upd_ne (hyd y hy)]; exact hA1.2 y hy⟩ fun y hy q hq=>?_
   show _=_ + total []
   rw [total_nil]
   omega
  ·rintro od2 j k' v' σ2 H2 D2 hkv ⟨v3,v4,v5,rfl,hAf,s2⟩ hD
   obtain ⟨n,hn,rfl⟩:=key_at hk hkv
   obtain ⟨g,hg,hgk⟩:=hkg n (List.mem_of_getElem? hn)
   obtain ⟨x,hxm,rfl⟩:=lay_grp hx.r hg
   subst hgk
   have hat0:=hx.at_.lock hd (od:=od2)
   have hat:=hat0.same s2
   obtain ⟨dx2,hp2⟩:=hat.o
   have hG:=hat.gs x hxm
   obtain ⟨dg,hgo⟩:=hG.o
   have hG0:=hat0.gs x hxm
   walk_at "1"
   refine r_kF hp2 T.k_House T.n_House_groups lH_g ?_
   walk_at "1"
   refine r_kDG (j:=(x.grp.key:Int)) hat.dg (dg_at hx.r hxm) ?_
   refine r_kF hgo T.k_Group T.n_Group_legs lG_l ?_
   refine r_kFor (xs:=x.xs.map V.ref) (fun i σ3 H3=>∃ v5,σ3=[some (.ref p),some (.ref d),some (.ref r),some (vI x.grp.key),v4,v5] ∧
     AfterIs H3 r l (fun a q=>(hasOf a q + total ((ks.take j).map fun k=>total ((legsAt s k).map (legTo a.key q)))) + total ((x.grp.legs.take i).map (legTo a.key q)))∧Same (upd H d (.frz od2 (.dK kd))) H3)
    ⟨v5,rfl,hAf.congr fun y hy q hq=>?_,s2⟩ (fun i σ3 H3 ⟨_,_,_,s3⟩=>s3.seq (.inl hG0.le)) ?_ ?_
   ·show _=_ + total []
    rw [total_nil]
    omega
   ·rintro i y σ3 H3 D3 hy ⟨v5',rfl,hAi,s3⟩ hD3
    obtain ⟨la,hla,rfl⟩:=map_at hy
    obtain ⟨leg,hleg,dl,hlo⟩:=paired_get hG0.legs hla
    have hlo3:=s3 _ _ hlo
    have lok:=(hx.r.good.grp x.grp (grp_lay hx.r hxm)).legs leg (List.mem_of_getElem? hleg)
    have hq:leg.good∈goods:=mem_goods.mpr ⟨lok.q1,lok.q4⟩
    have find:∀ a,a∈s.accounts→∃ y,y∈l∧y.1=a:=fun a ha=>by
     obtain ⟨z,hz,rfl⟩:=lay_acc hx.r ha
     have:z.acc∈l.map (·.1):=by rw [hl1]; exact List.mem_map.mpr ⟨z,hz,rfl⟩
     obtain ⟨y,hy,e⟩:=List.mem_map.mp this
     exact ⟨y,hy,e⟩
    obtain ⟨a1,ha1,e1⟩:=lok.fr
    obtain ⟨a2,ha2,e2⟩:=lok.to
    obtain ⟨y1,hy1,rfl⟩:=find a1 ha1
    obtain ⟨y2,hy2,rfl⟩:=find a2 ha2
    have nr0:∀ {y:Account×Addr},y∈l→upd H d (.frz od2 (.dK kd)) y.2=none:=fun {y} hy=>by rw [upd_ne (hyd y hy)]; exact (hl3 y hy).1
    walk_at "1"
    refine r_kF hlo3 T.k_Leg T.n_Leg_giver lL_f ?_
    refine r_kDG (j:=(leg.from_:Int)) (.inl hAi.1) (by rw [show (Sum.inl (leg.from_:Int):Key)=kI leg.from_ from rfl,← e1]; exact after_val nk hy1) ?_
    walk_at "1"
    refine r_kF hlo3 T.k_Leg T.n_Leg_good lL_g ?_
    refine ⟨y1.2,_,rfl,.inl ⟨_,kI leg.good,.inl (hAi.2 y1 hy1),rfl,(gd_val _ hq).symm⟩,?_⟩
    walk_at "1"
    refine r_kF hlo3 T.k_Leg T.n_Leg_amount lL_a ?_
    refine ⟨_,_,rfl,rfl,_,DPut.k (k:=kI leg.good) (hAi.2 y1 hy1) (by show 4 < sizeLine; decide),?_⟩
    have hB:=hAi.put nk hl2 hr1 hy1 hq ((goods.map ((fun a q=>(hasOf a q + total ((ks.take j).map fun k=>total ((legsAt s k).map (legTo a.key q)))) + total ((x.grp.legs.take i).map (legTo a.key q))) y1.1)).getD (leg.good - 1) 0 - (leg.amount:Int))
    rw [goods_get hq] at hB ⊢
    have s4:=same_upd (o:=.dK (putK (gd (goods.map ((fun a q=>(hasOf a q + total ((ks.take j).map fun k=>total ((legsAt s k).map (legTo a.key q)))) + total ((x.grp.legs.take i).map (legTo a.key q))) y1.1))) (kI leg.good) (.int (((hasOf y1.1 leg.good + total ((ks.take j).map fun k=>total ((legsAt s k).map (legTo y1.1.key leg.good)))) + total ((x.grp.legs.take i).map (legTo y1.1.key leg.good))) - (leg.amount:Int))))) s3 (nr0 hy1)
    have hlo4:=s4 _ _ hlo
    walk_at "1"
    refine r_kF hlo4 T.k_Leg T.n_Leg_taker lL_t ?_
    refine r_kDG (j:=(leg.to:Int)) (.inl hB.1) (by rw [show (Sum.inl (leg.to:Int):Key)=kI leg.to from rfl,← e2]; exact after_val nk hy2) ?_
    walk_at "1"
    refine r_kF hlo4 T.k_Leg T.n_Leg_good lL_g ?_
    refine ⟨y2.2,_,rfl,.inl ⟨_,kI leg.good,.inl (hB.2 y2 hy2),rfl,(gd_val _ hq).symm⟩,?_⟩
    walk_at "1"
    refine r_kF hlo4 T.k_Leg T.n_Leg_amount lL_a ?_
    refine ⟨_,_,rfl,rfl,_,DPut.k (k:=kI leg.good) (hB.2 y2 hy2) (by show 4 < sizeLine; decide),?_⟩
    have hC:=hB.put nk hl2 hr1 hy2 hq ((goods.map ((fun a q'=>if a.key=y1.1.key∧q'=leg.good then ((hasOf y1.1 leg.good + total ((ks.take j).map fun k=>total ((legsAt s k).map (legTo y1.1.key leg.good)))) + total ((x.grp.legs.take i).map (legTo y1.1.key leg.good))) - (leg.amount:Int) else (hasOf a q' + total ((ks.take j).map fun k=>total ((legsAt s k).map (legTo a.key q')))) + total ((x.grp.legs.take i).map (legTo a.key q'))) y2.1)).getD (leg.good - 1) 0 + (leg.amount:Int))
    refine hD3 _ _ ⟨_,rfl,hC.congr fun y hy q hq'=>?_,same_upd s4 (nr0 hy2)⟩
    rw [goods_get hq,take_snoc hleg,List.map_append,total_append]
    show _=_ + (_ + total [legTo y.1.key q leg])
    rw [show total [legTo y.1.key q leg]=legTo y.1.key q leg + 0 from rfl]
    have k1:∀ z,z∈l→z.1.key=y.1.key→z=y:=fun z hz e=>key_inj (f:=fun y:Account×Addr=>y.1.key) nk hz hy e
    rw [show legTo y.1.key q leg=(if leg.good=q then (if leg.to=y.1.key then (leg.amount:Int) else 0) - (if leg.from_=y.1.key then (leg.amount:Int) else 0) else 0) from rfl]
    dsimp only
    by_cases hg':leg.good=q
    ·subst hg'
     rw [if_pos rfl]
     by_cases c2:leg.to=y.1.key
     ·have z2:=k1 y2 hy2 (by rw [e2,c2])
      subst z2
      rw [if_pos c2,if_pos ⟨rfl,rfl⟩]
      by_cases c1:leg.from_=y2.1.key
      ·have z1:=k1 y1 hy1 (by rw [e1,c1])
       subst z1
       rw [if_pos c1,if_pos ⟨rfl,rfl⟩]
       omega
      ·rw [if_neg c1,if_neg (fun z=>c1 (by rw [← e1]; exact z.1.symm))]
       omega
     ·rw [if_neg c2,if_neg (fun z=>c2 (by rw [← e2]; exact z.1.symm))]
      by_cases c1:leg.from_=y.1.key
      ·have z1:=k1 y1 hy1 (by rw [e1,c1])
       subst z1
       rw [if_pos c1,if_pos ⟨rfl,rfl⟩]
       omega
      ·rw [if_neg c1,if_neg (fun z=>c1 (by rw [← e1]; exact z.1.symm))]
       omega
    ·rw [if_neg hg',if_neg (fun z=>hg' z.2.symm),if_neg (fun z=>hg' z.2.symm)]
     omega
   ·rintro σ3 H3 ⟨v5',rfl,hAi,s3⟩
    have hxl:(x.xs.map V.ref).length=x.grp.legs.length:=by rw [List.length_map]; exact Paired.length hG0.legs
    rw [hxl,List.take_length] at hAi
    refine hD _ _ ⟨_,_,_,rfl,hAi.congr fun y hy q hq=>?_,s3⟩
    rw [take_snoc hn,List.map_append,total_append]
    show _=_ + (_ + total [total ((legsAt s x.grp.key).map (legTo y.1.key q))])
    rw [show legsAt s x.grp.key=x.grp.legs from by unfold legsAt; rw [groupAt_mem hx.r.good (grp_lay hx.r hxm)],show total [total (x.grp.legs.map (legTo y.1.key q))]=total (x.grp.legs.map (legTo y.1.key q)) + 0 from rfl]
    omega
  ·rintro od2 σ2 H2 ⟨v3,v4,v5,rfl,hAf,s2⟩
   walk_at "1"
   rw [keys_len hk,List.take_length] at hAf
   refine k _ r l (same_unlock hd s2) hr0 hF ?_
   refine AfterIs.congr (f:=fun a q=>hasOf a q + total (ks.map fun k=>total ((legsAt s k).map (legTo a.key q)))) ⟨by rw [upd_ne hrdd]; exact hAf.1,fun y hy=>by rw [upd_ne (hyd y hy)]; exact hAf.2 y hy⟩ fun y hy q hq=>?_
   exact (would_keys hx.r.good hkn hkg y.1 q).symm
end
local macro_rules | `(tactic| walk_at "2") => `(tactic| repeat (first
 | with_reducible refine r_seq ?_ | with_reducible refine r_ret ?_ | with_reducible refine r_if ?_ | with_reducible refine r_set ?_ | with_reducible refine r_drop ?_
 | (with_reducible show tVar _ _ _ _; refine r_var rfl ?_) | with_reducible refine r_c ?_ | with_reducible refine r_op ?_ | with_reducible refine r_un ?_ | with_reducible refine r_I0 ?_ | with_reducible refine r_U ?_
 | with_reducible refine r_eqI ?_ | with_reducible refine r_neI ?_ | with_reducible refine r_tB ?_ | with_reducible refine r_test ?_ | with_reducible refine r_kT ?_ | with_reducible refine r_not ?_ | with_reducible refine r_and ?_ | with_reducible refine r_or ?_
 | with_reducible refine r_andV ?_ | with_reducible refine r_kAndV ?_ | with_reducible refine r_notV ?_ | with_reducible refine r_kNotV ?_ | with_reducible refine r_ife ?_ | with_reducible refine r_chain ?_ | with_reducible refine r_kCh ?_
 | with_reducible refine r_fld ?_ | with_reducible refine r_dget ?_ | with_reducible refine r_din ?_ | with_reducible refine r_dnin ?_ | with_reducible refine r_dput ?_ | with_reducible refine r_dnew ?_ | with_reducible refine r_lst ?_
 | with_reducible refine r_nil ?_ | with_reducible refine r_cons ?_ | with_reducible refine r_call ?_ | with_reducible refine r_make ?_ | with_reducible refine r_cb ?_ | with_reducible refine r_sfld ?_ | with_reducible refine r_bm ?_ | with_reducible refine r_next ?_ | with_reducible refine r_gn ?_ | with_reducible refine r_for ?_ | with_reducible refine r_daug ?_ | with_reducible refine r_frz ?_ | with_reducible refine r_forK ?_))
theorem fmc {α β:Type} {f g:α→Option β}:∀ {l:List α},(∀ a,a∈l→f a=g a)→l.filterMap f=l.filterMap g
 | [],_=>rfl
 | a::l,h=>by
  rw [List.filterMap_cons,List.filterMap_cons,h a (List.mem_cons_self ..),fmc fun b hb=>h b (List.mem_cons_of_mem _ hb)]
def shorts (s:State) (X:List Nat) (l:List Account):List (Nat×Nat):=l.filterMap fun a=>(shortOf s X a).map fun q=>(a.key,q)
def pairs (l:List (Nat×Nat)):List (Key×V):=l.map fun y=>(kI y.1,vI y.2)
def belowV (s:State) (X:List Nat) (a:Account):V→Bool
 | .int i=>decide (wouldHave s X a i.toNat < -(Vbchak.limitOf a i.toNat:Int))
 | _=>false
theorem lay_keys {L:Lay} {s:State} (r:R L.st s):(L.as.map fun x=>x.acc.key).Perm (s.accounts.map (·.key)):=by
 have:=r.pa.map (·.key)
 unfold Lay.st at this
 rw [List.map_map] at this
 exact this
theorem lay8 {L:Lay} {s:State} (r:R L.st s):L.as.length≤8:=by
 have:=r.good.a8
 rw [← r.pa.length_eq] at this
 simpa [Lay.st] using this
theorem ints_map (ks:List Nat):(ks.map fun (k:Nat)=>(k:Int)).map V.int=ks.map vI:=by
 rw [List.map_map]
 rfl
theorem inl_map (ks:List Nat):(ks.map fun (k:Nat)=>(k:Int)).map (Sum.inl:Int→Key)=ks.map kI:=by
 rw [List.map_map]
 rfl
theorem shorts_len (s:State) (X:List Nat) (l:List Account):(shorts s X l).length≤l.length:=List.length_filterMap_le _ _
theorem shorts_key {s:State} {X:List Nat} {l:List Account} {y:Nat×Nat} (h:y∈shorts s X l):∃ a,a∈l∧a.key=y.1∧shortOf s X a=some y.2:=by
 obtain ⟨a,ha,e⟩:=List.mem_filterMap.mp h
 rw [Option.map_eq_some_iff] at e
 obtain ⟨q,hq,rfl⟩:=e
 exact ⟨a,ha,rfl,hq⟩
section
variable {P:Program} {w:World} {K:PySem.W.Frag} {mg:Str→Option Value} {base:Heap} {c:Cs}
def spShort (c:Cs):Sp:=fun vs H Q _=>∃ (p d:Addr) (L:Lay) (s:State) (ks:List Nat),vs=[.ref p,.ref d]∧HX c H p L s∧KeysAt H d ks∧ks.Nodup∧(∀ k,k∈ks→∃ g,g∈s.groups∧g.key=k) ∧
 ∀ H' r,Same H H'→H r=none→H' r=some (.dK (pairs (shorts s ks s.accounts)))→Q (.ref r) H'
theorem fn_short_accounts (T:Txt K mg c):Fn P w K mg base "short_accounts" 2 ["house","chosen"] (spShort c):=by
 refine T.f_short_accounts.fn sc_short_accounts (fun vs H Q E h=>?_) (fun f cdv A outer sh H vs Q E hr h=>?_)
 ·obtain ⟨p,d,L,s,ks,rfl,_⟩:=h
  rfl
 obtain ⟨p,d,L,s,ks,rfl,hx,hd,hkn,hkg,k⟩:=h
 have hu:=hu_of hr
 have nd:=sc_short_accounts.nd
 refine ⟨_,(pss_cons (ps_set (i:=2) nd rfl (Or.inr rfl) (pe_fn (fn_amounts_after T) (hr.mono (by decide)) rfl (pa_cons (pv 0) (pa_cons (pv 1) pa_nil))))
   (pss_cons (ps_set (i:=3) nd rfl (Or.inl rfl) pe_dnewK)
   (pss_cons (ps_for PassesOwn.never rfl (pi_list (pe_callB (call_sortedD rfl) rfl T.b_sorted L2.boot_sorted (pa_cons (pe_fld (pv 0) rfl) pa_nil))) (pg_name (i:=4) nd rfl (Or.inr rfl)) (pss_cons (ps_set (i:=5) nd rfl (Or.inr rfl) (pe_fld (pe_dget hu (pe_fld (pv 0) rfl) (pv 4) (fun _ _=>rfl)) rfl))
   (pss_cons (ps_setLc (i:=6) rfl nd rfl rfl (sw_true rfl rfl rfl rfl) (pi_tup (pe_gref T.c_GOODS)) (blkOk_by (own:=[("good",7)]) (by simp only [Cx.nox,Cx.wish,cxOf,envOfC]; decide +kernel)) (fun _ _ _ _ _=>pg_name (i:=7) nd rfl (Or.inl rfl)) (fun _ _ _ _ _=>(pts_one (pt_cmpR op_lt (pe_dget hu (pe_dget hu (pv 2) (pv 4) (fun _ _=>rfl)) (pv 7) (fun _ _=>rfl)) (pe_un un_neg (pe_dget hu (pv 5) (pv 7) (fun _ _=>rfl))) (nomark _)))) (fun _ _ _ _ _=>(pv 7)))
   (pss_one (ps_if (pt_cmpR op_gt (pe_callB call_len_seq rfl T.b_len boot_len (pa_cons (pv 6) pa_nil)) pe_int (nomark _)) (pss_one (ps_dput hu (pv 3) (pv 4) (pe_ix ix_list (pv 6) pe_int (fun _ _=>rfl)) rfl)) pss_nil)))))
   (pss_one (ps_ret (pv 3)))))),?_⟩
 try simp only [Cx.nox,Cx.wish,cxOf]
 walk_at "2"
 refine ⟨p,d,L,s,ks,rfl,hx,hd,hkn,hkg,fun H1 ra l s1 hra0 hF hA=>?_⟩
 walk_at "2"
 intro r hr1
 have hx1:=hx.same s1
 have hr0:H r=none:=s1.free hr1
 have s2:Same H1 (upd H1 r (.dK [])):=same_new hr1
 obtain ⟨dx,hp⟩:=hx1.at_.o
 walk_at "2"
 refine r_kF (s2 _ _ hp) T.k_House T.n_House_accounts lH_a ?_
 walk_at "2"
 refine ⟨L.pa,L.da,(L.as.map fun x=>x.acc.key).map fun (k:Nat)=>(k:Int),rfl,.inl (s2 _ _ hx1.ea),by rw [da_keys,inl_map],by rw [List.length_map,List.length_map]; have:=lay8 hx.r; omega,fun ns' pl hp1 hp2 hpl=>?_⟩
 have e:=sort_eq hp1 hp2 (lay_keys hx.r) hx.r.keysA
 subst e
 rw [ints_map]
 have hpl1:H1 pl=none:=s2.free hpl
 have hrpl:r≠pl:=ne_of_none upd_same hpl
 have nk:(l.map fun y=>y.1.key).Nodup:=by
  have:(l.map fun y=>y.1.key)=(l.map (·.1)).map (·.key):=by rw [List.map_map]; rfl
  rw [this,hF.fst,List.map_map]
  exact lay_an hx.r
 refine r_kFor (xs:=(s.accounts.map (·.key)).map vI) (fun i σ' H'=>∃ v4 v5 v6 v7,σ'=[some (.ref p),some (.ref d),some (.ref ra),some (.ref r),v4,v5,v6,v7]∧H' r=some (.dK (pairs (shorts s ks (s.accounts.take i))))∧H' pl=some (.lst ((s.accounts.map (·.key)).map vI))∧Same H1 H')
  ⟨none,none,none,none,rfl,by rw [upd_ne hrpl,upd_same]; rfl,upd_same,same_upd s2 hpl1⟩ (fun i σ' H' ⟨_,_,_,_,_,_,hl,_⟩=>.inl (.inl hl)) ?_ ?_
 ·rintro i y σ' H' D2 hy ⟨v4,v5,v6,v7,rfl,hr2,hl2,s3⟩ hD
  rw [List.map_map] at hy
  obtain ⟨a,hai,rfl⟩:=map_at hy
  have ham:a∈s.accounts:=List.mem_of_getElem? hai
  obtain ⟨x,hxm,rfl⟩:=lay_acc hx.r ham
  have hx3:=hx1.same s3
  obtain ⟨dx3,hp3⟩:=hx3.at_.o
  have hA3:=hx3.at_.as x hxm
  obtain ⟨da3,hao3⟩:=hA3.o
  have hAf3:=hA.same s3
  have hyl:∃ y,y∈l∧y.1=x.acc:=by
   have:x.acc∈l.map (·.1):=by rw [hF.fst]; exact List.mem_map.mpr ⟨x,hxm,rfl⟩
   obtain ⟨y,hy,e⟩:=List.mem_map.mp this
   exact ⟨y,hy,e⟩
  obtain ⟨y,hyl,hy1⟩:=hyl
  have l4:=(hx.r.good.acc x.acc ham).l4
  walk_at "2"
  refine r_kF hp3 T.k_House T.n_House_accounts lH_a ?_
  walk_at "2"
  refine r_kDG (j:=(x.acc.key:Int)) hx3.at_.da (da_at hx.r hxm) ?_
  refine r_kF hao3 T.k_Account T.n_Account_limits lA_l ?_
  walk_at "2"
  refine r_lct (i:=7) (a:=c.goods) (xs:=goods.map vI) (belowV s ks x.acc) (fun v=>v) (fun R q=>r_c q) (fun H'=>T.t_GOODS H') (by decide) (fun v hv H4 Qb s4 q=>?_) (fun v hv _ H4 Q' s4 q=>r_var rfl q) (fun D hD0=>?_)
  ·obtain ⟨q',hq',rfl⟩:=List.mem_map.mp hv
   have hAf4:=hAf3.same s4
   walk_at "2"
   refine r_kDG (j:=(x.acc.key:Int)) (.inl hAf4.1) (by rw [show (Sum.inl (x.acc.key:Int):Key)=kI x.acc.key from rfl,← hy1]; exact after_val nk hyl) ?_
   walk_at "2"
   refine r_kDG (j:=(q':Int)) (.inl (hAf4.2 y hyl)) (gd_val _ hq') ?_
   walk_at "2"
   refine r_kDG (j:=(q':Int)) (rd_same s4 hA3.li) (gd_val _ hq') ?_
   walk_at "2"
   rw [goods_get hq',lims_get l4 hq',hy1]
   exact q
  ·have hrD:r≠D:=ne_of_none hr2 hD0
   have hlD:pl≠D:=ne_of_none hl2 hD0
   have s5:Same H1 (upd H' D (.lst (((goods.map vI).filter (belowV s ks x.acc)).map fun v=>v))):=s3.trans (same_new hD0)
   walk_at "2"
   refine ⟨D,_,rfl,.inl (.inl (.inl upd_same)),?_⟩
   walk_at "2"
   rw [List.map_id'' (fun _=>rfl),List.filter_map,List.length_map]
   have hfind:shortOf s ks x.acc=(goods.filter (belowV s ks x.acc∘vI)).head?:=by
    rw [head_filter]
    rfl
   cases hfl:goods.filter (belowV s ks x.acc∘vI) with
   | nil =>
    rw [hfl] at hfind
    refine iteF ?_
    walk_at "2"
    refine hD _ _ ⟨_,_,_,_,rfl,?_,by rw [upd_ne hlD]; exact hl2,?_⟩
    ·rw [upd_ne hrD,hr2,take_snoc hai]
     unfold shorts
     rw [List.filterMap_append,List.filterMap_cons,hfind]
     simp
    ·exact s3.trans (same_new hD0)
   | cons q0 rest =>
    rw [hfl] at hfind
    refine ite2 (fun _=>?_) (fun hno=>absurd (by rw [decide_eq_true_eq,List.length_cons]; omega) hno)
    walk_at "2"
    refine r_ixL (.inl (.inl upd_same)) (v:=vI q0) (atI_nat (j:=0) rfl) ?_
    walk_at "2"
    have hlen:(shorts s ks (s.accounts.take i)).length≤8:=by
     have h1:=shorts_len s ks (s.accounts.take i)
     have h2:=take_len_le s.accounts i
     have:=hx.r.good.a8
     omega
    refine r_kDP (j:=(x.acc.key:Int)) (by rw [upd_ne hrD]; exact hr2) (by unfold pairs; rw [List.length_map]; exact small1000 (by omega)) ?_
    refine hD _ _ ⟨_,_,_,_,rfl,?_,by rw [upd_ne (Ne.symm hrpl),upd_ne hlD]; exact hl2,same_upd (s3.trans (same_new hD0)) hr1⟩
    have hnk:¬ kI x.acc.key∈(pairs (shorts s ks (s.accounts.take i))).map (·.1):=fun m=>by
     unfold pairs at m
     rw [List.map_map] at m
     obtain ⟨z,hz,e⟩:=List.mem_map.mp m
     obtain ⟨b,hb,e2,_⟩:=shorts_key hz
     have:(s.accounts.map (·.key))[i]?=some x.acc.key:=by rw [List.getElem?_map,hai]; rfl
     refine not_taken hx.r.good.an this ?_
     rw [← List.map_take]
     exact List.mem_map.mpr ⟨b,hb,by rw [e2]; exact kI_inj e⟩
    rw [upd_same,show (Sum.inl (x.acc.key:Int):Key)=kI x.acc.key from rfl,putK_new _ (valV_out hnk),take_snoc hai]
    unfold shorts
    rw [List.filterMap_append,List.filterMap_cons,hfind]
    unfold pairs
    rw [List.map_append]
    rfl
 ·rintro σ' H' ⟨v4,v5,v6,v7,rfl,hr2,hl2,s3⟩
  walk_at "2"
  rw [List.length_map,List.length_map,List.take_length] at hr2
  exact k _ r (s1.trans s3) hr0 hr2
def lastOf (s:State) (X:List Nat) (k:Nat):Nat:=match accountAt s k with
 | some a=>((beginning X a.row).getLast?).getD 0
 | none=>0
theorem lasts_eq {s:State} (G:Good s) {X:List Nat} (hX:Clo s X):lasts s X=(shorts s X s.accounts).map fun y=>(lastOf s X y.1,y.1):=by
 unfold lasts shorts
 rw [List.map_filterMap]
 refine fmc fun a ha=>?_
 cases e:shortOf s X a with
 | none=>rfl
 | some q =>
  obtain ⟨cu,hc⟩:=short_some G hX ha (by rw [e]; rfl)
  rw [hc]
  show some (cu,a.key)=some (lastOf s X a.key,a.key)
  unfold lastOf
  rw [accountAt_mem G ha]
  show some (cu,a.key)=some (((beginning X a.row).getLast?).getD 0,a.key)
  rw [hc]
  rfl
theorem pairs_val (l:List (Nat×Nat)) (k:Nat):valV (pairs l) (kI k)=(l.find? fun y=>y.1 == k).map fun y=>vI y.2:=by
 induction l with
 | nil=>rfl
 | cons y l ih =>
  unfold pairs
  rw [List.map_cons,List.find?_cons]
  by_cases e:y.1=k
  ·rw [valV_pos (by rw [e])]
   have:(y.1 == k)=true:=by simpa using e
   rw [this]
   rfl
  ·rw [valV_neg (fun q=>e (kI_inj q))]
   have:(y.1 == k)=false:=by simpa using e
   rw [this]
   exact ih
theorem pairs_sd {l:List (Nat×Nat)} {x:Nat×Nat}:(sd l x=l∧∃ v,valV (pairs l) (kI x.1)=some v)∨(sd l x=l++[x]∧valV (pairs l) (kI x.1)=none):=by
 unfold sd
 rw [pairs_val]
 by_cases h:(l.any fun y=>y.1 == x.1)=true
 ·rw [if_pos h]
  refine .inl ⟨rfl,?_⟩
  have:(l.find? fun y=>y.1 == x.1).isSome=true:=by
   rw [List.find?_isSome]
   obtain ⟨y,hy,e⟩:=List.any_eq_true.mp h
   exact ⟨y,hy,e⟩
  obtain ⟨y,hy⟩:=Option.isSome_iff_exists.mp this
  rw [hy]
  exact ⟨_,rfl⟩
 ·rw [if_neg h]
  refine .inr ⟨rfl,?_⟩
  rw [List.find?_eq_none.mpr]
  ·rfl
  ·intro y hy e
   exact h (List.any_eq_true.mpr ⟨y,hy,e⟩)
theorem sd_len (l:List (Nat×Nat)):∀ acc:List (Nat×Nat),(l.foldl sd acc).length≤acc.length + l.length:=by
 induction l with
 | nil=>intro acc; exact Nat.le_refl _
 | cons x l ih =>
  intro acc
  rw [List.foldl_cons]
  have h1:=ih (sd acc x)
  have h2:(sd acc x).length≤acc.length + 1:=by
   unfold sd
   split
   ·omega
   ·rw [List.length_append]
    exact Nat.le_refl _
  rw [List.length_cons]
  omega
def spCulp (c:Cs):Sp:=fun vs H Q _=>∃ (p d:Addr) (L:Lay) (s:State) (ks:List Nat),vs=[.ref p,.ref d]∧HX c H p L s∧KeysAt H d ks∧ks.Nodup∧(∀ k,k∈ks→∃ g,g∈s.groups∧g.key=k)∧Clo s ks ∧
 ∀ H' r,Same H H'→H r=none→H' r=some (.dK (pairs (culp s ks)))→Q (.ref r) H'
theorem fn_culprits (T:Txt K mg c):Fn P w K mg base "culprits" 3 ["house","chosen"] (spCulp c):=by
 refine T.f_culprits.fn sc_culprits (fun vs H Q E h=>?_) (fun f cdv A outer sh H vs Q E hr h=>?_)
 ·obtain ⟨p,d,L,s,ks,rfl,_⟩:=h
  rfl
 obtain ⟨p,d,L,s,ks,rfl,hx,hd,hkn,hkg,hcl,k⟩:=h
 have hu:=hu_of hr
 have nd:=sc_culprits.nd
 obtain ⟨kd,hd',hk⟩:=id hd
 refine ⟨_,(pss_cons (ps_set (i:=2) nd rfl (Or.inl rfl) pe_dnewK)
   (pss_cons (ps_for PassesOwn.never rfl (pi_keys (pe_frz (pe_fn (fn_short_accounts T) (hr.mono (by decide)) rfl (pa_cons (pv 0) (pa_cons (pv 1) pa_nil))))) (pg_name (i:=3) nd rfl (Or.inl rfl)) (pss_one (ps_expr (pe_dsetdef hu (pv 2) (pe_ix ix_list (pe_fn (fn_touching_groups T) (hr.mono (by decide)) rfl (pa_cons (pv 0) (pa_cons (pv 3) (pa_cons (pv 1) pa_nil)))) (pe_un un_neg pe_int) (fun _ _=>rfl)) (pv 3) ⟨rfl,rfl,rfl,rfl⟩))))
   (pss_one (ps_ret (pv 2))))),?_⟩
 try simp only [Cx.nox,Cx.wish,cxOf]
 walk_at "2"
 intro r hr0
 have s0:Same H (upd H r (.dK [])):=same_new hr0
 walk_at "2"
 refine ⟨p,d,L,s,ks,rfl,hx.same s0,⟨kd,s0 _ _ hd',hk⟩,hkn,hkg,fun H1 e s1 he0 he=>?_⟩
 have hre:r≠e:=ne_of_none upd_same he0
 have he00:H e=none:=s0.free he0
 refine r_kFrz he fun od=>?_
 have sH:Same H (upd H1 e (.frz od (.dK (pairs (shorts s ks s.accounts))))):=same_upd (s0.trans s1) he00
 have hlen0:(pairs (shorts s ks s.accounts)).length=(shorts s ks s.accounts).length:=List.length_map ..
 refine r_kFK upd_same (fun j σ' H'=>∃ v,σ'=[some (.ref p),some (.ref d),some (.ref r),v]∧H' r=some (.dK (pairs (((shorts s ks s.accounts).take j).map (fun y=>(lastOf s ks y.1,y.1)) |>.foldl sd [])))∧H' e=some (.frz od (.dK (pairs (shorts s ks s.accounts))))∧Same H H')
  ⟨none,rfl,by rw [upd_ne hre]; exact s1 _ _ upd_same,upd_same,sH⟩ (fun j σ' H' ⟨_,_,_,h,_⟩=>h) ?_ ?_
 ·rintro j k' v' σ' H' D2 hkv ⟨v,rfl,hr2,he2,s2⟩ hD
  obtain ⟨y,hyj,ey⟩:=map_at (f:=fun y:Nat×Nat=>(kI y.1,vI y.2)) hkv
  cases ey
  obtain ⟨a,ha,hak,hsh⟩:=shorts_key (List.mem_of_getElem? hyj)
  have hx2:=hx.same s2
  walk_at "2"
  refine ⟨_,rfl,r,rfl,.inl ⟨_,.inl hr2⟩,?_⟩
  walk_at "2"
  refine ⟨p,d,L,s,a,ks,kd,by rw [hak]; rfl,hx2,ha,.inl (s2 _ _ hd'),hk,fun H3 t s3 ht0 ht=>?_⟩
  walk_at "2"
  obtain ⟨cu,hcu⟩:=short_some hx.r.good hcl ha (by rw [hsh]; rfl)
  have hbf:beginning ks a.row=a.row.filter fun k=>ks.contains k:=beg_filter (fun k hk hx'=>hcl a ha k hk hx') (hx.r.good.acc a ha).nd
  have hlast:lastOf s ks y.1=cu:=by
   unfold lastOf
   rw [← hak,accountAt_mem hx.r.good ha]
   show ((beginning ks a.row).getLast?).getD 0=cu
   rw [hcu]
   rfl
  rw [hbf] at hcu
  obtain ⟨init,hinit⟩:=List.getLast?_eq_some_iff.mp hcu
  rw [hinit,List.map_append] at ht
  refine r_ixL (.inl (.inl ht)) (v:=vI cu) (atI_last _ _) ?_
  walk_at "2"
  have hr3:=s3 _ _ hr2
  have he3:=s3 _ _ he2
  have hlenf:(pairs (((shorts s ks s.accounts).take j).map (fun y=>(lastOf s ks y.1,y.1)) |>.foldl sd [])).length≤1000:=by
   unfold pairs
   rw [List.length_map]
   have h1:=sd_len (((shorts s ks s.accounts).take j).map fun y=>(lastOf s ks y.1,y.1)) []
   rw [List.length_map] at h1
   have h2:=take_len_le (shorts s ks s.accounts) j
   have h3:=shorts_len s ks s.accounts
   have:=hx.r.good.a8
   have:([]:List (Nat×Nat)).length=0:=rfl
   omega
  have hstep:(((shorts s ks s.accounts).take (j + 1)).map (fun y=>(lastOf s ks y.1,y.1)) |>.foldl sd [])=sd (((shorts s ks s.accounts).take j).map (fun y=>(lastOf s ks y.1,y.1)) |>.foldl sd []) (cu,y.1):=by
   rw [take_snoc hyj,List.map_append,List.foldl_append,List.map_singleton,hlast]
   rfl
  have s4:=s2.trans s3
  refine ⟨_,kI cu,hr3,rfl,small1000 hlenf,fun v hv=>?_,fun hv=>?_⟩
  ·rcases pairs_sd (l:=((shorts s ks s.accounts).take j).map (fun y=>(lastOf s ks y.1,y.1)) |>.foldl sd []) (x:=(cu,y.1)) with ⟨e1,_⟩ | ⟨_,e2⟩
   ·refine hD _ _ ⟨_,rfl,?_,he3,s4⟩
    rw [hstep,e1]
    exact hr3
   ·rw [show valV _ (kI cu)=none from e2] at hv
    cases hv
  ·rcases pairs_sd (l:=((shorts s ks s.accounts).take j).map (fun y=>(lastOf s ks y.1,y.1)) |>.foldl sd []) (x:=(cu,y.1)) with ⟨_,v2,e2⟩ | ⟨e1,_⟩
   ·rw [show valV _ (kI cu)=some v2 from e2] at hv
    cases hv
   ·refine hD _ _ ⟨_,rfl,?_,by rw [upd_ne (Ne.symm hre)]; exact he3,same_upd s4 hr0⟩
    rw [hstep,e1,upd_same,putK_new _ hv]
    unfold pairs
    rw [List.map_append]
    rfl
 ·rintro σ' H' ⟨v,rfl,hr2,he2,s2⟩
  walk_at "2"
  rw [hlen0,List.take_length,← lasts_eq hx.r.good hcl] at hr2
  exact k _ r s2 hr0 hr2
end
theorem last_of {α:Type}:∀ {l:List α} {n:Nat},l.length=n + 1→∃ e,l[n]?=some e∧l=l.take n++[e]
 | [],n,h=>by simp at h
 | [x],0,_=>⟨x,rfl,rfl⟩
 | x::y::l,0,h=>by simp at h
 | x::l,n + 1,h=>by
  obtain ⟨e,h1,h2⟩:=last_of (l:=l) (n:=n) (by simpa using h)
  exact ⟨e,by simpa using h1,by rw [List.take_succ_cons,List.cons_append,← h2]⟩
theorem pairs_keys (l:List (Nat×Nat)):(pairs l).map (·.1)=(l.map (·.1)).map kI:=by
 unfold pairs
 rw [List.map_map,List.map_map]
 rfl
theorem culp_filter (s:State) (X:List Nat):(X.filter fun k=>!((culp s X).map (·.1)).contains k)=X.filter fun k=>!(culprits s X).contains k:=by
 refine List.filter_congr fun k _=>?_
 congr 1
 rw [Bool.eq_iff_iff,List.contains_iff_mem,List.contains_iff_mem]
 exact culp_keys s X k
theorem atI_end {l:List Addr} {n:Nat} {e:Addr} (h:l=l.take n++[e]):atI (l.map V.ref) (-1)=some (V.ref e):=by
 rw [h,List.map_append]
 exact atI_last _ _
structure RoundsAt (H0 H:Hp) (d r:Addr) (s:State) (X0:List Nat) (ds:List Addr):Prop where
 lst:H r=some (.lst (ds.map V.ref))
 at_:∀ i e,ds[i]?=some e→SetAt H e (rd s X0 i)∧(e=d∨H0 e=none)
section
variable {P:Program} {w:World} {K:PySem.W.Frag} {mg:Str→Option Value} {base:Heap} {c:Cs}
def spRounds (c:Cs):Sp:=fun vs H Q _=>∃ (p d:Addr) (L:Lay) (s:State) (ks:List Nat),vs=[.ref p,.ref d]∧HX c H p L s∧SetAt H d ks∧ks.Nodup∧ks.length≤1000∧(∀ k,k∈ks→∃ g,g∈s.groups∧g.key=k) ∧
 ∀ H' r ds n,Same H H'→H r=none→RoundsAt H H' d r s (closed s ks) ds→ds.length=n + 1→(∀ i,i < n→culprits s (rd s (closed s ks) i)≠[])→culprits s (rd s (closed s ks) n)=[]→Q (.ref r) H'
theorem fn_rounds (T:Txt K mg c):Fn P w K mg base "rounds" 4 ["house","chosen"] (spRounds c):=by
 refine T.f_rounds.fn sc_rounds (fun vs H Q E h=>?_) (fun f cdv A outer sh H vs Q E hr h=>?_)
 ·obtain ⟨p,d,L,s,ks,rfl,_⟩:=h
  rfl
 obtain ⟨p,d,L,s,ks,rfl,hx,hd,hkn,hkl,hkg,k⟩:=h
 have hu:=hu_of hr
 have nd:=sc_rounds.nd
 refine ⟨_,(pss_cons (ps_set (i:=2) nd rfl (Or.inl rfl) (pe_lst (pa_cons (pe_fn (fn_less_blocked T) (hr.mono (by decide)) rfl (pa_cons (pv 0) (pa_cons (pv 1) pa_nil))) pa_nil)))
   (pss_cons (ps_set (i:=3) nd rfl (Or.inl rfl) (pe_fn (fn_culprits T) (hr.mono (by decide)) rfl (pa_cons (pv 0) (pa_cons (pe_ix ix_list (pv 2) (pe_un un_neg pe_int) (fun _ _=>rfl)) pa_nil))))
   (pss_cons (ps_while PassesOwn.never (pt_cmpR op_gt (pe_callB call_lenD rfl T.b_len boot_len (pa_cons (pv 3) pa_nil)) pe_int (nomark _)) (pss_cons (ps_expr (pe_bm PySem.F.plainAttrs_list PySem.F.slot_list_append PySem.F.type_list_append mt_append (pv 2) (pa_cons (pe_fn (fn_less_blocked T) (hr.mono (by decide)) rfl (pa_cons (pv 0) (pa_cons (pe_fn (fn_less T) (hr.mono (by decide)) rfl (pa_cons (pe_ix ix_list (pv 2) (pe_un un_neg pe_int) (fun _ _=>rfl)) (pa_cons (pv 3) pa_nil))) pa_nil))) pa_nil)))
   (pss_one (ps_set (i:=3) nd rfl (Or.inl rfl) (pe_fn (fn_culprits T) (hr.mono (by decide)) rfl (pa_cons (pv 0) (pa_cons (pe_ix ix_list (pv 2) (pe_un un_neg pe_int) (fun _ _=>rfl)) pa_nil)))))))
   (pss_one (ps_ret (pv 2)))))),?_⟩
 try simp only [Cx.nox,Cx.wish,cxOf]
 have ndX:∀ i,(rd s (closed s ks) i).Nodup:=rd_nodup (hkn.sublist (closed_sublist s ks))
 have inX:∀ i k,k∈rd s (closed s ks) i→∃ g,g∈s.groups∧g.key=k:=fun i k hk=>hkg k (closed_sub (rd_sub (Nat.zero_le i) hk))
 have cloX:∀ i,Clo s (rd s (closed s ks) i):=rd_clo (closed_clo s ks)
 have lenX:∀ i,(rd s (closed s ks) i).length≤1000:=fun i=>by
  have h1:(rd s (closed s ks) i).length≤ks.length:=(ndX i).length_le_of_subset fun k hk=>closed_sub (rd_sub (Nat.zero_le i) hk)
  omega
 walk_at "2"
 refine ⟨p,d,L,s,ks,rfl,hx,hd,hkn,hkl,fun H1 e0 s1 hfr0 he0=>?_⟩
 walk_at "2"
 refine r_kL (by show 1≤1000; decide) fun r hr1=>?_
 have hr0:H r=none:=s1.free hr1
 have s2:Same H (upd H1 r (.lst [V.ref e0])):=same_upd s1 hr0
 have re0:e0≠r:=ne_of_none he0 hr1
 have he02:SetAt (upd H1 r (.lst [V.ref e0])) e0 (closed s ks):=by
  unfold SetAt
  rw [upd_ne re0]
  exact he0
 walk_at "2"
 refine r_ixL (.inl (.inl upd_same)) (v:=V.ref e0) rfl ?_
 walk_at "2"
 refine ⟨p,e0,L,s,closed s ks,rfl,hx.same s2,he02.keys,ndX 0,inX 0,cloX 0,fun H2 e1 s3 he10 he1=>?_⟩
 walk_at "2"
 refine ⟨fun m σ' H'=>∃ n ds e,m=(rd s (closed s ks) n).length∧σ'=[some (.ref p),some (.ref d),some (.ref r),some (.ref e)]∧RoundsAt H H' d r s (closed s ks) ds∧ds.length=n + 1∧(∀ i,i < n→culprits s (rd s (closed s ks) i)≠[])∧H' e=some (.dK (pairs (culp s (rd s (closed s ks) n))))∧Same H H',
  ⟨_,0,[e0],e1,rfl,rfl,⟨s3 _ _ upd_same,fun i e hi=>?_⟩,rfl,fun i hi=>by omega,he1,s2.trans s3⟩,?_⟩
 ·match i,hi with
  | 0,hi =>
   have:e0=e:=Option.some.inj hi
   subst this
   exact ⟨s3 _ _ he02,hfr0⟩
  | i + 1,hi=>simp at hi
 rintro m σ' H' ⟨n,ds,e,rfl,rfl,hR,hdl,hcul,he,s4⟩
 obtain ⟨en,hen,hdse⟩:=last_of hdl
 obtain ⟨hset,hfr⟩:=hR.at_ n en hen
 have hx4:=hx.same s4
 walk_at "2"
 refine ⟨e,_,rfl,he,?_⟩
 walk_at "2"
 unfold pairs
 rw [List.length_map]
 cases hcu:culp s (rd s (closed s ks) n) with
 | nil =>
  refine iteF ?_
  walk_at "2"
  exact k _ r ds n s4 hr0 hR hdl hcul (culp_empty.mp hcu)
 | cons c0 cs =>
  refine ite2 (fun _=>?_) (fun hno=>absurd (by rw [decide_eq_true_eq,List.length_cons]; omega) hno)
  refine ⟨_,fun _ _ q=>q,?_⟩
  have hne:culprits s (rd s (closed s ks) n)≠[]:=fun e=>by
   rw [culp_empty.mpr e] at hcu
   cases hcu
  walk_at "2"
  refine r_kBl (.inl (.inl hR.lst)) ?_
  walk_at "2"
  refine r_ixL (.inl (.inl hR.lst)) (atI_end hdse) ?_
  walk_at "2"
  refine ⟨en,e,rd s (closed s ks) n,(culp s (rd s (closed s ks) n)).map (·.1),_,rfl,hset.keys,.inl he,pairs_keys _,ndX n,lenX n,fun H5 r5 s5 hr50 hr5=>?_⟩
  rw [culp_filter] at hr5
  walk_at "2"
  have hnd5:((rd s (closed s ks) n).filter fun k=>!(culprits s (rd s (closed s ks) n)).contains k).Nodup:=(ndX n).sublist List.filter_sublist
  refine ⟨p,r5,L,s,_,rfl,hx4.same s5,hr5,hnd5,Nat.le_trans (List.length_filter_le _ _) (lenX n),fun H6 r6 s6 hfr6 hr6=>?_⟩
  walk_at "2"
  have s46:Same H' H6:=s5.trans s6
  have hlst6:=s46 _ _ hR.lst
  have hdsl:ds.length≤1001:=by
   have:=rd_len (s:=s) (X:=closed s ks) hcul
   have:=lenX 0
   have h0:rd s (closed s ks) 0=closed s ks:=rfl
   rw [h0] at this
   omega
  refine ⟨r,_,_,rfl,rfl,hlst6,by rw [List.length_map]; exact Nat.lt_of_le_of_lt hdsl (by decide),?_⟩
  have s7:Same H (upd H6 r (.lst (ds.map V.ref++[V.ref r6]))):=same_upd (s4.trans s46) hr0
  have hr6fr:r6=d∨H r6=none:=by
   rcases hfr6 with e | e
   ·subst e
    exact .inr (s4.free hr50)
   ·exact .inr ((s4.trans s5).free e)
  have hdn:∀ {x:Addr} {X:List Nat},SetAt H6 x X→SetAt (upd H6 r (.lst (ds.map V.ref++[V.ref r6]))) x X:=fun {x X} hs=>by
   unfold SetAt at hs ⊢
   rw [upd_ne (ne_of hs hlst6 (by intro z; cases z))]
   exact hs
  have hlst7:(ds.map V.ref++[V.ref r6])=(ds++[r6]).map V.ref:=by rw [List.map_append]; rfl
  walk_at "2"
  refine r_ixL (.inl (.inl upd_same)) (atI_last _ _) ?_
  walk_at "2"
  have hset7:=hdn hr6
  refine ⟨p,r6,L,s,rd s (closed s ks) (n + 1),rfl,hx.same s7,hset7.keys,ndX (n + 1),inX (n + 1),cloX (n + 1),fun H8 e8 s8 he80 he8=>?_⟩
  walk_at "2"
  refine ⟨_,round_len hne,n + 1,ds++[r6],e8,rfl,rfl,⟨by rw [← hlst7]; exact s8 _ _ upd_same,fun i x hi=>?_⟩,by rw [List.length_append,hdl]; rfl,fun i hi=>?_,he8,s7.trans s8⟩
  ·by_cases hin:i < ds.length
   ·rw [List.getElem?_append_left hin] at hi
    obtain ⟨q1,q2⟩:=hR.at_ i x hi
    exact ⟨s8 _ _ (hdn (s46 _ _ q1)),q2⟩
   ·have hie:i=n + 1:=by
     have:=(List.getElem?_eq_some_iff.mp hi).1
     rw [List.length_append] at this
     have:([r6]:List Addr).length=1:=rfl
     omega
    subst hie
    rw [List.getElem?_append_right (by omega),hdl,Nat.sub_self] at hi
    have:r6=x:=Option.some.inj hi
    subst this
    exact ⟨s8 _ _ hset7,hr6fr⟩
  ·by_cases hin:i < n
   ·exact hcul i hin
   ·have:i=n:=by omega
    subst this
    exact hne
def spGW (c:Cs):Sp:=fun vs H Q _=>∃ (p d:Addr) (L:Lay) (s:State) (ks:List Nat),vs=[.ref p,.ref d]∧HX c H p L s∧SetAt H d ks∧ks.Nodup∧ks.length≤1000∧(∀ k,k∈ks→∃ g,g∈s.groups∧g.key=k) ∧
 ∀ H' r,Same H H'→(r=d∨H r=none)→SetAt H' r (gw s ks)→Q (.ref r) H'
theorem fn_greatest_within (T:Txt K mg c):Fn P w K mg base "greatest_within" 5 ["house","chosen"] (spGW c):=by
 refine T.f_greatest_within.fn sc_greatest_within (fun vs H Q E h=>?_) (fun f cdv A outer sh H vs Q E hr h=>?_)
 ·obtain ⟨p,d,L,s,ks,rfl,_⟩:=h
  rfl
 obtain ⟨p,d,L,s,ks,rfl,hx,hd,hkn,hkl,hkg,k⟩:=h
 have hu:=hu_of hr
 have nd:=sc_greatest_within.nd
 refine ⟨_,(pss_one (ps_ret (pe_ix ix_list (pe_fn (fn_rounds T) (hr.mono (by decide)) rfl (pa_cons (pv 0) (pa_cons (pv 1) pa_nil))) (pe_un un_neg pe_int) (fun _ _=>rfl)))),?_⟩
 try simp only [Cx.nox,Cx.wish,cxOf]
 walk_at "2"
 refine ⟨p,d,L,s,ks,rfl,hx,hd,hkn,hkl,hkg,fun H' r ds n s1 hr0 hR hdl h1 h2=>?_⟩
 obtain ⟨en,hen,hdse⟩:=last_of hdl
 obtain ⟨hset,hfr⟩:=hR.at_ n en hen
 walk_at "2"
 refine r_ixL (.inl (.inl hR.lst)) (atI_end hdse) ?_
 rw [gw_rd h1 h2] at hset
 exact k _ en s1 hfr hset
theorem free_in {s:State} {fs:List Nat} (h:fs.Perm (free s)):∀ k,k∈fs→∃ g,g∈s.groups∧g.key=k:=fun k hk=>by
 obtain ⟨g,hg,e,_⟩:=mem_free.mp (h.mem_iff.mp hk)
 exact ⟨g,hg,e⟩
theorem free_len {s:State} (G:Good s) {fs:List Nat} (h:fs.Perm (free s)):fs.length≤24:=by
 rw [h.length_eq]
 unfold free
 rw [List.length_map]
 exact Nat.le_trans (List.length_filter_le _ _) G.g24
theorem free_nd {L:Lay} {s:State} (r:R L.st s) {fs:List Nat} (h:fs.Perm (free s)):fs.Nodup:=h.nodup_iff.mpr (lt_nodup (free_sorted r))
def spGS (c:Cs):Sp:=fun vs H Q _=>∃ (p:Addr) (L:Lay) (s:State),vs=[.ref p]∧HX c H p L s∧∀ H' r gs,Same H H'→H r=none→SetAt H' r gs→gs.Perm (ready s)→Q (.ref r) H'
theorem fn_greatest_set (T:Txt K mg c):Fn P w K mg base "greatest_set" 6 ["house"] (spGS c):=by
 refine T.f_greatest_set.fn sc_greatest_set (fun vs H Q E h=>?_) (fun f cdv A outer sh H vs Q E hr h=>?_)
 ·obtain ⟨p,L,s,rfl,_⟩:=h
  rfl
 obtain ⟨p,L,s,rfl,hx,k⟩:=h
 have hu:=hu_of hr
 have nd:=sc_greatest_set.nd
 refine ⟨_,(pss_one (ps_ret (pe_fn (fn_greatest_within T) (hr.mono (by decide)) rfl (pa_cons (pv 0) (pa_cons (pe_fn (fn_free_groups T) (hr.mono (by decide)) rfl (pa_cons (pv 0) pa_nil)) pa_nil))))),?_⟩
 try simp only [Cx.nox,Cx.wish,cxOf]
 walk_at "2"
 refine ⟨p,L,s,rfl,hx,fun H1 r1 fs s1 hr10 hr1 hp=>?_⟩
 walk_at "2"
 have hl:=free_len hx.r.good hp
 refine ⟨p,r1,L,s,fs,rfl,hx.same s1,hr1,free_nd hx.r hp,by omega,free_in hp,fun H2 r2 s2 hfr hr2=>?_⟩
 refine k _ r2 (gw s fs) (s1.trans s2) ?_ hr2 ?_
 ·rcases hfr with e | e
  ·subst e
   exact hr10
  ·exact s1.free e
 ·rw [ready_gw]
  exact gw_perm hp
def heldV (s:State):V→Bool
 | .int i=>match groupAt s i.toNat with
  | some g=>g.held
  | none=>false
 | _=>false
theorem hI_eq (h:Bool):decide (hI h=1)=h:=by cases h <;> rfl
def spCan (c:Cs):Sp:=fun vs H Q _=>∃ (p d:Addr) (L:Lay) (s:State) (ks:List Nat),vs=[.ref p,.ref d]∧HX c H p L s∧SetAt H d ks∧ks.Nodup∧ks.length≤1000∧(∀ k,k∈ks→∃ g,g∈s.groups∧g.key=k)∧∀ H',Same H H'→Q (.bl (canGo s ks)) H'
theorem canGo_held {s:State} (G:Good s) {ks:List Nat} (hkg:∀ k,k∈ks→∃ g,g∈s.groups∧g.key=k):(ks.all fun k=>(s.groups.any fun g=>g.key == k && !g.held)) = !((ks.map fun k=>heldV s (vI k)).any id):=by
 rw [Bool.eq_iff_iff,List.all_eq_true,Bool.not_eq_true',List.any_eq_false]
 have key:∀ k,k∈ks→((s.groups.any fun g=>g.key == k && !g.held)=true↔heldV s (vI k)=false):=fun k hk=>by
  obtain ⟨g,hg,rfl⟩:=hkg k hk
  have e:heldV s (vI g.key)=g.held:=by
   show (match groupAt s ((g.key:Int)).toNat with | some g=>g.held | none=>false)=g.held
   rw [Int.toNat_natCast,groupAt_mem G hg]
  rw [e,List.any_eq_true]
  constructor
  ·rintro ⟨g',hg',h⟩
   rw [Bool.and_eq_true,beq_iff_eq] at h
   have:=key_inj (f:=fun g:Group=>g.key) G.gn hg' hg h.1
   subst this
   simpa using h.2
  ·intro h
   exact ⟨g,hg,by rw [beq_self_eq_true,h]; rfl⟩
 constructor
 ·intro h b hb
  obtain ⟨k,hk,rfl⟩:=List.mem_map.mp hb
  rw [(key k hk).mp (h k hk)]
  decide
 ·intro h k hk
  refine (key k hk).mpr ?_
  have:=h (heldV s (vI k)) (List.mem_map.mpr ⟨k,hk,rfl⟩)
  simpa using this
theorem fn_can_go (T:Txt K mg c):Fn P w K mg base "can_go" 3 ["house","chosen"] (spCan c):=by
 refine T.f_can_go.fn sc_can_go (fun vs H Q E h=>?_) (fun f cdv A outer sh H vs Q E hr h=>?_)
 ·obtain ⟨p,d,L,s,ks,rfl,_⟩:=h
  rfl
 obtain ⟨p,d,L,s,ks,rfl,hx,hd,hkn,hkl,hkg,k⟩:=h
 have hu:=hu_of hr
 have nd:=sc_can_go.nd
 refine ⟨_,(pss_cons (ps_if (pt_val (pe_callB (cr_any rfl) rfl T.b_any L2.boot_any (pa_cons (pe_lock (pe_lc rfl nd (pi_keys (pv 1)) (blkOk_by (own:=[("key",2)]) (by simp only [Cx.nox,Cx.wish,cxOf,envOfC]; decide +kernel)) (fun _ _ _ _ _=>pg_name (i:=2) nd rfl (Or.inl rfl)) (fun _ _ _ _ _=>pts_nil) (fun _ _ _ _ _=>(pe_cmpR op_eq (pe_fldK (K:=K) rfl (pe_dget hu (pe_fldK (K:=K) rfl (pv 0) rfl) (pv 2) (fun _ _=>rfl)) rfl) pe_int (nomark _))))) pa_nil))) (pss_one (ps_ret pe_bl)) pss_nil)
   (pss_cons (ps_if (pt_cmpR op_gt (pe_callB call_lenD rfl T.b_len boot_len (pa_cons (pe_fn (fn_blocked_groups T) (hr.mono (by decide)) rfl (pa_cons (pv 0) (pa_cons (pv 1) pa_nil))) pa_nil)) pe_int (nomark _)) (pss_one (ps_ret pe_bl)) pss_nil)
   (pss_one (ps_ret (pe_cmpR op_eq (pe_callB call_lenD rfl T.b_len boot_len (pa_cons (pe_fn (fn_short_accounts T) (hr.mono (by decide)) rfl (pa_cons (pv 0) (pa_cons (pv 1) pa_nil))) pa_nil)) pe_int (nomark _)))))),?_⟩
 try simp only [Cx.nox,Cx.wish,cxOf]
 walk_at "2"
 refine r_lck (i:=2) hd (fun R H' q=>r_var rfl q) (fun _=>true) (fun v=>.bl (heldV s v)) (by rw [sdk_len]; exact hkl) (fun od v hv H' Qb s1 q=>q) (fun od v hv _ H' Q' s1 q=>?_) (fun D hD=>?_)
 ·obtain ⟨kv,hkv,rfl⟩:=List.mem_map.mp hv
  obtain ⟨n,hn,rfl⟩:=List.mem_map.mp hkv
  obtain ⟨g,hg,rfl⟩:=hkg n hn
  obtain ⟨x,hxm,rfl⟩:=lay_grp hx.r hg
  have hat:=(hx.at_.lock hd (od:=od)).same s1
  obtain ⟨dx,hp⟩:=hat.o
  obtain ⟨dg,hgo⟩:=(hat.gs x hxm).o
  walk_at "2"
  refine r_kF hp T.k_House T.n_House_groups lH_g ?_
  walk_at "2"
  refine r_kDG (j:=(x.grp.key:Int)) hat.dg (dg_at hx.r hxm) ?_
  refine r_kF hgo T.k_Group T.n_Group_held lG_h ?_
  walk_at "2"
  rw [hI_eq]
  have e:heldV s (kV (kI x.grp.key))=x.grp.held:=by
   show (match groupAt s ((x.grp.key:Int)).toNat with | some g=>g.held | none=>false)=x.grp.held
   rw [Int.toNat_natCast,groupAt_mem hx.r.good hg]
  rw [e] at q
  exact q
 ·have hlist:(((sdk ks).map fun kv=>kV kv.1).filter fun _=>true).map (fun v=>V.bl (heldV s v))=(ks.map fun k=>heldV s (vI k)).map V.bl:=by
   rw [List.filter_eq_self.mpr (fun _ _=>rfl)]
   unfold sdk
   rw [List.map_map,List.map_map,List.map_map]
   rfl
  rw [hlist]
  have s1:Same H (upd H D (.lst ((ks.map fun k=>heldV s (vI k)).map V.bl))):=same_new hD
  walk_at "2"
  refine ⟨D,_,rfl,.inl (.inl upd_same),?_⟩
  walk_at "2"
  have hcan:canGo s ks=(!((ks.map fun k=>heldV s (vI k)).any id) && ((cutOnce s ks).length == ks.length && s.accounts.all fun a=>(shortOf s ks a).isNone)):=by
   rw [← canGo_held hx.r.good hkg]
   rfl
  cases hany:(ks.map fun k=>heldV s (vI k)).any id with
  | true =>
   refine iteT ?_
   walk_at "2"
   have:=k _ s1
   rw [hcan,hany] at this
   exact this
  | false =>
   refine iteF ?_
   walk_at "2"
   refine ⟨p,d,L,s,ks,rfl,hx.same s1,SetAt.keys (s1 _ _ hd),fun H2 e2 bs s2 he20 he2 hbn hb=>?_⟩
   walk_at "2"
   refine ⟨e2,_,rfl,he2,?_⟩
   walk_at "2"
   rw [sdk_len]
   cases hbs:bs with
   | cons b0 bs0 =>
    refine ite2 (fun _=>?_) (fun hno=>absurd (by rw [decide_eq_true_eq,List.length_cons]; omega) hno)
    walk_at "2"
    have:=k _ (s1.trans s2)
    have hne:((cutOnce s ks).length == ks.length)=false:=by
     rw [beq_eq_false_iff_ne]
     intro e
     have h0:=(hb b0).mp (by rw [hbs]; exact List.mem_cons_self ..)
     exact h0.2 (by rw [cutOnce_eq e]; exact h0.1)
    rw [hcan,hne,Bool.false_and,Bool.and_false] at this
    exact this
   | nil =>
    refine iteF ?_
    walk_at "2"
    have s12:=s1.trans s2
    refine ⟨p,d,L,s,ks,rfl,hx.same s12,SetAt.keys (s12 _ _ hd),hkn,hkg,fun H3 r3 s3 hr30 hr3=>?_⟩
    walk_at "2"
    refine ⟨r3,_,rfl,hr3,?_⟩
    walk_at "2"
    have heq:((cutOnce s ks).length == ks.length)=true:=by
     have:cutOnce s ks=ks:=by
      rw [← cutOnce_filter (X:=ks) (bs:=[]) (by rw [← hbs]; exact hb)]
      exact List.filter_eq_self.mpr fun k _=>rfl
     rw [this,beq_self_eq_true]
    have:=k _ (s12.trans s3)
    rw [hcan,heq,hany] at this
    have e:decide (((pairs (shorts s ks s.accounts)).length:Int)=0)=s.accounts.all fun a=>(shortOf s ks a).isNone:=by
     rw [Bool.eq_iff_iff,decide_eq_true_eq,List.all_eq_true]
     unfold pairs
     rw [List.length_map]
     constructor
     ·intro h a ha
      have h0:shorts s ks s.accounts=[]:=List.eq_nil_of_length_eq_zero (by omega)
      unfold shorts at h0
      rw [List.filterMap_eq_nil_iff] at h0
      have:=h0 a ha
      rw [Option.map_eq_none_iff] at this
      rw [this]
      rfl
     ·intro h
      have h0:shorts s ks s.accounts=[]:=by
       unfold shorts
       rw [List.filterMap_eq_nil_iff]
       intro a ha
       have:=h a ha
       rw [Option.isNone_iff_eq_none] at this
       rw [this]
       rfl
      rw [h0]
      rfl
    rw [e]
    exact this
end
local macro_rules | `(tactic| walk_at "3") => `(tactic| repeat (first
 | with_reducible refine r_seq ?_ | with_reducible refine r_ret ?_ | with_reducible refine r_if ?_ | with_reducible refine r_set ?_ | with_reducible refine r_drop ?_
 | (with_reducible show tVar _ _ _ _; refine r_var rfl ?_) | with_reducible refine r_c ?_ | with_reducible refine r_op ?_ | with_reducible refine r_un ?_ | with_reducible refine r_I0 ?_ | with_reducible refine r_U ?_
 | with_reducible refine r_eqI ?_ | with_reducible refine r_neI ?_ | with_reducible refine r_tB ?_ | with_reducible refine r_test ?_ | with_reducible refine r_kT ?_ | with_reducible refine r_not ?_ | with_reducible refine r_and ?_ | with_reducible refine r_or ?_
 | with_reducible refine r_andV ?_ | with_reducible refine r_kAndV ?_ | with_reducible refine r_notV ?_ | with_reducible refine r_kNotV ?_ | with_reducible refine r_ife ?_ | with_reducible refine r_chain ?_ | with_reducible refine r_kCh ?_
 | with_reducible refine r_fld ?_ | with_reducible refine r_dget ?_ | with_reducible refine r_din ?_ | with_reducible refine r_dnin ?_ | with_reducible refine r_dput ?_ | with_reducible refine r_dnew ?_ | with_reducible refine r_lst ?_
 | with_reducible refine r_nil ?_ | with_reducible refine r_cons ?_ | with_reducible refine r_call ?_ | with_reducible refine r_make ?_ | with_reducible refine r_cb ?_ | with_reducible refine r_sfld ?_ | with_reducible refine r_bm ?_ | with_reducible refine r_next ?_ | with_reducible refine r_gn ?_ | with_reducible refine r_for ?_ | with_reducible refine r_daug ?_ | with_reducible refine r_frz ?_ | with_reducible refine r_forK ?_ | with_reducible refine r_sl ?_ | with_reducible refine r_noP ?_ | with_reducible refine r_part ?_ | with_reducible refine r_kP ?_ | with_reducible refine r_lc0 ?_))
theorem inV_nat (k:Nat) (row:List Nat):inV (vI k) (row.map vI)=row.contains k:=by
 unfold inV
 rw [Bool.eq_iff_iff,List.any_eq_true,List.contains_iff_mem]
 constructor
 ·rintro ⟨y,hy,e⟩
  obtain ⟨n,hn,rfl⟩:=List.mem_map.mp hy
  have e':((n:Int) == (k:Int))=true:=e
  rw [beq_iff_eq] at e'
  have:n=k:=by omega
  subst this
  exact hn
 ·intro h
  exact ⟨vI k,List.mem_map.mpr ⟨k,h,rfl⟩,by show ((k:Int) == (k:Int))=true; exact beq_self_eq_true _⟩
theorem flat_map (row:List Nat):(row.map vI).all flatV=true:=by
 rw [List.all_eq_true]
 intro v hv
 obtain ⟨n,_,rfl⟩:=List.mem_map.mp hv
 rfl
theorem tw_idx {k:Nat}:∀ {row:List Nat},k∈row→row[(row.takeWhile fun x=>x != k).length]?=some k∧row.take (row.takeWhile fun x=>x != k).length=row.takeWhile (fun x=>x != k)∧∀ m z,m < (row.takeWhile fun x=>x != k).length→row[m]?=some z→z≠k
 | y::r,h=>by
  by_cases e:y=k
  ·subst e
   have:(y::r).takeWhile (fun x=>x != y)=[]:=List.takeWhile_cons_of_neg (by simp)
   rw [this]
   exact ⟨rfl,rfl,fun m z hm=>by simp at hm⟩
  ·have:(y::r).takeWhile (fun x=>x != k)=y::r.takeWhile (fun x=>x != k):=List.takeWhile_cons_of_pos (by simpa using e)
   rw [this]
   have hk:k∈r:=by
    rcases List.mem_cons.mp h with q | q
    ·exact absurd q.symm e
    ·exact q
   obtain ⟨h1,h2,h3⟩:=tw_idx hk
   refine ⟨by rw [List.length_cons,List.getElem?_cons_succ]; exact h1,by rw [List.length_cons,List.take_succ_cons,h2],fun m z hm hz=>?_⟩
   cases m with
   | zero =>
    have:y=z:=Option.some.inj hz
    subst this
    exact e
   | succ m =>
    rw [List.getElem?_cons_succ] at hz
    exact h3 m z (by rw [List.length_cons] at hm; omega) hz
theorem Paired_append {α β:Type} {F:α→β→Prop}:∀ {l₁ l₂:List α} {r₁ r₂:List β},Paired F l₁ r₁→Paired F l₂ r₂→Paired F (l₁++l₂) (r₁++r₂)
 | _,_,_,_,.nil,t=>t
 | _,_,_,_,.cons h t,u=>.cons h (Paired_append t u)
def ahL (s:State) (X:List Nat) (k:Nat) (l:List Account):List (Nat×Nat):=l.filterMap fun a=>if a.row.contains k=true then ((a.row.takeWhile fun x=>x != k).filter fun x=>!X.contains x).head?.map fun g=>(a.key,g) else none
section
variable {P:Program} {w:World} {K:PySem.W.Frag} {mg:Str→Option Value} {base:Heap} {c:Cs}
def spAhead (c:Cs):Sp:=fun vs H Q _=>∃ (p d:Addr) (L:Lay) (s:State) (k:Nat) (ks:List Nat) (kd:List (Key×V)) (a g:Nat) (rest:List (Nat×Nat)),vs=[.ref p,vI k,.ref d]∧HX c H p L s∧Rd H d (.dK kd)∧kd.map (·.1)=ks.map kI∧aheads s ks k=(a,g)::rest ∧
 ∀ H' r,Same H H'→H r=none→H' r=some (.lst [vI a,vI g])→Q (.ref r) H'
theorem fn_first_ahead (T:Txt K mg c):Fn P w K mg base "first_ahead" 1 ["house","key","chosen"] (spAhead c):=by
 refine T.f_first_ahead.fn sc_first_ahead (fun vs H Q E h=>?_) (fun f cdv A outer sh H vs Q E hr h=>?_)
 ·obtain ⟨p,d,L,s,k,ks,kd,a,g,rest,rfl,_⟩:=h
  rfl
 obtain ⟨p,d,L,s,kk,ks,kd,a0,g0,rest,rfl,hx,hd,hk,hah,k⟩:=h
 have hu:=hu_of hr
 have nd:=sc_first_ahead.nd
 refine ⟨_,(pss_cons (ps_set (i:=3) nd rfl (Or.inl rfl) (pe_lst pa_nil))
   (pss_cons (ps_for PassesOwn.never rfl (pi_list (pe_callB (call_sortedD rfl) rfl T.b_sorted L2.boot_sorted (pa_cons (pe_fld (pv 0) rfl) pa_nil))) (pg_name (i:=4) nd rfl (Or.inl rfl)) (pss_cons (ps_set (i:=5) nd rfl (Or.inl rfl) (pe_fld (pe_dget hu (pe_fld (pv 0) rfl) (pv 4) (fun _ _=>rfl)) rfl))
   (pss_one (ps_if (pt_cmpR op_in_seq (pv 1) (pv 5) rfl) (pss_cons (ps_setLc (i:=6) rfl nd rfl rfl (sw_true rfl rfl rfl rfl) (pi_list (pe_slice sl_list (pv 5) po_none (po_some (pe_bm PySem.F.plainAttrs_list PySem.F.slot_list_index PySem.F.type_list_index mt_index (pv 5) (pa_cons (pv 1) pa_nil))))) (blkOk_by (own:=[("other",7)]) (by simp only [Cx.nox,Cx.wish,cxOf,envOfC]; decide +kernel)) (fun _ _ _ _ _=>pg_name (i:=7) nd rfl (Or.inl rfl)) (fun _ _ _ _ _=>(pts_one (pt_cmp (pc_dnotin hu (pv 7) (pv 2)) rfl))) (fun _ _ _ _ _=>(pv 7)))
   (pss_one (ps_if (pt_cmpR op_gt (pe_callB call_len_seq rfl T.b_len boot_len (pa_cons (pv 6) pa_nil)) pe_int (nomark _)) (pss_one (ps_expr (pe_bm PySem.F.plainAttrs_list PySem.F.slot_list_append PySem.F.type_list_append mt_append (pv 3) (pa_cons (pe_lst (pa_cons (pv 4) (pa_cons (pe_ix ix_list (pv 6) pe_int (fun _ _=>rfl)) pa_nil))) pa_nil)))) pss_nil))) pss_nil))))
   (pss_one (ps_ret (pe_ix ix_list (pv 3) pe_int (fun _ _=>rfl)))))),?_⟩
 try simp only [Cx.nox,Cx.wish,cxOf]
 walk_at "3"
 refine r_kL (by show 0≤1000; decide) fun r hr0=>?_
 have s2:Same H (upd H r (.lst [])):=same_new hr0
 obtain ⟨dx,hp⟩:=hx.at_.o
 walk_at "3"
 refine r_kF (s2 _ _ hp) T.k_House T.n_House_accounts lH_a ?_
 walk_at "3"
 refine ⟨L.pa,L.da,(L.as.map fun x=>x.acc.key).map fun (k:Nat)=>(k:Int),rfl,.inl (s2 _ _ hx.ea),by rw [da_keys,inl_map],by rw [List.length_map,List.length_map]; have:=lay8 hx.r; omega,fun ns' pl hp1 hp2 hpl=>?_⟩
 have e:=sort_eq hp1 hp2 (lay_keys hx.r) hx.r.keysA
 subst e
 rw [ints_map]
 have hpl1:H pl=none:=s2.free hpl
 have hrpl:r≠pl:=ne_of_none upd_same hpl
 refine r_kFor (xs:=(s.accounts.map (·.key)).map vI) (fun i σ' H'=>∃ es v4 v5 v6,σ'=[some (.ref p),some (vI kk),some (.ref d),some (.ref r),v4,v5,v6,none]∧H' r=some (.lst (es.map V.ref))∧H' pl=some (.lst ((s.accounts.map (·.key)).map vI)) ∧
   Paired (fun (e:Addr) (y:Nat×Nat)=>H' e=some (.lst [vI y.1,vI y.2])∧H e=none∧e≠r) es (ahL s ks kk (s.accounts.take i))∧Same H H')
  ⟨[],none,none,none,rfl,by rw [upd_ne hrpl,upd_same]; rfl,upd_same,.nil,same_upd s2 hpl1⟩ (fun i σ' H' ⟨_,_,_,_,_,_,hl,_⟩=>.inl (.inl hl)) ?_ ?_
 ·rintro i y σ' H' D2 hy ⟨es,v4,v5,v6,rfl,hr2,hl2,hes,s3⟩ hD
  rw [List.map_map] at hy
  obtain ⟨a,hai,rfl⟩:=map_at hy
  have ham:a∈s.accounts:=List.mem_of_getElem? hai
  obtain ⟨x,hxm,rfl⟩:=lay_acc hx.r ham
  have hx3:=hx.same s3
  obtain ⟨dx3,hp3⟩:=hx3.at_.o
  have hA3:=hx3.at_.as x hxm
  obtain ⟨da3,hao3⟩:=hA3.o
  walk_at "3"
  refine r_kF hp3 T.k_House T.n_House_accounts lH_a ?_
  walk_at "3"
  refine r_kDG (j:=(x.acc.key:Int)) hx3.at_.da (da_at hx.r hxm) ?_
  refine r_kF hao3 T.k_Account T.n_Account_row lA_r ?_
  walk_at "3"
  refine ⟨_,_,rfl,.inl (.inl hA3.ro),rfl,flat_map _,?_⟩
  walk_at "3"
  show if (inV (vI kk) (x.acc.row.map vI))=true then _ else _
  rw [inV_nat]
  by_cases hin:kk∈x.acc.row
  ·rw [if_pos (List.contains_iff_mem.mpr hin)]
   obtain ⟨t1,t2,t3⟩:=tw_idx hin
   walk_at "3"
   refine r_kBl (.inl hA3.ro) ?_
   walk_at "3"
   refine ⟨_,_,_,(x.acc.row.takeWhile fun x=>x != kk).length,vI kk,rfl,rfl,.inl hA3.ro,rfl,flat_map _,by rw [List.getElem?_map,t1]; rfl,(by show ((kk:Int) == (kk:Int))=true; exact beq_self_eq_true _),fun m z hm hz=>?_,?_⟩
   ·obtain ⟨n,hn,rfl⟩:=map_at hz
    have:=t3 m n hm hn
    show ((n:Int) == (kk:Int))=false
    rw [beq_eq_false_iff_ne]
    omega
   walk_at "3"
   have hjl:(x.acc.row.takeWhile fun x=>x != kk).length≤(x.acc.row.map vI).length:=by
    rw [List.length_map]
    exact (List.takeWhile_sublist _).length_le
   refine r_kSl (.inl hA3.ro) fun q hq=>?_
   rw [cut_take hjl,← List.map_take,t2]
   have s4:Same H' (upd H' q (.lst ((x.acc.row.takeWhile fun x=>x != kk).map vI))):=same_new hq
   refine r_kLc (i:=7) (fun v=>!(valV kd (keyV v)).isSome) (fun v=>v) (.inl (.inl upd_same)) ?_ (fun v hv H4 Qb s5 qq=>?_) (fun v hv _ H4 Q' s5 qq=>r_var rfl qq) (fun D hD0=>?_)
   ·rw [List.length_map]
    have h1:=(List.takeWhile_sublist (fun x=>x != kk) (l:=x.acc.row)).length_le
    have h2:=row_len hx.r.good ham
    omega
   ·obtain ⟨n,hn,rfl⟩:=List.mem_map.mp hv
    exact r_tB (r_dnin (r_var rfl (r_var rfl (r_kDN (j:=(n:Int)) (rd_same (s3.trans (s4.trans s5)) hd) (r_kT qq)))))
   ·have hlist:(((x.acc.row.takeWhile fun x=>x != kk).map vI).filter fun v=>!(valV kd (keyV v)).isSome).map (fun v=>v)=((x.acc.row.takeWhile fun x=>x != kk).filter fun n=>!ks.contains n).map vI:=by
     rw [List.map_id'' (fun _=>rfl),List.filter_map]
     refine congrArg (List.map vI) (List.filter_congr fun n _=>?_)
     show (!(valV kd (kI n)).isSome)=_
     rw [keys_in hk n]
    rw [hlist]
    have s5:Same H' (upd (upd H' q (.lst ((x.acc.row.takeWhile fun x=>x != kk).map vI))) D (.lst (((x.acc.row.takeWhile fun x=>x != kk).filter fun n=>!ks.contains n).map vI))):=s4.trans (same_new hD0)
    walk_at "3"
    refine ⟨D,_,rfl,.inl (.inl (.inl upd_same)),?_⟩
    walk_at "3"
    rw [List.length_map]
    have hstep:ahL s ks kk (s.accounts.take (i + 1))=ahL s ks kk (s.accounts.take i)++(match ((x.acc.row.takeWhile fun x=>x != kk).filter fun n=>!ks.contains n).head? with | some g=>[(x.acc.key,g)] | none=>[]):=by
     rw [take_snoc hai]
     unfold ahL
     rw [List.filterMap_append,List.filterMap_cons,if_pos (List.contains_iff_mem.mpr hin)]
     cases ((x.acc.row.takeWhile fun x=>x != kk).filter fun n=>!ks.contains n).head? with
     | none=>rfl
     | some g=>rfl
    have hes5:=Paired.mapP hes fun e y ⟨q1,q2,q3⟩=>(⟨s5 _ _ q1,q2,q3⟩:_∧_∧_)
    cases hfl:(x.acc.row.takeWhile fun x=>x != kk).filter fun n=>!ks.contains n with
    | nil =>
     rw [hfl] at hstep s5 hes5
     refine iteF ?_
     walk_at "3"
     refine hD _ _ ⟨es,_,_,_,rfl,s5 _ _ hr2,s5 _ _ hl2,?_,s3.trans s5⟩
     rw [hstep]
     show Paired _ es (_++[])
     rw [List.append_nil]
     exact hes5
    | cons g1 gr =>
     rw [hfl] at hstep s5 hes5
     refine ite2 (fun _=>?_) (fun hno=>absurd (by rw [decide_eq_true_eq,List.length_cons]; omega) hno)
     walk_at "3"
     refine r_kBl (.inl (.inl (s5 _ _ hr2))) ?_
     walk_at "3"
     refine r_ixL (.inl (.inl upd_same)) (v:=vI g1) (atI_nat (j:=0) rfl) ?_
     walk_at "3"
     refine r_kL (by show 2≤1000; decide) fun n hn=>?_
     walk_at "3"
     have hn':=s5.free hn
     have hnH:H n=none:=(s3.trans s5).free hn
     have hrn:r≠n:=ne_of_none hr2 hn'
     have hlen:es.length≤8:=by
      have h1:es.length=(ahL s ks kk (s.accounts.take i)).length:=Paired.length hes
      have h2:(ahL s ks kk (s.accounts.take i)).length≤(s.accounts.take i).length:=List.length_filterMap_le _ _
      have h3:=take_len_le s.accounts i
      have:=hx.r.good.a8
      omega
     refine ⟨r,_,_,rfl,rfl,by rw [upd_ne hrn]; exact s5 _ _ hr2,by rw [List.length_map]; exact small1000 (by omega),?_⟩
     have s6:Same H _:=same_upd (o:=.lst (es.map V.ref++[V.ref n])) ((s3.trans s5).trans (same_new (o:=.lst [vI x.acc.key,vI g1]) hn)) hr0
     walk_at "3"
     refine hD _ _ ⟨es++[n],_,_,_,rfl,?_,?_,?_,s6⟩
     ·rw [upd_same,List.map_append]
      rfl
     ·rw [upd_ne (Ne.symm hrpl),upd_ne (ne_of_none hl2 hn')]
      exact s5 _ _ hl2
     ·rw [hstep]
      refine Paired_append (Paired.mapP hes5 fun e y ⟨q1,q2,q3⟩=>⟨?_,q2,q3⟩) (.cons ⟨?_,hnH,Ne.symm hrn⟩ .nil)
      ·rw [upd_ne q3,upd_ne (ne_of_none q1 hn)]
       exact q1
      ·rw [upd_ne (Ne.symm hrn),upd_same]
       rfl
  ·rw [if_neg (fun e=>hin (List.contains_iff_mem.mp e))]
   walk_at "3"
   refine hD _ _ ⟨es,_,_,_,rfl,hr2,hl2,?_,s3⟩
   rw [take_snoc hai]
   unfold ahL at hes ⊢
   rw [List.filterMap_append,List.filterMap_cons,if_neg (fun e=>hin (List.contains_iff_mem.mp e)),List.filterMap_nil,List.append_nil]
   exact hes
 ·rintro σ' H' ⟨es,v4,v5,v6,rfl,hr2,hl2,hes,s3⟩
  walk_at "3"
  rw [List.length_map,List.length_map,List.take_length] at hes
  have hah':ahL s ks kk s.accounts=(a0,g0)::rest:=hah
  rw [hah'] at hes
  cases hes with
  | cons q t =>
   refine r_ixL (.inl (.inl hr2)) (atI_nat (j:=0) rfl) ?_
   exact k _ _ s3 q.2.1 q.1
end
theorem why_held {s:State} {k:Nat} {g:Group} (hg:g∈s.groups) (e:g.key=k) (h:g.held=true):whyOf s k=[0,3,0,0]:=by
 unfold whyOf
 rw [if_pos (List.any_eq_true.mpr ⟨g,hg,by rw [e,h,beq_self_eq_true]; rfl⟩)]
theorem why_not {s:State} (G:Good s) {k:Nat} {g:Group} (hg:g∈s.groups) (e:g.key=k) (h:g.held=false):¬ (s.groups.any fun g=>g.key == k && g.held)=true:=fun q=>by
 obtain ⟨g',hg',h'⟩:=List.any_eq_true.mp q
 rw [Bool.and_eq_true,beq_iff_eq] at h'
 have:=key_inj (f:=fun g:Group=>g.key) G.gn hg' hg (h'.1.trans e.symm)
 subst this
 rw [h] at h'
 exact absurd h'.2 (by decide)
theorem why_zero {s:State} (G:Good s) {k:Nat} {g:Group} (hg:g∈s.groups) (e:g.key=k) (h:g.held=false) (h2:¬ k∈unheld s):whyOf s k=0::blockedBy s (unheld s) k:=by
 unfold whyOf
 rw [if_neg (why_not G hg e h),if_pos (by rw [← Bool.not_eq_true,List.contains_iff_mem]; exact h2)]
theorem why_succ {s:State} (G:Good s) {k j:Nat} {g:Group} (hg:g∈s.groups) (e:g.key=k) (h:g.held=false) (h1:∀ i,i≤j→k∈rd s (unheld s) i) (h2:¬ k∈rd s (unheld s) (j + 1)) (hj:j < s.groups.length + 1) :
  whyOf s k=(j + 1)::(match reasonIn s (rd s (unheld s) j) k with | []=>blockedBy s (rd s (unheld s) (j + 1)) k | r=>r):=by
 unfold whyOf
 rw [if_neg (why_not G hg e h),if_neg (by rw [show (unheld s).contains k=true from List.contains_iff_mem.mpr (h1 0 (Nat.zero_le _))]; decide),whyFrom_at h1 h2 hj,Nat.add_comm 1 j]
 all_goals rfl
def hasK (H:Hp) (k:Nat):V→Bool
 | .ref e=>match H e with
  | some (.dK kvs)=>(valV kvs (kI k)).isSome
  | _=>false
 | _=>false
theorem filter_len {α:Type} (p:α→Bool):∀ l:List α,(l.filter p).length=((l.map p).filter id).length
 | []=>rfl
 | x::l=>by
  rw [List.filter_cons,List.map_cons,List.filter_cons]
  cases h:p x with
  | true =>
   show (x::l.filter p).length=(true::(l.map p).filter id).length
   rw [List.length_cons,List.length_cons,filter_len p l]
  | false =>
   show (l.filter p).length=((l.map p).filter id).length
   exact filter_len p l
theorem rounds_count {H0 H:Hp} {d r:Addr} {s:State} {X0:List Nat} {ds:List Addr} {n k:Nat} (h:RoundsAt H0 H d r s X0 ds) (hl:ds.length=n + 1):((ds.map V.ref).filter (hasK H k)).length=(((List.range (n + 1)).map (rd s X0)).filter fun Y=>Y.contains k).length:=by
 rw [filter_len,filter_len (fun Y:List Nat=>Y.contains k)]
 congr 2
 rw [List.map_map,List.map_map]
 refine List.ext_getElem? fun i=>?_
 rw [List.getElem?_map,List.getElem?_map]
 by_cases hi:i < n + 1
 ·obtain ⟨e,he⟩:∃ e,ds[i]?=some e:=⟨_,List.getElem?_eq_getElem (by omega)⟩
  rw [he,List.getElem?_range hi]
  have q:=(h.at_ i e he).1
  have hh:hasK H k (V.ref e)=(rd s X0 i).contains k:=by
   show (match H e with | some (.dK kvs)=>(valV kvs (kI k)).isSome | _=>false)=_
   rw [show H e=some (.dK (sdk (rd s X0 i))) from q]
   exact keys_in (sdk_keys _) k
  exact congrArg some hh
 ·rw [List.getElem?_eq_none (by omega),List.getElem?_eq_none (by rw [List.length_range]; omega)]
  rfl
section
variable {P:Program} {w:World} {K:PySem.W.Frag} {mg:Str→Option Value} {base:Heap} {c:Cs}
def reasonL (s:State) (k:Nat):List Nat:=if (ready s).contains k=true then [] else whyOf s k
def spReason (c:Cs):Sp:=fun vs H Q _=>∃ (p:Addr) (L:Lay) (s:State) (g:Group),vs=[.ref p,vI g.key]∧HX c H p L s∧g∈s.groups∧∀ H' r,Same H H'→H r=none→H' r=some (.lst ((reasonL s g.key).map vI))→Q (.ref r) H'
theorem fn_reason (T:Txt K mg c):Fn P w K mg base "reason" 5 ["house","key"] (spReason c):=by
 refine T.f_reason.fn sc_reason (fun vs H Q E h=>?_) (fun f cdv A outer sh H vs Q E hr h=>?_)
 ·obtain ⟨p,L,s,g,rfl,_⟩:=h
  rfl
 obtain ⟨p,L,s,g,rfl,hx,hg,k⟩:=h
 have hu:=hu_of hr
 have nd:=sc_reason.nd
 refine ⟨_,(pss_cons (ps_if (pt_cmpR op_eq (pe_fld (pe_dget hu (pe_fld (pv 0) rfl) (pv 1) (fun _ _=>rfl)) rfl) pe_int (nomark _)) (pss_one (ps_ret (pe_lst (pa_cons pe_int (pa_cons (pe_gint T.c_HELD) (pa_cons pe_int (pa_cons pe_int pa_nil))))))) pss_nil)
   (pss_cons (ps_set (i:=2) nd rfl (Or.inl rfl) (pe_fn (fn_rounds T) (hr.mono (by decide)) rfl (pa_cons (pv 0) (pa_cons (pe_fn (fn_free_groups T) (hr.mono (by decide)) rfl (pa_cons (pv 0) pa_nil)) pa_nil))))
   (pss_cons (ps_if (pt_cmp (pc_din hu (pv 1) (pe_ix ix_list (pv 2) (pe_un un_neg pe_int) (fun _ _=>rfl))) rfl) (pss_one (ps_ret (pe_lst pa_nil))) pss_nil)
   (pss_cons (ps_set (i:=3) nd rfl (Or.inl rfl) (pe_callB call_len_seq rfl T.b_len boot_len (pa_cons (pe_lc rfl nd (pi_list (pv 2)) (blkOk_by (own:=[("chosen",6)]) (by simp only [Cx.nox,Cx.wish,cxOf,envOfC]; decide +kernel)) (fun _ _ _ _ _=>pg_name (i:=6) nd rfl (Or.inl rfl)) (fun _ _ _ _ _=>(pts_one (pt_cmp (pc_din hu (pv 1) (pv 6)) rfl))) (fun _ _ _ _ _=>(pv 6))) pa_nil)))
   (pss_cons (ps_if (pt_cmpR op_gt (pv 3) pe_int (nomark _)) (pss_cons (ps_set (i:=4) nd rfl (Or.inl rfl) (pe_ix ix_list (pv 2) (pe_op op_sub (pv 3) pe_int) (fun _ _=>rfl)))
   (pss_cons (ps_set (i:=5) nd rfl (Or.inl rfl) (pe_fn (fn_culprits T) (hr.mono (by decide)) rfl (pa_cons (pv 0) (pa_cons (pv 4) pa_nil))))
   (pss_one (ps_if (pt_cmp (pc_din hu (pv 1) (pv 5)) rfl) (pss_one (ps_ret (pe_lst (pa_cons (pv 3) (pa_cons (pe_gint T.c_SHORT) (pa_cons (pe_dget hu (pv 5) (pv 1) (fun _ _=>rfl)) (pa_cons (pe_dget hu (pe_fn (fn_short_accounts T) (hr.mono (by decide)) rfl (pa_cons (pv 0) (pa_cons (pv 4) pa_nil))) (pe_dget hu (pv 5) (pv 1) (fun _ _=>rfl)) (fun _ _=>rfl)) pa_nil))))))) pss_nil)))) pss_nil)
   (pss_one (ps_ret (pe_op op_cat (pe_lst (pa_cons (pv 3) (pa_cons (pe_gint T.c_BEHIND) pa_nil))) (pe_fn (fn_first_ahead T) (hr.mono (by decide)) rfl (pa_cons (pv 0) (pa_cons (pv 1) (pa_cons (pe_ix ix_list (pv 2) (pv 3) (fun _ _=>rfl)) pa_nil)))))))))))),?_⟩
 try simp only [Cx.nox,Cx.wish,cxOf]
 obtain ⟨x,hxm,rfl⟩:=lay_grp hx.r hg
 obtain ⟨dx,hp⟩:=hx.at_.o
 obtain ⟨dg,hgo⟩:=(hx.at_.gs x hxm).o
 have G:=hx.r.good
 walk_at "3"
 refine r_kF hp T.k_House T.n_House_groups lH_g ?_
 walk_at "3"
 refine r_kDG (j:=(x.grp.key:Int)) hx.at_.dg (dg_at hx.r hxm) ?_
 refine r_kF hgo T.k_Group T.n_Group_held lG_h ?_
 walk_at "3"
 rw [hI_eq]
 cases hheld:x.grp.held with
 | true =>
  refine iteT ?_
  walk_at "3"
  refine r_kL (by show 4≤1000; decide) fun r hr0=>?_
  refine k _ r (same_new hr0) hr0 ?_
  have hnr:¬ (ready s).contains x.grp.key=true:=fun q=>by
   obtain ⟨g',hg',e',h'⟩:=mem_free.mp (ready_sub (List.contains_iff_mem.mp q))
   have:=key_inj (f:=fun g:Group=>g.key) G.gn hg' hg e'
   subst this
   rw [hheld] at h'
   cases h'
  unfold reasonL
  rw [upd_same,if_neg hnr,why_held hg rfl hheld]
  rfl
 | false =>
  refine iteF ?_
  walk_at "3"
  refine ⟨p,L,s,rfl,hx,fun H1 r1 fs s1 hr10 hr1 hpm=>?_⟩
  walk_at "3"
  have hl:=free_len G hpm
  refine ⟨p,r1,L,s,fs,rfl,hx.same s1,hr1,free_nd hx.r hpm,by omega,free_in hpm,fun H2 r ds n s2 hr20 hR hdl hc1 hc2=>?_⟩
  have s12:=s1.trans s2
  have hx2:=hx.same s12
  have hXp:(closed s fs).Perm (unheld s):=closed_perm hpm
  have hrdm:∀ i k,k∈rd s (closed s fs) i↔k∈rd s (unheld s) i:=fun i k=>(rd_perm hXp i).mem_iff
  obtain ⟨en,hen,hdse⟩:=last_of hdl
  obtain ⟨hset,_⟩:=hR.at_ n en hen
  have hgw:rd s (closed s fs) n=gw s fs:=gw_rd hc1 hc2
  have hrdy:∀ k,k∈rd s (closed s fs) n↔k∈ready s:=fun k=>by
   rw [hgw,ready_gw]
   exact (gw_perm hpm).mem_iff
  walk_at "3"
  refine r_ixL (.inl (.inl hR.lst)) (atI_end hdse) ?_
  walk_at "3"
  refine r_kDI (j:=(x.grp.key:Int)) (.inl hset) ?_
  walk_at "3"
  rw [show (valV (sdk (rd s (closed s fs) n)) (Sum.inl (x.grp.key:Int))).isSome=(rd s (closed s fs) n).contains x.grp.key from keys_in (sdk_keys _) _]
  by_cases hin:x.grp.key∈rd s (closed s fs) n
  ·rw [if_pos (List.contains_iff_mem.mpr hin)]
   walk_at "3"
   refine r_kL (by show 0≤1000; decide) fun q hq0=>?_
   refine k _ q (s12.trans (same_new hq0)) (s12.free hq0) ?_
   unfold reasonL
   rw [upd_same,if_pos (List.contains_iff_mem.mpr ((hrdy _).mp hin))]
   rfl
  ·rw [if_neg (fun e=>hin (List.contains_iff_mem.mp e))]
   have hnr:¬ (ready s).contains x.grp.key=true:=fun e=>hin ((hrdy _).mpr (List.contains_iff_mem.mp e))
   obtain ⟨j,hjn,hj1,hj2⟩:=first_out hin
   have hlenX:=rd_len (s:=s) (X:=closed s fs) hc1
   have hlen24:(closed s fs).length≤s.groups.length:=by
    have h1:=(closed_sublist s fs).length_le
    have h2:fs.length≤s.groups.length:=by
     rw [hpm.length_eq]
     unfold free
     rw [List.length_map]
     exact List.length_filter_le _ _
    omega
   have hg24:=G.g24
   walk_at "3"
   refine r_kLc (i:=6) (xs:=ds.map V.ref) (hasK H2 x.grp.key) (fun v=>v) (.inl (.inl hR.lst)) (by rw [List.length_map]; omega) (fun v hv H4 Qb s5 qq=>?_) (fun v hv _ H4 Q' s5 qq=>r_var rfl qq) (fun D hD0=>?_)
   ·obtain ⟨e,he,rfl⟩:=List.mem_map.mp hv
    obtain ⟨i,hi⟩:=List.getElem?_of_mem he
    have hs:=(hR.at_ i e hi).1
    have:hasK H2 x.grp.key (.ref e)=(valV (sdk (rd s (closed s fs) i)) (Sum.inl (x.grp.key:Int))).isSome:=by
     show (match H2 e with | some (.dK kvs)=>(valV kvs (kI x.grp.key)).isSome | _=>false)=_
     rw [show H2 e=some (.dK (sdk (rd s (closed s fs) i))) from hs]
     rfl
    rw [this] at qq
    exact r_tB (r_din (r_var rfl (r_var rfl (r_kDI (j:=(x.grp.key:Int)) (.inl (s5 _ _ hs)) (r_kT qq)))))
   ·have s3:Same H2 (upd H2 D (.lst (((ds.map V.ref).filter (hasK H2 x.grp.key)).map fun v=>v))):=same_new hD0
    have hcount:((((ds.map V.ref).filter (hasK H2 x.grp.key)).map fun v=>v).length:Int)=(j:Int):=by
     rw [List.length_map,rounds_count hR hdl,count_rd (by omega) hj1 hj2]
    walk_at "3"
    refine ⟨D,_,rfl,.inl (.inl (.inl upd_same)),?_⟩
    rw [hcount]
    generalize hH3:upd H2 D (.lst (((ds.map V.ref).filter (hasK H2 x.grp.key)).map fun v=>v))=H3 at s3
    have hx3:=hx2.same s3
    have s13:=s12.trans s3
    walk_at "3"
    have tail:∀ (H4:Hp) (v4 v5:Option V),Same H3 H4→(¬ j=0→¬ x.grp.key∈culprits s (rd s (closed s fs) (j - 1))) →
      tRet (tOp rCat (tLst (tCons (tVar 3) (tCons (tC (V.int 2)) tNil))) (tCall (spAhead c) [] E0 (tCons (tVar 0) (tCons (tVar 1) (tCons (tOp (rIxL K) (tVar 2) (tVar 3)) tNil))))) { nx:=fun _ H'=>Q .non H',rt:=Q } [some (.ref p),some (vI x.grp.key),some (.ref r),some (.int (j:Int)),v4,v5,none] H4:=by
     intro H4 v4 v5 s4 hncul
     have s14:=s13.trans s4
     obtain ⟨ej,hej⟩:∃ e,ds[j]?=some e:=⟨_,List.getElem?_eq_getElem (by omega)⟩
     have hsj:=(s3.trans s4) _ _ (hR.at_ j ej hej).1
     have hah:∃ a g rest,aheads s (rd s (closed s fs) j) x.grp.key=(a,g)::rest:=by
      cases j with
      | zero =>
       exact aheads_some (hpm.mem_iff.mpr (mem_free.mpr ⟨x.grp,hg,rfl,hheld⟩)) hj2
      | succ j' =>
       refine aheads_some (X:=(rd s (closed s fs) j').filter fun k=>!(culprits s (rd s (closed s fs) j')).contains k) (List.mem_filter.mpr ⟨hj1 j' (by omega),?_⟩) hj2
       rw [Bool.not_eq_true',← Bool.not_eq_true,List.contains_iff_mem]
       exact hncul (by omega)
     obtain ⟨a,g,rest,hah⟩:=hah
     have hbl:blockedBy s (rd s (unheld s) j) x.grp.key=[2,a,g]:=by
      rw [← blockedBy_mem (hrdm j),blockedBy_eq,hah]
      rfl
     walk_at "3"
     refine r_kL (by show 2≤1000; decide) fun q hq0=>?_
     have s5:Same H4 (upd H4 q (.lst [.int (j:Int),.int 2])):=same_new hq0
     walk_at "3"
     refine r_ixL (.inl (.inl ((s3.trans (s4.trans s5)) _ _ hR.lst))) (v:=V.ref ej) (atI_nat (by rw [List.getElem?_map,hej]; rfl)) ?_
     walk_at "3"
     refine ⟨p,ej,L,s,x.grp.key,rd s (closed s fs) j,_,a,g,rest,rfl,hx.same (s14.trans s5),.inl (s5 _ _ hsj),sdk_keys _,hah,fun H6 t s6 ht0 ht=>?_⟩
     refine ⟨q,t,_,_,rfl,rfl,s6 _ _ upd_same,ht,by show 4≤sizeLine; decide,fun z hz0=>?_⟩
     have s16:=s14.trans (s5.trans s6)
     refine k _ z (s16.trans (same_new hz0)) (s16.free hz0) ?_
     unfold reasonL
     rw [upd_same,if_neg hnr]
     have hw:whyOf s x.grp.key=[j,2,a,g]:=by
      cases j with
      | zero =>
       rw [why_zero G hg rfl hheld (fun q=>hj2 ((hrdm 0 _).mpr q))]
       have:blockedBy s (unheld s) x.grp.key=[2,a,g]:=hbl
       rw [this]
      | succ j' =>
       rw [why_succ G hg rfl hheld (fun i hi=>(hrdm i _).mp (hj1 i (by omega))) (fun q=>hj2 ((hrdm _ _).mpr q)) (by omega),hbl]
       have hre:reasonIn s (rd s (unheld s) j') x.grp.key=[]:=by
        rw [← reasonIn_mem (hrdm j'),reasonIn_eq]
        have hnone:(s.accounts.find? fun a=>(shortOf s (rd s (closed s fs) j') a).isSome && (beginning (rd s (closed s fs) j') a.row).getLast? == some x.grp.key)=none:=by
         rw [List.find?_eq_none]
         intro a ha q
         rw [Bool.and_eq_true,beq_iff_eq] at q
         exact hncul (by omega) (mem_culprits.mpr ⟨a,ha,q.1,q.2⟩)
        rw [hnone]
       rw [hre]
     rw [hw]
     rfl
    cases j with
    | zero =>
     refine iteF ?_
     exact tail H3 none none (Same.refl _) (fun h=>absurd rfl h)
    | succ j' =>
     refine ite2 (fun _=>?_) (fun hno=>absurd (by rw [decide_eq_true_eq]; omega) hno)
     obtain ⟨ej,hej⟩:∃ e,ds[j']?=some e:=⟨_,List.getElem?_eq_getElem (by omega)⟩
     have hsj:=s3 _ _ (hR.at_ j' ej hej).1
     walk_at "3"
     refine r_ixL (.inl (.inl (s3 _ _ hR.lst))) (v:=V.ref ej) (at_of (j:=j') (by show ((j' + 1:Nat):Int) - 1=_; omega) (by rw [List.getElem?_map,hej]; rfl)) ?_
     walk_at "3"
     have ndX:(rd s (closed s fs) j').Nodup:=rd_nodup ((free_nd hx.r hpm).sublist (closed_sublist s fs)) j'
     have inX:∀ k,k∈rd s (closed s fs) j'→∃ g,g∈s.groups∧g.key=k:=fun k hk=>free_in hpm k (closed_sub (rd_sub (Nat.zero_le j') hk))
     refine ⟨p,ej,L,s,rd s (closed s fs) j',rfl,hx3,SetAt.keys hsj,ndX,inX,rd_clo (closed_clo s fs) j',fun H4 e4 s4 he40 he4=>?_⟩
     walk_at "3"
     refine r_kDI (j:=(x.grp.key:Int)) (.inl he4) ?_
     walk_at "3"
     have hval:valV (pairs (culp s (rd s (closed s fs) j'))) (kI x.grp.key)=(s.accounts.find? fun a=>(shortOf s (rd s (closed s fs) j') a).isSome && (beginning (rd s (closed s fs) j') a.row).getLast? == some x.grp.key).map fun a=>vI a.key:=by
      rw [pairs_val,culp_find,lasts_find,Option.map_map]
      rfl
     cases hfa:s.accounts.find? (fun a=>(shortOf s (rd s (closed s fs) j') a).isSome && (beginning (rd s (closed s fs) j') a.row).getLast? == some x.grp.key) with
     | none =>
      rw [hfa] at hval
      rw [show (valV (pairs (culp s (rd s (closed s fs) j'))) (Sum.inl (x.grp.key:Int))).isSome=false by rw [show (Sum.inl (x.grp.key:Int):Key)=kI x.grp.key from rfl,hval]; rfl]
      refine iteF ?_
      refine tail H4 _ _ s4 (fun _ hcul=>?_)
      obtain ⟨a,ha,q1,q2⟩:=mem_culprits.mp hcul
      have:=(List.find?_eq_none.mp hfa) a ha
      rw [Bool.and_eq_true,beq_iff_eq] at this
      exact this ⟨q1,q2⟩
     | some a =>
      rw [hfa] at hval
      rw [show (valV (pairs (culp s (rd s (closed s fs) j'))) (Sum.inl (x.grp.key:Int))).isSome=true by rw [show (Sum.inl (x.grp.key:Int):Key)=kI x.grp.key from rfl,hval]; rfl]
      refine iteT ?_
      have ham:a∈s.accounts:=List.mem_of_find?_eq_some hfa
      have hap:=List.find?_some (p:=fun a=>(shortOf s (rd s (closed s fs) j') a).isSome && (beginning (rd s (closed s fs) j') a.row).getLast? == some x.grp.key) hfa
      have hap':((shortOf s (rd s (closed s fs) j') a).isSome && (beginning (rd s (closed s fs) j') a.row).getLast? == some x.grp.key)=true:=hap
      rw [Bool.and_eq_true,beq_iff_eq] at hap'
      obtain ⟨q0,hq0⟩:=Option.isSome_iff_exists.mp hap'.1
      walk_at "3"
      refine r_kDG (j:=(x.grp.key:Int)) (.inl he4) hval ?_
      walk_at "3"
      have s34:=s3.trans s4
      refine ⟨p,ej,L,s,rd s (closed s fs) j',rfl,hx3.same s4,SetAt.keys (s4 _ _ hsj),ndX,inX,fun H5 r5 s5 hr50 hr5=>?_⟩
      walk_at "3"
      refine r_kDG (j:=(x.grp.key:Int)) (.inl (s5 _ _ he4)) hval ?_
      have hval2:valV (pairs (shorts s (rd s (closed s fs) j') s.accounts)) (kI a.key)=some (vI q0):=by
       rw [pairs_val]
       have:(shorts s (rd s (closed s fs) j') s.accounts).find? (fun y=>y.1 == a.key)=some (a.key,q0):=by
        have hnd:((shorts s (rd s (closed s fs) j') s.accounts).map (·.1)).Nodup:=by
         refine G.an.sublist ?_
         unfold shorts
         rw [List.map_filterMap]
         have:(s.accounts.filterMap fun a=>Option.map (fun x=>x.1) ((shortOf s (rd s (closed s fs) j') a).map fun q=>(a.key,q)))=(s.accounts.filter fun a=>(shortOf s (rd s (closed s fs) j') a).isSome).map (·.key):=by
          rw [← List.filterMap_eq_map,List.filterMap_filter]
          refine fmc fun b _=>?_
          cases shortOf s (rd s (closed s fs) j') b <;> rfl
         rw [this]
         exact List.filter_sublist.map _
        exact find_key (f:=fun y:Nat×Nat=>y.1) hnd (a:=(a.key,q0)) (List.mem_filterMap.mpr ⟨a,ham,by rw [hq0]; rfl⟩)
       rw [this]
       rfl
      refine r_kDG (j:=(a.key:Int)) (.inl hr5) hval2 ?_
      walk_at "3"
      refine r_kL (by show 4≤1000; decide) fun z hz0=>?_
      have s15:=s13.trans (s4.trans s5)
      refine k _ z (s15.trans (same_new hz0)) (s15.free hz0) ?_
      unfold reasonL
      rw [upd_same,if_neg hnr,why_succ G hg rfl hheld (fun i hi=>(hrdm i _).mp (hj1 i (by omega))) (fun q=>hj2 ((hrdm _ _).mpr q)) (by omega),← reasonIn_mem (hrdm j'),reasonIn_eq,hfa]
      show some (HO.lst [.int ((j' + 1:Nat):Int),.int 1,vI a.key,vI q0])=some (HO.lst ([j' + 1,1,a.key,(shortOf s (rd s (closed s fs) j') a).getD 0].map vI))
      rw [hq0]
      rfl
end
theorem changed_set {l:List Int} (h4:l.length=4) {q:Nat} (hq:q∈goods) (n:Int):l.set (q - 1) (l.getD (q - 1) 0 + n)=changed l q n:=by
 obtain ⟨x0,x1,x2,x3,rfl⟩:=list4 h4
 rcases goods4 hq with rfl | rfl | rfl | rfl <;> rfl
theorem putK_map {α:Type} {f:α→Nat} {g:α→V} {l:List α} {k:Nat} (h:∃ x,x∈l∧f x=k) (v:V):putK (l.map fun x=>(kI (f x),g x)) (kI k) v=l.map fun x=>(kI (f x),if f x=k then v else g x):=by
 unfold putK
 rw [if_pos]
 ·rw [List.map_map]
  refine List.map_congr_left fun x _=>?_
  show (if kI (f x)=kI k then (kI (f x),v) else (kI (f x),g x))=_
  by_cases e:f x=k
  ·rw [if_pos (by rw [e]),if_pos e]
  ·rw [if_neg (fun q=>e (kI_inj q)),if_neg e]
 ·obtain ⟨x,hx,e⟩:=h
  rw [List.any_map,List.any_eq_true]
  exact ⟨x,hx,by show decide (kI (f x)=kI k)=true; rw [decide_eq_true_eq,e]⟩
section
variable {P:Program} {w:World} {K:PySem.W.Frag} {mg:Str→Option Value} {base:Heap} {c:Cs}
def spMore (c:Cs):Sp:=fun vs H Q _=>∃ (p:Addr) (L:Lay) (s:State) (a:Account) (q:Nat) (n:Int),vs=[.ref p,vI a.key,vI q,.int n]∧HX c H p L s∧a∈s.accounts∧q∈goods∧Good (withMore s a.key q n) ∧
 ∀ H' p' L',Same H H'→H p'=none→HX c H' p' L' (withMore s a.key q n)→Q (.ref p') H'
theorem fn_with_more (T:Txt K mg c):Fn P w K mg base "with_more" 3 ["house","account_key","good","amount"] (spMore c):=by
 refine T.f_with_more.fn sc_with_more (fun vs H Q E h=>?_) (fun f cdv A outer sh H vs Q E hr h=>?_)
 ·obtain ⟨p,L,s,a,q,n,rfl,_⟩:=h
  rfl
 obtain ⟨p,L,s,a,q,n,rfl,hx,ha,hq,hG,k⟩:=h
 have hu:=hu_of hr
 have nd:=sc_with_more.nd
 refine ⟨_,(pss_cons (ps_set (i:=4) nd rfl (Or.inl rfl) (pe_dget hu (pe_fld (pv 0) rfl) (pv 1) (fun _ _=>rfl)))
   (pss_cons (ps_set (i:=5) nd rfl (Or.inl rfl) (pe_mk0 (mk_Account T) (hr.mono (by decide)) rfl))
   (pss_cons (ps_fld (pv 5) (pe_callTy call_dictD rfl T.b_dict L2.boot_dict (pa_cons (pe_fld (pv 4) rfl) pa_nil)) rfl)
   (pss_cons (ps_daug hu (pe_fld (pv 5) rfl) (pv 2) (pv 3) in_add (by intros; rfl))
   (pss_cons (ps_fld (pv 5) (pe_fld (pv 4) rfl) rfl)
   (pss_cons (ps_fld (pv 5) (pe_fld (pv 4) rfl) rfl)
   (pss_cons (ps_set (i:=6) nd rfl (Or.inl rfl) (pe_mk0 (mk_House T) (hr.mono (by decide)) rfl))
   (pss_cons (ps_fld (pv 6) (pe_callTy call_dictD rfl T.b_dict L2.boot_dict (pa_cons (pe_fld (pv 0) rfl) pa_nil)) rfl)
   (pss_cons (ps_dput hu (pe_fld (pv 6) rfl) (pv 1) (pv 5) rfl)
   (pss_cons (ps_fld (pv 6) (pe_fld (pv 0) rfl) rfl)
   (pss_one (ps_ret (pv 6))))))))))))),?_⟩
 try simp only [Cx.nox,Cx.wish,cxOf]
 obtain ⟨x,hxm,rfl⟩:=lay_acc hx.r ha
 obtain ⟨dx,hp⟩:=hx.at_.o
 have hA:=hx.at_.as x hxm
 obtain ⟨da,hao⟩:=hA.o
 have h4:=(hx.r.good.acc x.acc ha).h4
 walk_at "2"
 refine r_kF hp T.k_House T.n_House_accounts lH_a ?_
 walk_at "2"
 refine r_kDG (j:=(x.acc.key:Int)) hx.at_.da (da_at hx.r hxm) ?_
 walk_at "2"
 intro xr dr hxr hdr hne
 refine ⟨xr,dr,rfl,upd_same,fun H1 am li ro kp _ _ _ _ hp1 _ _ _=>⟨rfl,?_⟩⟩
 have s1:Same H H1:=Same.made hxr hdr kp
 walk_at "2"
 refine r_kF (s1 _ _ hao) T.k_Account T.n_Account_amounts lA_m ?_
 walk_at "2"
 refine ⟨_,_,rfl,rd_same s1 hA.am,fun n1 hn1=>?_⟩
 have hn1H:H n1=none:=s1.free hn1
 have xn1:xr≠n1:=ne_of_none hp1 hn1
 walk_at "2"
 refine r_kSF (by rw [upd_ne xn1]; exact hp1) T.k_Account T.n_Account_amounts (by show 3 < 1000; decide) ?_
 have pf:putF "amounts" (V.ref n1) (fA am li ro)=fA n1 li ro:=pf1
 rw [pf]
 have s2:Same H (upd (upd H1 n1 (.dK (gd x.acc.has))) xr (.ins c.acc dr (fA n1 li ro))):=same_upd (same_upd s1 hn1H) hxr
 have h2n:upd (upd H1 n1 (.dK (gd x.acc.has))) xr (.ins c.acc dr (fA n1 li ro)) n1=some (.dK (gd x.acc.has)):=by rw [upd_ne (Ne.symm xn1),upd_same]
 have h2x:upd (upd H1 n1 (.dK (gd x.acc.has))) xr (.ins c.acc dr (fA n1 li ro)) xr=some (.ins c.acc dr (fA n1 li ro)):=upd_same
 generalize upd (upd H1 n1 (.dK (gd x.acc.has))) xr (.ins c.acc dr (fA n1 li ro))=H2 at s2 h2n h2x ⊢
 walk_at "2"
 refine r_kF h2x T.k_Account T.n_Account_amounts lA_m ?_
 walk_at "2"
 refine ⟨n1,_,rfl,.inl ⟨_,kI q,.inl h2n,rfl,(gd_val _ hq).symm⟩,?_⟩
 walk_at "2"
 refine ⟨_,_,rfl,rfl,_,DPut.k (k:=kI q) h2n (by show 4 < sizeLine; decide),?_⟩
 rw [gd_put h4 hq,changed_set h4 hq]
 have s3:Same H (upd H2 n1 (.dK (gd (changed x.acc.has q n)))):=same_upd s2 hn1H
 have h3n:upd H2 n1 (.dK (gd (changed x.acc.has q n))) n1=some (.dK (gd (changed x.acc.has q n))):=upd_same
 have h3x:upd H2 n1 (.dK (gd (changed x.acc.has q n))) xr=some (.ins c.acc dr (fA n1 li ro)):=by rw [upd_ne xn1]; exact h2x
 generalize upd H2 n1 (.dK (gd (changed x.acc.has q n)))=H3 at s3 h3n h3x ⊢
 walk_at "2"
 refine r_kF (s3 _ _ hao) T.k_Account T.n_Account_limits lA_l ?_
 walk_at "2"
 refine r_kSF h3x T.k_Account T.n_Account_limits (by show 3 < 1000; decide) ?_
 have pf2':putF "limits" (V.ref x.li) (fA n1 li ro)=fA n1 x.li ro:=(pf2 (by decide +kernel)).trans (congrArg _ pf1)
 rw [pf2']
 have s4:Same H (upd H3 xr (.ins c.acc dr (fA n1 x.li ro))):=same_upd s3 hxr
 have h4x:upd H3 xr (.ins c.acc dr (fA n1 x.li ro)) xr=some (.ins c.acc dr (fA n1 x.li ro)):=upd_same
 have h4n:upd H3 xr (.ins c.acc dr (fA n1 x.li ro)) n1=some (.dK (gd (changed x.acc.has q n))):=by rw [upd_ne (Ne.symm xn1)]; exact h3n
 generalize upd H3 xr (.ins c.acc dr (fA n1 x.li ro))=H4 at s4 h4x h4n ⊢
 walk_at "2"
 refine r_kF (s4 _ _ hao) T.k_Account T.n_Account_row lA_r ?_
 walk_at "2"
 refine r_kSF h4x T.k_Account T.n_Account_row (by show 3 < 1000; decide) ?_
 have pf3:putF "row" (V.ref x.ro) (fA n1 x.li ro)=fA n1 x.li x.ro:=(pf2 (by decide +kernel)).trans (congrArg _ ((pf2 (by decide +kernel)).trans (congrArg _ pf1)))
 rw [pf3]
 have s5:Same H (upd H4 xr (.ins c.acc dr (fA n1 x.li x.ro))):=same_upd s4 hxr
 have h5x:upd H4 xr (.ins c.acc dr (fA n1 x.li x.ro)) xr=some (.ins c.acc dr (fA n1 x.li x.ro)):=upd_same
 have h5n:upd H4 xr (.ins c.acc dr (fA n1 x.li x.ro)) n1=some (.dK (gd (changed x.acc.has q n))):=by rw [upd_ne (Ne.symm xn1)]; exact h4n
 generalize upd H4 xr (.ins c.acc dr (fA n1 x.li x.ro))=H5 at s5 h5x h5n ⊢
 walk_at "2"
 intro ph dh hph hdh hneh
 refine ⟨ph,dh,rfl,upd_same,fun H6 pa' pg' kp6 _ _ _ hp6 _ _=>⟨rfl,?_⟩⟩
 have s56:Same H5 H6:=Same.made hph hdh kp6
 have s6:=s5.trans s56
 have hphH:H ph=none:=s5.free hph
 walk_at "2"
 refine r_kF (s6 _ _ hp) T.k_House T.n_House_accounts lH_a ?_
 walk_at "2"
 refine ⟨_,_,rfl,.inl (s6 _ _ hx.ea),fun n2 hn2=>?_⟩
 have hn2H:H n2=none:=s6.free hn2
 have pn2:ph≠n2:=ne_of_none hp6 hn2
 have hn25:H5 n2=none:=s56.free hn2
 walk_at "2"
 refine r_kSF (by rw [upd_ne pn2]; exact hp6) T.k_House T.n_House_accounts (by show 2 < 1000; decide) ?_
 have pf4:putF "accounts" (V.ref n2) (fH pa' pg')=fH n2 pg':=pf1
 rw [pf4]
 have s57:Same H5 (upd (upd H6 n2 (.dK L.da)) ph (.ins c.hou dh (fH n2 pg'))):=same_upd (same_upd s56 hn25) hph
 have h7n:upd (upd H6 n2 (.dK L.da)) ph (.ins c.hou dh (fH n2 pg')) n2=some (.dK L.da):=by rw [upd_ne (Ne.symm pn2),upd_same]
 have h7p:upd (upd H6 n2 (.dK L.da)) ph (.ins c.hou dh (fH n2 pg')) ph=some (.ins c.hou dh (fH n2 pg')):=upd_same
 generalize upd (upd H6 n2 (.dK L.da)) ph (.ins c.hou dh (fH n2 pg'))=H7 at s57 h7n h7p ⊢
 walk_at "2"
 refine r_kF h7p T.k_House T.n_House_accounts lH_a ?_
 walk_at "2"
 refine r_kDP (j:=(x.acc.key:Int)) h7n (by have:=lay8 hx.r; unfold Lay.da; rw [List.length_map]; exact small1000 (by omega)) ?_
 rw [show putK L.da (Sum.inl (x.acc.key:Int)) (V.ref xr)=L.as.map fun y=>(kI y.acc.key,if y.acc.key=x.acc.key then V.ref xr else V.ref y.a) from putK_map (f:=fun y:AccL=>y.acc.key) (g:=fun y:AccL=>V.ref y.a) ⟨x,hxm,rfl⟩ _]
 have s58:Same H5 (upd H7 n2 (.dK (L.as.map fun y=>(kI y.acc.key,if y.acc.key=x.acc.key then V.ref xr else V.ref y.a)))):=same_upd s57 hn25
 have h8n:upd H7 n2 (.dK (L.as.map fun y=>(kI y.acc.key,if y.acc.key=x.acc.key then V.ref xr else V.ref y.a))) n2=some (.dK (L.as.map fun y=>(kI y.acc.key,if y.acc.key=x.acc.key then V.ref xr else V.ref y.a))):=upd_same
 have h8p:upd H7 n2 (.dK (L.as.map fun y=>(kI y.acc.key,if y.acc.key=x.acc.key then V.ref xr else V.ref y.a))) ph=some (.ins c.hou dh (fH n2 pg')):=by rw [upd_ne pn2]; exact h7p
 generalize upd H7 n2 (.dK (L.as.map fun y=>(kI y.acc.key,if y.acc.key=x.acc.key then V.ref xr else V.ref y.a)))=H8 at s58 h8n h8p ⊢
 walk_at "2"
 refine r_kF ((s5.trans s58) _ _ hp) T.k_House T.n_House_groups lH_g ?_
 walk_at "2"
 refine r_kSF h8p T.k_House T.n_House_groups (by show 2 < 1000; decide) ?_
 have pf5:putF "groups" (V.ref L.pg) (fH n2 pg')=fH n2 L.pg:=(pf2 (by decide +kernel)).trans (congrArg _ pf1)
 rw [pf5]
 have s59:Same H5 (upd H8 ph (.ins c.hou dh (fH n2 L.pg))):=same_upd s58 hph
 have h9p:upd H8 ph (.ins c.hou dh (fH n2 L.pg)) ph=some (.ins c.hou dh (fH n2 L.pg)):=upd_same
 have h9n:upd H8 ph (.ins c.hou dh (fH n2 L.pg)) n2=some (.dK (L.as.map fun y=>(kI y.acc.key,if y.acc.key=x.acc.key then V.ref xr else V.ref y.a))):=by rw [upd_ne (Ne.symm pn2)]; exact h8n
 generalize upd H8 ph (.ins c.hou dh (fH n2 L.pg))=H9 at s59 h9p h9n ⊢
 have s9:=s5.trans s59
 have hx9:=hx.same s9
 walk_at "2"
 let as':List AccL:=L.as.map fun y=>if y.acc.key=x.acc.key then ⟨xr,n1,x.li,x.ro,moreAcc x.acc.key q n y.acc⟩ else y
 have uniq:∀ y,y∈L.as→y.acc.key=x.acc.key→y=x:=fun y hy e=>key_inj (f:=fun y:AccL=>y.acc.key) (lay_an hx.r) hy hxm e
 have hda:(⟨n2,L.pg,as',L.gs⟩:Lay).da=L.as.map fun y=>(kI y.acc.key,if y.acc.key=x.acc.key then V.ref xr else V.ref y.a):=by
  show (L.as.map _).map _=_
  rw [List.map_map]
  refine List.map_congr_left fun y hy=>?_
  show (kI (if y.acc.key=x.acc.key then (⟨xr,n1,x.li,x.ro,moreAcc x.acc.key q n y.acc⟩:AccL) else y).acc.key,V.ref (if y.acc.key=x.acc.key then (⟨xr,n1,x.li,x.ro,moreAcc x.acc.key q n y.acc⟩:AccL) else y).a)=_
  by_cases e:y.acc.key=x.acc.key
  ·rw [if_pos e,if_pos e]
   show (kI (moreAcc x.acc.key q n y.acc).key,V.ref xr)=_
   rw [moreAcc_key]
  ·rw [if_neg e,if_neg e]
 have hst:(⟨n2,L.pg,as',L.gs⟩:Lay).st=withMore L.st x.acc.key q n:=by
  show (⟨(L.as.map _).map _,_⟩:State)=⟨(L.as.map (·.acc)).map (moreAcc x.acc.key q n),_⟩
  congr 1
  rw [List.map_map,List.map_map]
  refine List.map_congr_left fun y hy=>?_
  show (if y.acc.key=x.acc.key then (⟨xr,n1,x.li,x.ro,moreAcc x.acc.key q n y.acc⟩:AccL) else y).acc=moreAcc x.acc.key q n y.acc
  by_cases e:y.acc.key=x.acc.key
  ·rw [if_pos e]
  ·rw [if_neg e]
   unfold moreAcc
   rw [if_neg e]
 refine k H9 ph ⟨n2,L.pg,as',L.gs⟩ s9 hphH ⟨⟨⟨dh,h9p⟩,?_,hx9.at_.dg,fun y' hy'=>?_,hx9.at_.gs⟩,?_,hx9.eg,?_⟩
 ·rw [hda]
  exact .inl h9n
 ·obtain ⟨y,hy,rfl⟩:=List.mem_map.mp hy'
  by_cases e:y.acc.key=x.acc.key
  ·have:=uniq y hy e
   subst this
   show AccAt c H9 (if y.acc.key=y.acc.key then _ else _)
   rw [if_pos rfl]
   have hA9:=hx9.at_.as y hy
   refine ⟨⟨dr,s59 _ _ h5x⟩,.inl ?_,?_,?_⟩
   ·show H9 n1=some (.dK (gd (moreAcc y.acc.key q n y.acc).has))
    rw [show (moreAcc y.acc.key q n y.acc).has=changed y.acc.has q n by unfold moreAcc; rw [if_pos rfl]]
    exact s59 _ _ h5n
   ·show Rd H9 y.li (.dK (gd (lims (moreAcc y.acc.key q n y.acc))))
    rw [show lims (moreAcc y.acc.key q n y.acc)=lims y.acc by unfold lims; rw [moreAcc_limits]]
    exact hA9.li
   ·show Rd H9 y.ro (.lst ((moreAcc y.acc.key q n y.acc).row.map vI))
    rw [moreAcc_row]
    exact hA9.ro
  ·show AccAt c H9 (if y.acc.key=x.acc.key then _ else _)
   rw [if_neg e]
   exact hx9.at_.as y hy
 ·rw [hda]
  exact h9n
 ·rw [hst]
  exact hx.r.more x.acc.key q n hG
def spMiss (c:Cs):Sp:=fun vs H Q _=>∃ (p d:Addr) (L:Lay) (s:State) (a:Account) (q:Nat) (ks:List Nat),vs=[.ref p,vI a.key,vI q,.ref d]∧HX c H p L s∧a∈s.accounts∧q∈goods∧KeysAt H d ks∧ks.Nodup∧(∀ k,k∈ks→∃ g,g∈s.groups∧g.key=k) ∧
 ∀ H',Same H H'→Q (.int (missing s a q ks)) H'
theorem after_find {H:Hp} {L:Lay} {s:State} {r:Addr} {l:List (Account×Addr)} (rr:R L.st s) (hF:Fresh H L r l) {a:Account} (ha:a∈s.accounts):(l.map fun y=>y.1.key).Nodup∧∃ y,y∈l∧y.1=a:=by
 constructor
 ·have:(l.map fun y=>y.1.key)=(l.map (·.1)).map (·.key):=by rw [List.map_map]; rfl
  rw [this,hF.fst,List.map_map]
  exact lay_an rr
 ·obtain ⟨z,hz,rfl⟩:=lay_acc rr ha
  have:z.acc∈l.map (·.1):=by rw [hF.fst]; exact List.mem_map.mpr ⟨z,hz,rfl⟩
  obtain ⟨y,hy,e⟩:=List.mem_map.mp this
  exact ⟨y,hy,e⟩
theorem fn_missing_amount (T:Txt K mg c):Fn P w K mg base "missing_amount" 2 ["house","account_key","good","chosen"] (spMiss c):=by
 refine T.f_missing_amount.fn sc_missing_amount (fun vs H Q E h=>?_) (fun f cdv A outer sh H vs Q E hr h=>?_)
 ·obtain ⟨p,d,L,s,a,q,ks,rfl,_⟩:=h
  rfl
 obtain ⟨p,d,L,s,a,q,ks,rfl,hx,ha,hq,hd,hkn,hkg,k⟩:=h
 have hu:=hu_of hr
 have nd:=sc_missing_amount.nd
 refine ⟨_,(pss_cons (ps_set (i:=4) nd rfl (Or.inl rfl) (pe_dget hu (pe_dget hu (pe_fn (fn_amounts_after T) (hr.mono (by decide)) rfl (pa_cons (pv 0) (pa_cons (pv 3) pa_nil))) (pv 1) (fun _ _=>rfl)) (pv 2) (fun _ _=>rfl)))
   (pss_one (ps_ret (pe_callB (call_max2 rfl) rfl T.b_max L2.boot_max (pa_cons pe_int (pa_cons (pe_op op_sub (pe_un un_neg (pe_dget hu (pe_fld (pe_dget hu (pe_fld (pv 0) rfl) (pv 1) (fun _ _=>rfl)) rfl) (pv 2) (fun _ _=>rfl))) (pv 4)) pa_nil)))))),?_⟩
 try simp only [Cx.nox,Cx.wish,cxOf]
 walk_at "2"
 refine ⟨p,d,L,s,ks,rfl,hx,hd,hkn,hkg,fun H1 ra l s1 hra0 hF hA=>?_⟩
 obtain ⟨nk,y,hyl,hy1⟩:=after_find hx.r hF ha
 have hx1:=hx.same s1
 obtain ⟨x,hxm,rfl⟩:=lay_acc hx.r ha
 obtain ⟨dx,hp⟩:=hx1.at_.o
 have hA1:=hx1.at_.as x hxm
 obtain ⟨da,hao⟩:=hA1.o
 have l4:=(hx.r.good.acc x.acc ha).l4
 walk_at "2"
 refine r_kDG (j:=(x.acc.key:Int)) (.inl hA.1) (by rw [show (Sum.inl (x.acc.key:Int):Key)=kI x.acc.key from rfl,← hy1]; exact after_val nk hyl) ?_
 walk_at "2"
 refine r_kDG (j:=(q:Int)) (.inl (hA.2 y hyl)) (gd_val _ hq) ?_
 rw [goods_get hq,hy1]
 walk_at "2"
 refine r_kF hp T.k_House T.n_House_accounts lH_a ?_
 walk_at "2"
 refine r_kDG (j:=(x.acc.key:Int)) hx1.at_.da (da_at hx.r hxm) ?_
 refine r_kF hao T.k_Account T.n_Account_limits lA_l ?_
 walk_at "2"
 refine r_kDG (j:=(q:Int)) hA1.li (gd_val _ hq) ?_
 rw [lims_get l4 hq]
 walk_at "2"
 refine ⟨_,_,rfl,?_⟩
 have:=k _ s1
 unfold missing at this
 rw [show max 0 (-(Vbchak.limitOf x.acc q:Int) - wouldHave s ks x.acc q)=if (-(Vbchak.limitOf x.acc q:Int) - wouldHave s ks x.acc q) > 0 then (-(Vbchak.limitOf x.acc q:Int) - wouldHave s ks x.acc q) else 0 by split <;> omega] at this
 exact this
theorem mem_groups_ready {s:State} {gs:List Nat} (h:gs.Perm (ready s)):∀ k,k∈gs→∃ g,g∈s.groups∧g.key=k:=fun k hk=>by
 obtain ⟨g,hg,e,_⟩:=mem_free.mp (ready_sub (h.mem_iff.mp hk))
 exact ⟨g,hg,e⟩
theorem ready_len {s:State} (G:Good s) {gs:List Nat} (h:gs.Perm (ready s)):gs.length≤24:=by
 rw [h.length_eq,ready_gw]
 exact Nat.le_trans (gw_sublist s _).length_le (free_len G (List.Perm.refl _))
def spLetIn (c:Cs):Sp:=fun vs H Q _=>∃ (p:Addr) (L:Lay) (s:State) (a:Account) (q:Nat) (n:Nat),vs=[.ref p,vI a.key,vI q,vI n]∧HX c H p L s∧a∈s.accounts∧q∈goods ∧
 ∀ H' r X,Same H H'→H r=none→SetAt H' r X→X.Perm ((ready (withMore s a.key q (n:Int))).filter fun k=>!(ready s).contains k)→Q (.ref r) H'
theorem fn_let_in (T:Txt K mg c):Fn P w K mg base "let_in" 7 ["house","account_key","good","amount"] (spLetIn c):=by
 refine T.f_let_in.fn sc_let_in (fun vs H Q E h=>?_) (fun f cdv A outer sh H vs Q E hr h=>?_)
 ·obtain ⟨p,L,s,a,q,n,rfl,_⟩:=h
  rfl
 obtain ⟨p,L,s,a,q,n,rfl,hx,ha,hq,k⟩:=h
 have hu:=hu_of hr
 have nd:=sc_let_in.nd
 refine ⟨_,(pss_one (ps_ret (pe_fn (fn_less T) (hr.mono (by decide)) rfl (pa_cons (pe_fn (fn_greatest_set T) (hr.mono (by decide)) rfl (pa_cons (pe_fn (fn_with_more T) (hr.mono (by decide)) rfl (pa_cons (pv 0) (pa_cons (pv 1) (pa_cons (pv 2) (pa_cons (pv 3) pa_nil))))) pa_nil)) (pa_cons (pe_fn (fn_greatest_set T) (hr.mono (by decide)) rfl (pa_cons (pv 0) pa_nil)) pa_nil))))),?_⟩
 try simp only [Cx.nox,Cx.wish,cxOf]
 walk_at "2"
 have G':=hx.r.good.more0 a.key q n
 refine ⟨p,L,s,a,q,(n:Int),rfl,hx,ha,hq,G',fun H1 p1 L1 s1 hp10 hx1=>?_⟩
 walk_at "2"
 refine ⟨p1,L1,_,rfl,hx1,fun H2 r2 g2 s2 hr20 hr2 hpm2=>?_⟩
 walk_at "2"
 refine ⟨p,L,s,rfl,hx.same (s1.trans s2),fun H3 r3 g3 s3 hr30 hr3 hpm3=>?_⟩
 walk_at "2"
 refine ⟨r2,r3,g2,g3,_,rfl,SetAt.keys (s3 _ _ hr2),.inl hr3,sdk_keys _,hpm2.nodup_iff.mpr (ready_nodup hx1.r),by have:=ready_len G' hpm2; omega,fun H4 r4 s4 hr40 hr4=>?_⟩
 refine k _ r4 _ (s1.trans (s2.trans (s3.trans s4))) ((s1.trans (s2.trans s3)).free hr40) hr4 ?_
 have e:(g2.filter fun k=>!g3.contains k)=g2.filter fun k=>!(ready s).contains k:=List.filter_congr fun k _=>by
  congr 1
  rw [Bool.eq_iff_iff,List.contains_iff_mem,List.contains_iff_mem]
  exact hpm3.mem_iff
 rw [e]
 exact hpm2.filter _
end
theorem r_pair1 {tk tv:TE} {σ:L2.St} {H:Hp} {Q:List (V×V)→Hp→Prop} (h:tk σ H fun x H1=>tv σ H1 fun y H2=>Q [(x,y)] H2):tPairs [(tk,tv)] σ H Q:=h
theorem finds_fuel {s s':State} {x:Account} {q k:Nat}:∀ {f f':Nat} {X:List Nat},X.length < f→X.length < f'→finds s s' x q k f X=finds s s' x q k f' X
 | f + 1,f' + 1,X,h1,h2=>by
  unfold finds
  split
  ·cases hl:(touching x X).getLast? with
   | none=>rfl
   | some c =>
    have hcm:c∈touching x X:=List.mem_of_getLast? hl
    have hcX:c∈X:=List.contains_iff_mem.mp (List.mem_filter.mp hcm).2
    have hlen:(X.filter fun j=>!([c].contains j)).length < X.length:=List.length_filter_lt_length_iff_exists.mpr ⟨c,hcX,by simp⟩
    have hle:=(gw_sublist s' (X.filter fun j=>!([c].contains j))).length_le
    show _::finds s s' x q k f _=_::finds s s' x q k f' _
    rw [finds_fuel (f:=f) (f':=f') (by omega) (by omega)]
  ·rfl
section
variable {P:Program} {w:World} {K:PySem.W.Frag} {mg:Str→Option Value} {base:Heap} {c:Cs}
def needL (s:State) (a q k:Nat):List Int:=if helps s a q k NEED=true then [(needOf s a q k:Int)] else []
def spLeast (c:Cs):Sp:=fun vs H Q _=>∃ (p:Addr) (L:Lay) (s:State) (a:Account) (q:Nat) (g:Group),vs=[.ref p,vI a.key,vI q,vI g.key]∧HX c H p L s∧a∈s.accounts∧q∈goods∧g∈s.groups ∧
 ∀ H' r,Same H H'→H r=none→H' r=some (.lst ((needL s a.key q g.key).map V.int))→Q (.ref r) H'
theorem fn_least_amounts (T:Txt K mg c):Fn P w K mg base "least_amounts" 7 ["house","account_key","good","key"] (spLeast c):=by
 refine T.f_least_amounts.fn sc_least_amounts (fun vs H Q E h=>?_) (fun f cdv A outer sh H vs Q E hr h=>?_)
 ·obtain ⟨p,L,s,a,q,g,rfl,_⟩:=h
  rfl
 obtain ⟨p,L,s,a,q,g,rfl,hx,ha,hq,hg,k⟩:=h
 have hu:=hu_of hr
 have nd:=sc_least_amounts.nd
 refine ⟨_,(pss_cons (ps_set (i:=4) nd rfl (Or.inl rfl) (pe_fn (fn_with_more T) (hr.mono (by decide)) rfl (pa_cons (pv 0) (pa_cons (pv 1) (pa_cons (pv 2) (pa_cons (pe_gint T.c_GREATEST_NEED) pa_nil))))))
   (pss_cons (ps_set (i:=5) nd rfl (Or.inl rfl) (pe_fn (fn_greatest_set T) (hr.mono (by decide)) rfl (pa_cons (pv 4) pa_nil)))
   (pss_cons (ps_set (i:=6) nd rfl (Or.inl rfl) (pe_lst pa_nil))
   (pss_cons (ps_while PassesOwn.never (pt_cmp (pc_din hu (pv 3) (pv 5)) rfl) (pss_cons (ps_expr (pe_bm PySem.F.plainAttrs_list PySem.F.slot_list_append PySem.F.type_list_append mt_append (pv 6) (pa_cons (pe_fn (fn_missing_amount T) (hr.mono (by decide)) rfl (pa_cons (pv 0) (pa_cons (pv 1) (pa_cons (pv 2) (pa_cons (pv 5) pa_nil))))) pa_nil)))
   (pss_cons (ps_set (i:=7) nd rfl (Or.inl rfl) (pe_fn (fn_touching_groups T) (hr.mono (by decide)) rfl (pa_cons (pv 0) (pa_cons (pv 1) (pa_cons (pv 5) pa_nil)))))
   (pss_cons (ps_if (pt_cmpR op_eq (pe_callB call_len_seq rfl T.b_len boot_len (pa_cons (pv 7) pa_nil)) pe_int (nomark _)) (pss_one ps_break) pss_nil)
   (pss_one (ps_set (i:=5) nd rfl (Or.inl rfl) (pe_fn (fn_greatest_within T) (hr.mono (by decide)) rfl (pa_cons (pv 4) (pa_cons (pe_fn (fn_less T) (hr.mono (by decide)) rfl (pa_cons (pv 5) (pa_cons (pps1 (pe_ix ix_list (pv 7) (pe_un un_neg pe_int) (fun _ _=>rfl)) pe_bl) pa_nil))) pa_nil)))))))))
   (pss_one (ps_ret (pe_ifExp (pt_cmpR op_gt (pe_callB call_len_seq rfl T.b_len boot_len (pa_cons (pv 6) pa_nil)) pe_int (nomark _)) (pe_lst (pa_cons (pe_callB (cr_min rfl) rfl T.b_min L2.boot_min (pa_cons (pv 6) pa_nil)) pa_nil)) (pe_lst pa_nil)))))))),?_⟩
 try simp only [Cx.nox,Cx.wish,cxOf]
 have G:=hx.r.good
 have G':=G.more0 a.key q NEED
 walk_at "2"
 refine ⟨p,L,s,a,q,(NEED:Int),rfl,hx,ha,hq,G',fun H1 p1 L1 s1 hp10 hx1=>?_⟩
 walk_at "2"
 refine ⟨p1,L1,_,rfl,hx1,fun H2 r2 g2 s2 hr20 hr2 hpm2=>?_⟩
 walk_at "2"
 refine r_kL (by show 0≤1000; decide) fun r hr0'=>?_
 have s12:=s1.trans s2
 have hr0:H r=none:=s12.free hr0'
 have hg2n:g2.Nodup:=hpm2.nodup_iff.mpr (ready_nodup hx1.r)
 have hg2l:=ready_len G' hpm2
 have hg2g:∀ j,j∈g2→∃ g,g∈s.groups∧g.key=j:=mem_groups_ready (s:=withMore s a.key q (NEED:Int)) hpm2
 have nn:=need_none G ha (k:=g.key) hq hpm2 (f:=g2.length + 1) (Nat.lt_succ_self _)
 have fin:∀ (σ':L2.St) (H':Hp) (fs:List Int) (v5 v7:Option V),σ'=[some (.ref p),some (vI a.key),some (vI q),some (vI g.key),some (.ref p1),v5,some (.ref r),v7]→H' r=some (.lst (fs.map V.int))→fs.length≤1000→fs=finds s (withMore s a.key q (NEED:Int)) a q g.key (g2.length + 1) g2→Same H H' →
   tRet (tIf (tTest (tOp (rI0 fun i j=>V.bl (decide (j < i))) (tCB (fun xs H Q=>∃ p ys,xs=[.ref p]∧(SqL K H p ys∨SqT K H p ys)∧Q (.int ys.length) H) (tCons (tVar 6) tNil)) (tC (.int 0)))) (tLst (tCons (tCB (rMin K) (tCons (tVar 6) tNil)) tNil)) (tLst tNil)) { nx:=fun _ H'=>Q .non H',rt:=Q } σ' H':=by
  rintro σ' H' fs v5 v7 rfl hr' hfl hfs s'
  walk_at "2"
  refine ⟨r,_,rfl,.inl (.inl (.inl hr')),?_⟩
  walk_at "2"
  rw [List.length_map]
  rw [← hfs] at nn
  cases hfs':fs with
  | nil =>
   refine iteF ?_
   walk_at "2"
   refine r_kL (by show 0≤1000; decide) fun z hz=>?_
   refine k _ z (s'.trans (same_new hz)) (s'.free hz) ?_
   unfold needL
   rw [upd_same,if_neg (by rw [nn.1.mp hfs']; decide)]
   rfl
  | cons m0 ms =>
   refine ite2 (fun _=>?_) (fun hno=>absurd (by rw [decide_eq_true_eq,List.length_cons]; omega) hno)
   walk_at "2"
   refine ⟨r,fs,rfl,.inl (.inl hr'),by rw [hfs']; exact Nat.succ_pos _,fun m hm1 hm2=>?_⟩
   walk_at "2"
   refine r_kL (by show 1≤1000; decide) fun z hz=>?_
   refine k _ z (s'.trans (same_new hz)) (s'.free hz) ?_
   have hh:helps s a.key q g.key NEED=true:=by
    cases e:helps s a.key q g.key NEED with
    | true=>rfl
    | false =>
     rw [nn.1.mpr e] at hfs'
     cases hfs'
   unfold needL
   rw [upd_same,if_pos hh,nn.2 m hm1 hm2]
   rfl
 walk_at "2"
 refine ⟨fun m σ' H'=>∃ X ch fs v7,m=X.length∧σ'=[some (.ref p),some (vI a.key),some (vI q),some (vI g.key),some (.ref p1),some (.ref ch),some (.ref r),v7]∧SetAt H' ch X∧X.Nodup∧X.length≤g2.length∧(∀ j,j∈X→j∈g2)∧H' r=some (.lst (fs.map V.int))∧fs.length + X.length≤24 ∧
   fs++finds s (withMore s a.key q (NEED:Int)) a q g.key (X.length + 1) X=finds s (withMore s a.key q (NEED:Int)) a q g.key (g2.length + 1) g2∧Same H1 H',
  ⟨_,g2,r2,[],none,rfl,rfl,?_,hg2n,Nat.le_refl _,fun j hj=>hj,upd_same,by show 0 + g2.length≤24; omega,rfl,same_upd s2 (s2.free hr0')⟩,?_⟩
 ·unfold SetAt
  rw [upd_ne (ne_of_none hr2 hr0')]
  exact hr2
 rintro m σ' H' ⟨X,ch,fs,v7,rfl,rfl,hch,hXn,hXl,hXs,hr',hfl,hfin,s3⟩
 have s13:=s1.trans s3
 have hx':=hx.same s13
 walk_at "2"
 refine r_kDI (j:=(g.key:Int)) (.inl hch) ?_
 walk_at "2"
 rw [show (valV (sdk X) (Sum.inl (g.key:Int))).isSome=X.contains g.key from keys_in (sdk_keys X) g.key]
 by_cases hin:g.key∈X
 ·have hc:X.contains g.key=true:=List.contains_iff_mem.mpr hin
  rw [if_pos hc]
  refine ⟨_,fun _ _ q=>q,?_⟩
  have hunf:finds s (withMore s a.key q (NEED:Int)) a q g.key (X.length + 1) X=missing s a q X::(match (touching a X).getLast? with | none=>[] | some c=>finds s (withMore s a.key q (NEED:Int)) a q g.key X.length (gw (withMore s a.key q (NEED:Int)) (X.filter fun j=>!([c].contains j)))):=by
   rw [finds,if_pos hc]
   all_goals rfl
  have hXpos:0 < X.length:=List.length_pos_of_mem hin
  walk_at "2"
  refine r_kBl (.inl (.inl hr')) ?_
  walk_at "2"
  refine ⟨p,ch,L,s,a,q,X,rfl,hx',ha,hq,hch.keys,hXn,fun j hj=>hg2g j (hXs j hj),fun H4 s4=>?_⟩
  walk_at "2"
  refine ⟨r,_,_,rfl,rfl,s4 _ _ hr',by rw [List.length_map]; exact small1000 (by omega),?_⟩
  have hchr:ch≠r:=ne_of hch hr' (by intro z; cases z)
  have hch4:SetAt (upd H4 r (.lst (fs.map V.int++[.int (missing s a q X)]))) ch X:=by
   unfold SetAt
   rw [upd_ne hchr]
   exact s4 _ _ hch
  have s5:Same H1 (upd H4 r (.lst (fs.map V.int++[.int (missing s a q X)]))):=same_upd (s3.trans s4) (s2.free hr0')
  have hr5:upd H4 r (.lst (fs.map V.int++[.int (missing s a q X)])) r=some (.lst ((fs++[missing s a q X]).map V.int)):=by
   rw [upd_same,List.map_append]
   rfl
  generalize upd H4 r (.lst (fs.map V.int++[.int (missing s a q X)]))=H5 at hch4 s5 hr5 ⊢
  walk_at "2"
  refine ⟨p,ch,L,s,a,X,_,rfl,hx.same (s1.trans s5),ha,.inl hch4,sdk_keys X,fun H6 t s6 ht0 ht=>?_⟩
  walk_at "2"
  refine ⟨t,_,rfl,.inl (.inl (.inl ht)),?_⟩
  walk_at "2"
  rw [List.length_map]
  have htou:(a.row.filter fun k=>X.contains k)=touching a X:=rfl
  rw [htou] at ht ⊢
  cases hl:(touching a X).getLast? with
  | none =>
   rw [List.getLast?_eq_none_iff] at hl
   rw [hl]
   refine iteT ?_
   rw [hl] at hunf
   exact fin _ _ (fs++[missing s a q X]) _ _ rfl (s6 _ _ hr5) (by rw [List.length_append]; show fs.length + 1≤1000; omega) (by rw [← hfin,hunf]; rfl) ((s1.trans s5).trans s6)
  | some cu =>
   obtain ⟨init,hinit⟩:=List.getLast?_eq_some_iff.mp hl
   refine ite2 (fun h0=>absurd h0 (by rw [decide_eq_true_eq,hinit,List.length_append]; simp; omega)) (fun _=>?_)
   rw [hl] at hunf
   walk_at "2"
   intro n hn
   have s7:Same H6 (upd H6 n (.dK [])):=same_new hn
   rw [hinit,List.map_append] at ht
   refine r_pair1 ?_
   walk_at "2"
   refine r_ixL (.inl (.inl (s7 _ _ ht))) (v:=vI cu) (atI_last _ _) ?_
   walk_at "2"
   refine ⟨upd_same,[(kI cu,.bl true)],rfl,by show 1≤15; decide,?_⟩
   rw [upd_upd,show mergeK [] [(kI cu,V.bl true)]=sdk [cu] from rfl]
   have s8:Same H6 (upd H6 n (.dK (sdk [cu]))):=same_new hn
   walk_at "2"
   refine ⟨ch,n,X,[cu],_,rfl,SetAt.keys (s8 _ _ (s6 _ _ hch4)),.inl upd_same,sdk_keys _,hXn,by omega,fun H9 r9 s9 hr90 hr9=>?_⟩
   walk_at "2"
   have s68:=s6.trans (s8.trans s9)
   have hXf:∀ j,j∈(X.filter fun k=>!([cu].contains k))→j∈X:=fun j hj=>(List.mem_filter.mp hj).1
   refine ⟨p1,r9,L1,withMore s a.key q (NEED:Int),_,rfl,hx1.same (s5.trans s68),hr9,hXn.sublist List.filter_sublist,by have:=List.length_filter_le (fun k=>!([cu].contains k)) X; omega,fun j hj=>hg2g j (hXs j (hXf j hj)),fun H10 r10 s10 hfr10 hr10=>?_⟩
   walk_at "2"
   have hcm:cu∈touching a X:=List.mem_of_getLast? hl
   have hcX:cu∈X:=List.contains_iff_mem.mp (List.mem_filter.mp hcm).2
   have hlen:(X.filter fun j=>!([cu].contains j)).length < X.length:=List.length_filter_lt_length_iff_exists.mpr ⟨cu,hcX,by simp⟩
   have hle:=(gw_sublist (withMore s a.key q (NEED:Int)) (X.filter fun j=>!([cu].contains j))).length_le
   refine ⟨_,Nat.lt_of_le_of_lt hle hlen,_,r10,fs++[missing s a q X],_,rfl,rfl,hr10,(hXn.sublist List.filter_sublist).sublist (gw_sublist _ _),by omega,fun j hj=>hXs j (hXf j ((gw_sublist _ _).mem hj)),(s68.trans s10) _ _ hr5,by rw [List.length_append]; show fs.length + 1 + _≤24; omega,?_,s5.trans (s68.trans s10)⟩
   rw [← hfin,hunf,List.append_assoc]
   refine congrArg (fun l=>fs++(missing s a q X::l)) ?_
   exact (finds_fuel (f:=X.length) (f':=(gw (withMore s a.key q (NEED:Int)) (X.filter fun j=>!([cu].contains j))).length + 1) (by omega) (Nat.lt_succ_self _)).symm
 ·rw [if_neg (fun e=>hin (List.contains_iff_mem.mp e))]
  have hunf:finds s (withMore s a.key q (NEED:Int)) a q g.key (X.length + 1) X=[]:=by
   rw [finds,if_neg (fun e=>hin (List.contains_iff_mem.mp e))]
  exact fin _ _ fs _ _ rfl hr' (by omega) (by rw [← hfin,hunf,List.append_nil]) s13
end
theorem keyed_nat {n:Int} (h:keyed n=true):∃ k:Nat,n=(k:Int)∧n.toNat=k∧1≤k∧k≤1000000000:=by
 unfold Vbchak.keyed Vbchak.within at h
 rw [Bool.and_eq_true,decide_eq_true_eq,decide_eq_true_eq] at h
 have h2:n≤1000000000:=h.2
 exact ⟨n.toNat,by omega,rfl,by omega,by omega⟩
theorem goodly_nat {n:Int} (h:goodly n=true):∃ q:Nat,n=(q:Int)∧n.toNat=q∧q∈goods:=by
 unfold Vbchak.goodly Vbchak.within at h
 rw [Bool.and_eq_true,decide_eq_true_eq,decide_eq_true_eq] at h
 have h2:n≤4:=h.2
 exact ⟨n.toNat,by omega,rfl,mem_goods.mpr (by omega)⟩
def listRef (s:State) (ns:List Int):Int:=if keysIn ns=false then -1 else if distinct (nats ns)=false then -3 else if (ns.all fun z=>(groupAt s z.toNat).isSome)=false then -4 else 0
theorem onGroups_eq (s:State) (ns:List Int) (f:List Nat→State×List Int):Vbchak.onGroups s ns f=if listRef s ns=0 then f (nats ns) else (s,[listRef s ns]):=by
 unfold Vbchak.onGroups listRef
 by_cases h1:keysIn ns=false
 ·rw [if_pos h1,if_pos h1,if_neg (by decide)]
 ·rw [if_neg h1,if_neg h1]
  by_cases h2:distinct (nats ns)=false
  ·rw [if_pos h2,if_pos h2,if_neg (by decide)]
  ·rw [if_neg h2,if_neg h2]
   by_cases h3:(ns.all fun z=>(groupAt s z.toNat).isSome)=false
   ·rw [if_pos h3,if_pos h3,if_neg (by decide)]
   ·rw [if_neg h3,if_neg h3,if_pos rfl]
theorem distinct_iff:∀ {l:List Nat},distinct l=true↔l.Nodup
 | []=>⟨fun _=>List.nodup_nil,fun _=>rfl⟩
 | x::l=>by
  unfold Vbchak.distinct
  rw [Bool.and_eq_true,Bool.not_eq_true',← Bool.not_eq_true,List.contains_iff_mem,distinct_iff,List.nodup_cons]
theorem listRef_zero {s:State} {ns:List Int} (h:listRef s ns=0):∃ ks:List Nat,ns=(ks.map fun (k:Nat)=>(k:Int))∧nats ns=ks∧ks.Nodup∧ks.length≤24∧∀ k,k∈ks→∃ g,g∈s.groups∧g.key=k:=by
 unfold listRef at h
 split at h
 ·cases h
 ·rename_i h1
  split at h
  ·cases h
  ·rename_i h2
   split at h
   ·cases h
   ·rename_i h3
    rw [Bool.not_eq_false] at h1 h2 h3
    unfold Vbchak.keysIn at h1
    rw [Bool.and_eq_true,decide_eq_true_eq,List.all_eq_true] at h1
    refine ⟨nats ns,?_,rfl,distinct_iff.mp h2,by unfold Vbchak.nats; rw [List.length_map]; exact h1.1,fun k hk=>?_⟩
    ·unfold Vbchak.nats
     rw [List.map_map]
     have:∀ z,z∈ns→z=(((fun (k:Nat)=>(k:Int))∘Int.toNat) z):=fun z hz=>by
      obtain ⟨k,e,_,_⟩:=keyed_nat (h1.2 z hz)
      show z=((z.toNat:Nat):Int)
      omega
     exact (List.map_id'' (fun _=>rfl) ns).symm.trans (List.map_congr_left this)
    ·unfold Vbchak.nats at hk
     obtain ⟨z,hz,rfl⟩:=List.mem_map.mp hk
     have:=List.all_eq_true.mp h3 z hz
     obtain ⟨g,hg⟩:=Option.isSome_iff_exists.mp this
     exact ⟨g,(groupAt_some hg).1,(groupAt_some hg).2⟩
theorem mets_len (ns:List Int):(mets ns).length≤ns.length:=by
 unfold mets
 exact PyProof.Rows.firstMet_length_le _ _
theorem range_getD (ns:List Int):(List.range ns.length).map (fun i=>ns.getD i 0)=ns:=by
 refine List.ext_getElem? fun i=>?_
 rw [List.getElem?_map]
 by_cases h:i < ns.length
 ·rw [List.getElem?_range h]
  simp [h]
 ·rw [List.getElem?_eq_none (by rw [List.length_range]; omega),List.getElem?_eq_none (by omega)]
  rfl
theorem dedup_len:∀ (l acc:List Int),(l.foldl PyProof.Rows.step_dedup acc).length≤acc.length + l.length∧((l.foldl PyProof.Rows.step_dedup acc).length=acc.length + l.length↔l.Nodup∧∀ x,x∈l→¬ x∈acc)
 | [],acc=>⟨Nat.le_refl _,⟨fun _=>⟨List.nodup_nil,fun x h=>by cases h⟩,fun _=>rfl⟩⟩
 | x::l,acc=>by
  obtain ⟨h1,h2⟩:=dedup_len l (PyProof.Rows.step_dedup acc x)
  rw [List.foldl_cons,List.length_cons]
  have hs:PyProof.Rows.step_dedup acc x=if x∈acc then acc else acc++[x]:=by
   unfold PyProof.Rows.step_dedup
   by_cases e:x∈acc
   ·rw [if_pos e]
    simp [e]
   ·rw [if_neg e]
    simp [e]
  by_cases e:x∈acc
  ·rw [hs,if_pos e] at h1 h2 ⊢
   refine ⟨by omega,⟨fun h=>by omega,fun h=>absurd e (h.2 x (List.mem_cons_self ..))⟩⟩
  ·rw [hs,if_neg e] at h1 h2 ⊢
   rw [List.length_append] at h1 h2
   have l1:([x]:List Int).length=1:=rfl
   refine ⟨by omega,?_⟩
   rw [show (l.foldl PyProof.Rows.step_dedup (acc++[x])).length=acc.length + (l.length + 1)↔(l.foldl PyProof.Rows.step_dedup (acc++[x])).length=acc.length + [x].length + l.length from ⟨fun h=>by omega,fun h=>by omega⟩,h2,List.nodup_cons]
   constructor
   ·rintro ⟨a1,a2⟩
    refine ⟨⟨fun m=>a2 x m (List.mem_append_right _ (List.mem_singleton.mpr rfl)),a1⟩,fun y hy=>?_⟩
    rcases List.mem_cons.mp hy with rfl | hy
    ·exact e
    ·exact fun m=>a2 y hy (List.mem_append_left _ m)
   ·rintro ⟨⟨a1,a2⟩,a3⟩
    refine ⟨a2,fun y hy m=>?_⟩
    rcases List.mem_append.mp m with m | m
    ·exact a3 y (List.mem_cons_of_mem _ hy) m
    ·rw [List.mem_singleton] at m
     subst m
     exact a1 hy
theorem mets_lt {ns:List Int}:(mets ns).length < ns.length↔¬ ns.Nodup:=by
 have e:mets ns=ns.foldl PyProof.Rows.step_dedup []:=by
  unfold mets PyProof.Rows.firstMet
  rw [range_getD]
 obtain ⟨h1,h2⟩:=dedup_len ns []
 rw [e]
 have l0:([]:List Int).length=0:=rfl
 constructor
 ·intro h hn
  have:=h2.mpr ⟨hn,fun x _ m=>by cases m⟩
  omega
 ·intro h
  refine Nat.lt_of_le_of_ne (by omega) fun q=>h (h2.mp (by omega)).1
theorem nd_map {α β:Type} {f:α→β}:∀ {l:List α},(∀ x,x∈l→∀ y,y∈l→f x=f y→x=y)→((l.map f).Nodup↔l.Nodup)
 | [],_=>by simp
 | a::l,h=>by
  rw [List.map_cons,List.nodup_cons,List.nodup_cons,nd_map fun x hx y hy=>h x (List.mem_cons_of_mem _ hx) y (List.mem_cons_of_mem _ hy)]
  refine and_congr_left fun _=>not_congr ⟨fun m=>?_,fun m=>List.mem_map.mpr ⟨a,m,rfl⟩⟩
  obtain ⟨b,hb,e⟩:=List.mem_map.mp m
  rw [← h b (List.mem_cons_of_mem _ hb) a (List.mem_cons_self ..) e]
  exact hb
section
variable {P:Program} {w:World} {K:PySem.W.Frag} {mg:Str→Option Value} {base:Heap} {c:Cs}
def spRefus (K:PySem.W.Frag) (c:Cs):Sp:=fun vs H Q _=>∃ (p a:Addr) (L:Lay) (s:State) (ns:List Int),vs=[.ref p,.ref a]∧HX c H p L s∧SqL K H a (ns.map V.int)∧ns.length≤40∧∀ H',Same H H'→Q (.int (listRef s ns)) H'
def inV' (s:State):V→V
 | .int i=>.bl (groupAt s i.toNat).isSome
 | _=>.bl false
theorem fn_list_refusal (T : Txt K mg c) : Fn P w K mg base "list_refusal" 2 ["house", "keys"] (spRefus K c) := by
  refine T.f_list_refusal.fn sc_list_refusal (fun vs H Q E h => ?_) (fun f cdv A outer sh H vs Q E hr h => ?_)
  · obtain ⟨p, a, L, s, ns, rfl, _⟩ := h
    rfl
  obtain ⟨p, a, L, s, ns, rfl, hx, hS, hz, k⟩ := h
  have hu := hu_of hr
  have nd := sc_list_refusal.nd
  refine ⟨_, (pss_cons (ps_if (PW.pt (pw_or (pt_cmpR op_gt (pe_callB call_len_seq rfl T.b_len boot_len (pa_cons (pv 1) pa_nil)) (pe_gint T.c_MOST_GROUPS) (nomark _)) (pw_or1 (pt_not (pt_val (pe_callB (cr_all rfl) rfl T.b_all L2.boot_all (pa_cons (pe_lc rfl nd (pi_list (pv 1)) (blkOk_by (own := [("key", 2)]) (by simp only [Cx.nox, Cx.wish, cxOf, envOfC]; decide +kernel)) (fun _ _ _ _ _ => pg_name (i := 2) nd rfl (Or.inl rfl)) (fun _ _ _ _ _ => pts_nil) (fun _ _ _ _ _ => (pe_fn (fn_is_key T) (hr.mono (by decide)) rfl (pa_cons (pv 2) pa_nil)))) pa_nil))))))) (pss_one (ps_ret (pe_gint T.c_OUT_OF_RANGE))) pss_nil)
      (pss_cons (ps_if (pt_cmpR op_lt (pe_callB call_lenS rfl T.b_len boot_len (pa_cons (pe_callTy (call_setL rfl) rfl T.b_set L2.boot_set (pa_cons (pv 1) pa_nil)) pa_nil)) (pe_callB call_len_seq rfl T.b_len boot_len (pa_cons (pv 1) pa_nil)) (nomark _)) (pss_one (ps_ret (pe_gint T.c_TWICE))) pss_nil)
      (pss_cons (ps_if (pt_not (pt_val (pe_callB (cr_all rfl) rfl T.b_all L2.boot_all (pa_cons (pe_lc rfl nd (pi_list (pv 1)) (blkOk_by (own := [("key", 2)]) (by simp only [Cx.nox, Cx.wish, cxOf, envOfC]; decide +kernel)) (fun _ _ _ _ _ => pg_name (i := 2) nd rfl (Or.inl rfl)) (fun _ _ _ _ _ => pts_nil) (fun _ _ _ _ _ => (pe_cmp (pc_din hu (pv 2) (pe_fldK (K := K) rfl (pv 0) rfl)) rfl))) pa_nil)))) (pss_one (ps_ret (pe_gint T.c_NOT_THERE))) pss_nil)
      (pss_one (ps_ret pe_int))))), ?_⟩
  try simp only [Cx.nox, Cx.wish, cxOf]
  walk_at "3"
  refine ⟨a, _, rfl, .inl hS, ?_⟩
  walk_at "3"
  rw [List.length_map]
  have out1 : keysIn ns = false → ∀ H', Same H H' → Q (.int (-1)) H' := fun h H' s' => by
    have := k H' s'
    unfold listRef at this
    rw [if_pos h] at this
    exact this
  refine ite2 (fun h1 => ?_) (fun h1 => ?_)
  · refine iteT ?_
    walk_at "3"
    refine out1 ?_ _ (Same.refl _)
    rw [decide_eq_true_eq] at h1
    unfold Vbchak.keysIn
    rw [decide_eq_false (by show ¬ ns.length ≤ 24; omega)]
    rfl
  rw [decide_eq_true_eq] at h1
  have h24 : ns.length ≤ 24 := by omega
  walk_at "3"
  refine r_kLc (i := 2) (xs := ns.map V.int) (fun _ => true) (fun v => match v with | .int i => .bl (keyed i) | _ => .bl false) hS (by rw [List.length_map]; omega) (fun v hv H4 Qb s5 qq => qq) (fun v hv _ H4 Q' s5 qq => ?_) (fun D hD0 => ?_)
  · obtain ⟨z, hz', rfl⟩ := List.mem_map.mp hv
    walk_at "3"
    exact ⟨z, rfl, qq⟩
  · have hlist : ((ns.map V.int).filter fun _ => true).map (fun v => match v with | .int i => V.bl (keyed i) | _ => .bl false) = (ns.map keyed).map V.bl := by
      rw [List.filter_eq_self.mpr (fun _ _ => rfl), List.map_map, List.map_map]
      rfl
    rw [hlist]
    have s1 : Same H (upd H D (.lst ((ns.map keyed).map V.bl))) := same_new hD0
    generalize hH1 : upd H D (.lst ((ns.map keyed).map V.bl)) = H1 at s1 ⊢
    have hD1 : H1 D = some (.lst ((ns.map keyed).map V.bl)) := by rw [← hH1, upd_same]
    walk_at "3"
    refine ⟨D, _, rfl, .inl (.inl hD1), ?_⟩
    walk_at "3"
    have hkeys : keysIn ns = (ns.map keyed).all id := by
      unfold Vbchak.keysIn
      rw [decide_eq_true (by show ns.length ≤ 24; exact h24), Bool.true_and, List.all_map]
      rfl
    cases hall : (ns.map keyed).all id with
    | false =>
      refine iteT ?_
      walk_at "3"
      exact out1 (by rw [hkeys, hall]) _ s1
    | true =>
      refine iteF ?_
      rw [hall] at hkeys
      have hkz : ∀ z, z ∈ ns → keyed z = true := fun z hz' => by
        have := List.all_eq_true.mp hall (keyed z) (List.mem_map.mpr ⟨z, hz', rfl⟩)
        exact this
      walk_at "3"
      refine ⟨a, ns, rfl, s1.seq hS, by show ns.length + 1 < scanBound; have : (41 : Nat) < scanBound := by decide
                                        omega, fun n hn => ?_⟩
      have s2 : Same H (upd H1 n (.set (fun k => (mets ns).any (· == k)) (mets ns).length)) := same_upd s1 (s1.free hn)
      walk_at "3"
      refine ⟨n, _, _, rfl, upd_same, by have := mets_len ns; omega, ?_⟩
      walk_at "3"
      refine ⟨a, _, rfl, .inl (s2.seq hS), ?_⟩
      walk_at "3"
      rw [List.length_map]
      have hdis : distinct (nats ns) = false ↔ (mets ns).length < ns.length := by
        rw [mets_lt, ← Bool.not_eq_true, distinct_iff]
        refine not_congr ?_
        unfold Vbchak.nats
        refine nd_map fun x hx' y hy e => ?_
        obtain ⟨k1, e1, _⟩ := keyed_nat (hkz x hx')
        obtain ⟨k2, e2, _⟩ := keyed_nat (hkz y hy)
        omega
      refine ite2 (fun h2 => ?_) (fun h2 => ?_)
      · rw [decide_eq_true_eq] at h2
        walk_at "3"
        have := k _ s2
        unfold listRef at this
        rw [if_neg (by rw [hkeys]; decide), if_pos (hdis.mpr (by omega))] at this
        exact this
      · rw [decide_eq_true_eq] at h2
        walk_at "3"
        have hx2 := hx.same s2
        refine r_kLc (i := 2) (xs := ns.map V.int) (fun _ => true) (inV' s) (s2.seq hS) (by rw [List.length_map]; omega) (fun v hv H4 Qb s5 qq => qq) (fun v hv _ H4 Q' s5 qq => ?_) (fun D2 hD20 => ?_)
        · obtain ⟨z, hz', rfl⟩ := List.mem_map.mp hv
          obtain ⟨k1, e1, e2, _⟩ := keyed_nat (hkz z hz')
          have hx4 := hx2.same s5
          obtain ⟨dx, hp⟩ := hx4.at_.o
          walk_at "3"
          refine r_kF hp T.k_House T.n_House_groups lH_g ?_
          refine r_kDI (j := z) hx4.at_.dg ?_
          have : inV' s (.int z) = .bl (valV L.dg (Sum.inl z)).isSome := by
            show V.bl (groupAt s z.toNat).isSome = _
            rw [e2, ← dg_some hx.r k1, e1]
            rfl
          rw [this] at qq
          exact qq
        · have hlist2 : ((ns.map V.int).filter fun _ => true).map (inV' s) = (ns.map fun z => (groupAt s z.toNat).isSome).map V.bl := by
            rw [List.filter_eq_self.mpr (fun _ _ => rfl), List.map_map, List.map_map]
            rfl
          rw [hlist2]
          have s3 := s2.trans (same_new (o := .lst ((ns.map fun z => (groupAt s z.toNat).isSome).map V.bl)) hD20)
          walk_at "3"
          refine ⟨D2, _, rfl, .inl (.inl upd_same), ?_⟩
          walk_at "3"
          have hres := k _ s3
          unfold listRef at hres
          rw [if_neg (by rw [hkeys]; decide), if_neg (fun h => h2 (by have := hdis.mp h; omega))] at hres
          have hall2 : ((ns.map fun z => (groupAt s z.toNat).isSome).all id) = ns.all fun z => (groupAt s z.toNat).isSome := by
            rw [List.all_map]
            rfl
          rw [hall2]
          cases hg : ns.all fun z => (groupAt s z.toNat).isSome with
          | false =>
            rw [if_pos hg] at hres
            refine iteT ?_
            walk_at "3"
            exact hres
          | true =>
            rw [if_neg (by rw [hg]; decide)] at hres
            refine iteF ?_
            walk_at "3"
            exact hres
end
theorem r_B1 {f:Int→Bool} {n:Int} {H:Hp} {Q:VK} {E:XK} (k:Q (.bl (f n)) H):spB1 f [.int n] H Q E:=⟨n,rfl,k⟩
local macro_rules | `(tactic| walk_at "4") => `(tactic| repeat (first
 | with_reducible refine r_seq ?_ | with_reducible refine r_ret ?_ | with_reducible refine r_if ?_ | with_reducible refine r_set ?_ | with_reducible refine r_drop ?_
 | (with_reducible show tVar _ _ _ _; refine r_var rfl ?_) | with_reducible refine r_c ?_ | with_reducible refine r_op ?_ | with_reducible refine r_un ?_ | with_reducible refine r_I0 ?_ | with_reducible refine r_U ?_
 | with_reducible refine r_eqI ?_ | with_reducible refine r_neI ?_ | with_reducible refine r_tB ?_ | with_reducible refine r_test ?_ | with_reducible refine r_kT ?_ | with_reducible refine r_not ?_ | with_reducible refine r_and ?_ | with_reducible refine r_or ?_
 | with_reducible refine r_andV ?_ | with_reducible refine r_kAndV ?_ | with_reducible refine r_notV ?_ | with_reducible refine r_kNotV ?_ | with_reducible refine r_ife ?_ | with_reducible refine r_chain ?_ | with_reducible refine r_kCh ?_
 | with_reducible refine r_fld ?_ | with_reducible refine r_dget ?_ | with_reducible refine r_din ?_ | with_reducible refine r_dnin ?_ | with_reducible refine r_dput ?_ | with_reducible refine r_dnew ?_ | with_reducible refine r_lst ?_
 | with_reducible refine r_nil ?_ | with_reducible refine r_cons ?_ | with_reducible refine r_call ?_ | with_reducible refine r_make ?_ | with_reducible refine r_cb ?_ | with_reducible refine r_sfld ?_ | with_reducible refine r_bm ?_ | with_reducible refine r_next ?_ | with_reducible refine r_gn ?_ | with_reducible refine r_for ?_ | with_reducible refine r_daug ?_ | with_reducible refine r_frz ?_ | with_reducible refine r_forK ?_ | with_reducible refine r_sl ?_ | with_reducible refine r_noP ?_ | with_reducible refine r_part ?_ | with_reducible refine r_kP ?_ | with_reducible refine r_lc0 ?_ | with_reducible refine r_B1 ?_))
def Ans (H:Hp) (Q:VK) (ans:List Int):Prop:=∀ H' r,Same H H'→H r=none→H' r=some (.lst (ans.map V.int))→Q (.ref r) H'
theorem Ans.new {H H1:Hp} {Q:VK} {ans:List Int} {xs:List V} {z:Addr} (k:Ans H Q ans) (s:Same H H1) (hz:H1 z=none) (e:ans.map V.int=xs):Q (.ref z) (upd H1 z (.lst xs)):=by
 subst e
 exact k _ z (s.trans (same_new hz)) (s.free hz) upd_same
theorem ints_V (l:List Nat):(Vbchak.ints l).map V.int=l.map vI:=by
 unfold Vbchak.ints
 rw [List.map_map]
 rfl
section
variable {P:Program} {w:World} {K:PySem.W.Frag} {mg:Str→Option Value} {base:Heap} {c:Cs}
def spCounted:Sp:=fun vs H Q _=>∃ (a:Addr) (ks:List Nat),vs=[.ref a]∧H a=some (.lst (ks.map vI))∧ks.length≤1000∧Ans H Q (Vbchak.counted ks)
theorem fn_counted (T:Txt K mg c):Fn P w K mg base "counted" 1 ["keys"] spCounted:=by
 refine T.f_counted.fn sc_counted (fun vs H Q E h=>?_) (fun f cdv A outer sh H vs Q E hr h=>?_)
 ·obtain ⟨a,ks,rfl,_⟩:=h
  rfl
 obtain ⟨a,ks,rfl,ha,hz,k⟩:=h
 have hu:=hu_of hr
 have nd:=sc_counted.nd
 refine ⟨_,(pss_one (ps_ret (pe_op op_cat (pe_lst (pa_cons (pe_callB call_len_seq rfl T.b_len boot_len (pa_cons (pv 0) pa_nil)) pa_nil)) (pv 0)))),?_⟩
 try simp only [Cx.nox,Cx.wish,cxOf]
 walk_at "4"
 refine ⟨a,_,rfl,.inl (.inl (.inl ha)),?_⟩
 walk_at "4"
 refine r_kL (by show 1≤1000; decide) fun z hz0=>?_
 walk_at "4"
 have s1:=same_new (o:=.lst [.int (ks.map vI).length]) hz0
 refine ⟨z,a,_,_,rfl,rfl,upd_same,s1 _ _ ha,by rw [List.length_map]; show 1 + ks.length≤sizeLine; exact Nat.le_of_lt (Nat.lt_of_le_of_lt (by omega:1 + ks.length≤1001) (by decide)),fun n hn=>?_⟩
 refine k.new s1 hn ?_
 unfold Vbchak.counted
 rw [ints_V,List.length_map]
 rfl
def spReady (c:Cs):Sp:=fun vs H Q _=>∃ (p:Addr) (L:Lay) (s:State),vs=[.ref p]∧HX c H p L s∧Ans H Q (Vbchak.step s .ready).2
theorem fn_ready (T:Txt K mg c):Fn P w K mg base "ready" 7 ["house"] (spReady c):=by
 refine T.f_ready.fn sc_ready (fun vs H Q E h=>?_) (fun f cdv A outer sh H vs Q E hr h=>?_)
 ·obtain ⟨p,L,s,rfl,_⟩:=h
  rfl
 obtain ⟨p,L,s,rfl,hx,k⟩:=h
 have hu:=hu_of hr
 have nd:=sc_ready.nd
 refine ⟨_,(pss_one (ps_ret (pe_fn (fn_counted T) (hr.mono (by decide)) rfl (pa_cons (pe_callB (call_sortedD rfl) rfl T.b_sorted L2.boot_sorted (pa_cons (pe_fn (fn_greatest_set T) (hr.mono (by decide)) rfl (pa_cons (pv 0) pa_nil)) pa_nil)) pa_nil)))),?_⟩
 try simp only [Cx.nox,Cx.wish,cxOf]
 walk_at "4"
 refine ⟨p,L,s,rfl,hx,fun H1 r1 gs s1 hr10 hr1 hpm=>?_⟩
 walk_at "4"
 have hl:=ready_len hx.r.good hpm
 refine ⟨r1,_,gs.map fun (k:Nat)=>(k:Int),rfl,.inl hr1,by rw [sdk_keys,inl_map],by rw [List.length_map]; omega,fun ns' pl hp1 hp2 hpl=>?_⟩
 have e:=sort_eq hp1 hp2 hpm (ready_sorted hx.r)
 subst e
 rw [ints_map]
 walk_at "4"
 exact ⟨pl,ready s,rfl,upd_same,by rw [← hpm.length_eq]; omega,fun H' r s' hr0 hr'=>k H' r ((s1.trans (same_new hpl)).trans s') ((s1.trans (same_new hpl)).free hr0) hr'⟩
def spWaiting (c:Cs):Sp:=fun vs H Q _=>∃ (p:Addr) (L:Lay) (s:State),vs=[.ref p]∧HX c H p L s∧Ans H Q (Vbchak.step s .waiting).2
theorem lay24 {L:Lay} {s:State} (r:R L.st s):L.gs.length≤24:=by
 have:=r.good.g24
 rw [← r.pg.length_eq] at this
 simpa [Lay.st] using this
theorem lay_gkeys {L:Lay} {s:State} (r:R L.st s):(L.gs.map fun x=>x.grp.key).Perm (s.groups.map (·.key)):=by
 have:=r.pg.map (·.key)
 unfold Lay.st at this
 rw [List.map_map] at this
 exact this
theorem fn_waiting (T:Txt K mg c):Fn P w K mg base "waiting" 2 ["house"] (spWaiting c):=by
 refine T.f_waiting.fn sc_waiting (fun vs H Q E h=>?_) (fun f cdv A outer sh H vs Q E hr h=>?_)
 ·obtain ⟨p,L,s,rfl,_⟩:=h
  rfl
 obtain ⟨p,L,s,rfl,hx,k⟩:=h
 have hu:=hu_of hr
 have nd:=sc_waiting.nd
 refine ⟨_,(pss_one (ps_ret (pe_fn (fn_counted T) (hr.mono (by decide)) rfl (pa_cons (pe_callB (call_sortedD rfl) rfl T.b_sorted L2.boot_sorted (pa_cons (pe_fld (pv 0) rfl) pa_nil)) pa_nil)))),?_⟩
 try simp only [Cx.nox,Cx.wish,cxOf]
 obtain ⟨dx,hp⟩:=hx.at_.o
 walk_at "4"
 refine r_kF hp T.k_House T.n_House_groups lH_g ?_
 walk_at "4"
 refine ⟨L.pg,_,(L.gs.map fun x=>x.grp.key).map fun (k:Nat)=>(k:Int),rfl,.inl hx.eg,by rw [dg_keys,inl_map],by rw [List.length_map,List.length_map]; have:=lay24 hx.r; omega,fun ns' pl hp1 hp2 hpl=>?_⟩
 have e:=sort_eq hp1 hp2 (lay_gkeys hx.r) hx.r.keysG
 subst e
 rw [ints_map]
 walk_at "4"
 exact ⟨pl,s.groups.map (fun g:Group=>g.key),rfl,upd_same,by rw [List.length_map]; have:=hx.r.good.g24; omega,fun H' r s' hr0 hr'=>k H' r ((same_new hpl).trans s') ((same_new hpl).free hr0) hr'⟩
def spCanQ (K:PySem.W.Frag) (c:Cs):Sp:=fun vs H Q _=>∃ (p a:Addr) (L:Lay) (s:State) (ns:List Int),vs=[.ref p,.ref a]∧HX c H p L s∧SqL K H a (ns.map V.int)∧ns.length≤40∧Ans H Q (Vbchak.step s (.can ns)).2
theorem fn_can (T:Txt K mg c):Fn P w K mg base "can" 4 ["house","keys"] (spCanQ K c):=by
 refine T.f_can.fn sc_can (fun vs H Q E h=>?_) (fun f cdv A outer sh H vs Q E hr h=>?_)
 ·obtain ⟨p,a,L,s,ns,rfl,_⟩:=h
  rfl
 obtain ⟨p,a,L,s,ns,rfl,hx,hS,hz,k⟩:=h
 have hu:=hu_of hr
 have nd:=sc_can.nd
 refine ⟨_,(pss_cons (ps_set (i:=2) nd rfl (Or.inl rfl) (pe_fn (fn_list_refusal T) (hr.mono (by decide)) rfl (pa_cons (pv 0) (pa_cons (pv 1) pa_nil))))
   (pss_cons (ps_if (pt_cmpR op_ne (pv 2) pe_int (nomark _)) (pss_one (ps_ret (pe_lst (pa_cons (pv 2) pa_nil)))) pss_nil)
   (pss_one (ps_ret (pe_lst (pa_cons (pe_ifExp (pt_val (pe_fn (fn_can_go T) (hr.mono (by decide)) rfl (pa_cons (pv 0) (pa_cons (pe_fn (fn_groups_told T) (hr.mono (by decide)) rfl (pa_cons (pv 1) pa_nil)) pa_nil)))) pe_int pe_int) pa_nil)))))),?_⟩
 try simp only [Cx.nox,Cx.wish,cxOf]
 have hst:(Vbchak.step s (.can ns)).2=if listRef s ns=0 then [if canGo s (nats ns)=true then 1 else 0] else [listRef s ns]:=by
  show (Vbchak.onGroups s ns _).2=_
  rw [onGroups_eq]
  split <;> rfl
 walk_at "4"
 refine ⟨p,a,L,s,ns,rfl,hx,hS,hz,fun H1 s1=>?_⟩
 walk_at "4"
 by_cases h0:listRef s ns=0
 ·rw [if_pos h0] at hst
  rw [decide_eq_true h0]
  refine iteF ?_
  obtain ⟨ks,e1,e2,hn,hl,hg⟩:=listRef_zero h0
  rw [e2] at hst
  walk_at "4"
  refine ⟨a,ks,rfl,by rw [← ints_map,← e1]; exact s1.seq hS,hn,by omega,fun H2 r2 s2 hr20 hr2=>?_⟩
  walk_at "4"
  refine ⟨p,r2,L,s,ks,rfl,hx.same (s1.trans s2),hr2,hn,by omega,hg,fun H3 s3=>?_⟩
  walk_at "4"
  have s13:=s1.trans (s2.trans s3)
  cases hc:canGo s ks with
  | true =>
   rw [hc,if_pos rfl] at hst
   refine iteT ?_
   walk_at "4"
   exact r_kL (by show 1≤1000; decide) fun z hz0=>k.new s13 hz0 (by rw [hst]; rfl)
  | false =>
   rw [hc,if_neg (by decide)] at hst
   refine iteF ?_
   walk_at "4"
   exact r_kL (by show 1≤1000; decide) fun z hz0=>k.new s13 hz0 (by rw [hst]; rfl)
 ·rw [if_neg h0] at hst
  rw [decide_eq_false h0]
  refine iteT ?_
  walk_at "4"
  exact r_kL (by show 1≤1000; decide) fun z hz0=>k.new s1 hz0 (by rw [hst]; rfl)
theorem onGroup_1 {s:State} {k:Int} {f:Group→State×List Int} (h:keyed k=false):Vbchak.onGroup s k f=(s,[-1]):=by
 unfold Vbchak.onGroup
 rw [if_pos h]
theorem onGroup_4 {s:State} {k:Int} {f:Group→State×List Int} (h:keyed k=true) (e:groupAt s k.toNat=none):Vbchak.onGroup s k f=(s,[-4]):=by
 unfold Vbchak.onGroup
 rw [if_neg (by rw [h]; decide),e]
theorem onGroup_g {s:State} {k:Int} {f:Group→State×List Int} {g:Group} (h:keyed k=true) (e:groupAt s k.toNat=some g):Vbchak.onGroup s k f=f g:=by
 unfold Vbchak.onGroup
 rw [if_neg (by rw [h]; decide),e]
theorem onAccount_4 {s:State} {k:Int} {f:Account→State×List Int} (e:accountAt s k.toNat=none):Vbchak.onAccount s k f=(s,[-4]):=by
 unfold Vbchak.onAccount
 rw [e]
theorem onAccount_a {s:State} {k:Int} {f:Account→State×List Int} {a:Account} (e:accountAt s k.toNat=some a):Vbchak.onAccount s k f=f a:=by
 unfold Vbchak.onAccount
 rw [e]
theorem dg_none {L:Lay} {s:State} (r:R L.st s) {k:Nat} (h:groupAt s k=none):(valV L.dg (Sum.inl (k:Int))).isSome=false:=by
 rw [show (Sum.inl (k:Int):Key)=kI k from rfl,dg_some r,h]
 rfl
theorem dg_there {L:Lay} {s:State} (r:R L.st s) {k:Nat} {g:Group} (h:groupAt s k=some g):(valV L.dg (Sum.inl (k:Int))).isSome=true:=by
 rw [show (Sum.inl (k:Int):Key)=kI k from rfl,dg_some r,h]
 rfl
theorem da_none {L:Lay} {s:State} (r:R L.st s) {k:Nat} (h:accountAt s k=none):(valV L.da (Sum.inl (k:Int))).isSome=false:=by
 rw [show (Sum.inl (k:Int):Key)=kI k from rfl,da_some r,h]
 rfl
theorem da_there {L:Lay} {s:State} (r:R L.st s) {k:Nat} {a:Account} (h:accountAt s k=some a):(valV L.da (Sum.inl (k:Int))).isSome=true:=by
 rw [show (Sum.inl (k:Int):Key)=kI k from rfl,da_some r,h]
 rfl
def spWhy (c:Cs):Sp:=fun vs H Q _=>∃ (p:Addr) (L:Lay) (s:State) (k:Int),vs=[.ref p,.int k]∧HX c H p L s∧Ans H Q (Vbchak.step s (.why k)).2
theorem fn_why (T:Txt K mg c):Fn P w K mg base "why" 6 ["house","key"] (spWhy c):=by
 refine T.f_why.fn sc_why (fun vs H Q E h=>?_) (fun f cdv A outer sh H vs Q E hr h=>?_)
 ·obtain ⟨p,L,s,kk,rfl,_⟩:=h
  rfl
 obtain ⟨p,L,s,kk,rfl,hx,k⟩:=h
 have hu:=hu_of hr
 have nd:=sc_why.nd
 refine ⟨_,(pss_cons (ps_if (pt_not (pt_val (pe_fn (fn_is_key T) (hr.mono (by decide)) rfl (pa_cons (pv 1) pa_nil)))) (pss_one (ps_ret (pe_lst (pa_cons (pe_gint T.c_OUT_OF_RANGE) pa_nil)))) pss_nil)
   (pss_cons (ps_if (pt_cmp (pc_dnotin hu (pv 1) (pe_fld (pv 0) rfl)) rfl) (pss_one (ps_ret (pe_lst (pa_cons (pe_gint T.c_NOT_THERE) pa_nil)))) pss_nil)
   (pss_cons (ps_set (i:=2) nd rfl (Or.inl rfl) (pe_fn (fn_reason T) (hr.mono (by decide)) rfl (pa_cons (pv 0) (pa_cons (pv 1) pa_nil))))
   (pss_one (ps_ret (pe_ifExp (pt_cmpR op_gt (pe_callB call_len_seq rfl T.b_len boot_len (pa_cons (pv 2) pa_nil)) pe_int (nomark _)) (pv 2) (pe_lst (pa_cons (pe_gint T.c_CANNOT_BE) pa_nil)))))))),?_⟩
 try simp only [Cx.nox,Cx.wish,cxOf]
 obtain ⟨dx,hp⟩:=hx.at_.o
 walk_at "4"
 cases hk:keyed kk with
 | false =>
  refine iteT ?_
  walk_at "4"
  exact r_kL (by show 1≤1000; decide) fun z hz0=>k.new (Same.refl _) hz0 (by show (Vbchak.onGroup s kk _).2.map V.int=_; rw [onGroup_1 hk]; rfl)
 | true =>
  refine iteF ?_
  obtain ⟨n,rfl,en,_⟩:=keyed_nat hk
  walk_at "4"
  refine r_kF hp T.k_House T.n_House_groups lH_g ?_
  refine r_kDN (j:=(n:Int)) hx.at_.dg ?_
  walk_at "4"
  cases hg:groupAt s n with
  | none =>
   rw [dg_none hx.r hg]
   refine iteT ?_
   walk_at "4"
   exact r_kL (by show 1≤1000; decide) fun z hz0=>k.new (Same.refl _) hz0 (by show (Vbchak.onGroup s (n:Int) _).2.map V.int=_; rw [onGroup_4 hk (by rw [Int.toNat_natCast]; exact hg)]; rfl)
  | some g =>
   rw [dg_there hx.r hg]
   refine iteF ?_
   obtain ⟨hgm,hgk⟩:=groupAt_some hg
   subst hgk
   have hst:(Vbchak.step s (.why (g.key:Int))).2=if (ready s).contains g.key=true then [-8] else Vbchak.ints (Vbchak.whyOf s g.key):=by
    show (Vbchak.onGroup s (g.key:Int) _).2=_
    rw [onGroup_g hk (by rw [Int.toNat_natCast]; exact hg)]
    split <;> rfl
   walk_at "4"
   refine ⟨p,L,s,g,rfl,hx,hgm,fun H1 r1 s1 hr10 hr1=>?_⟩
   walk_at "4"
   refine ⟨r1,_,rfl,.inl (.inl (.inl hr1)),?_⟩
   walk_at "4"
   rw [List.length_map]
   unfold reasonL at hr1 ⊢
   by_cases hin:(ready s).contains g.key=true
   ·rw [if_pos hin] at hr1 hst ⊢
    refine iteF ?_
    walk_at "4"
    exact r_kL (by show 1≤1000; decide) fun z hz0=>k.new s1 hz0 (by rw [hst]; rfl)
   ·rw [if_neg hin] at hr1 hst ⊢
    have hpos:0 < (Vbchak.whyOf s g.key).length:=by
     unfold Vbchak.whyOf
     split
     ·decide
     ·split
      ·exact Nat.succ_pos _
      ·rename_i h1 h2
       rw [Bool.not_eq_false] at h2
       have hnr:¬ g.key∈ready s:=fun q=>hin (List.contains_iff_mem.mpr q)
       have hm:∀ (f i:Nat) (X:List Nat),¬ g.key∈Vbchak.rounds s f X→X.length < f→0 < (Vbchak.whyFrom s g.key f i X).length:=by
        intro f
        induction f with
        | zero=>intro i X _ h; omega
        | succ f ih =>
         intro i X hX hl
         unfold Vbchak.whyFrom
         show 0 < (if (round s X).contains g.key=true then _ else _:List Nat).length
         split
         ·rename_i hc
          unfold Vbchak.rounds at hX
          split at hX
          ·exact absurd (round_sub (List.contains_iff_mem.mp hc)) hX
          ·rename_i he
           have:=round_len (s:=s) (X:=X) (fun q=>he (by rw [q]; rfl))
           exact ih _ _ hX (by omega)
         ·exact Nat.succ_pos _
       refine hm _ _ _ hnr ?_
       have h3:=(closed_sublist s (free s)).length_le
       have h4:(free s).length≤s.groups.length:=by
        unfold free
        rw [List.length_map]
        exact List.length_filter_le _ _
       show (closed s (free s)).length < _
       omega
    refine ite2 (fun _=>?_) (fun hno=>absurd (by rw [decide_eq_true_eq]; omega) hno)
    walk_at "4"
    exact k _ r1 s1 hr10 (by rw [hst,ints_V]; exact hr1)
end
def goodRef (s:State) (a q:Int):Int:=if (keyed a && goodly q)=false then -1 else if (accountAt s a.toNat).isSome=true then 0 else -4
section
variable {P:Program} {w:World} {K:PySem.W.Frag} {mg:Str→Option Value} {base:Heap} {c:Cs}
def spGoodRef (c:Cs):Sp:=fun vs H Q _=>∃ (p:Addr) (L:Lay) (s:State) (a q:Int),vs=[.ref p,.int a,.int q]∧HX c H p L s∧Q (.int (goodRef s a q)) H
theorem fn_good_refusal (T:Txt K mg c):Fn P w K mg base "good_refusal" 2 ["house","account_key","good"] (spGoodRef c):=by
 refine T.f_good_refusal.fn sc_good_refusal (fun vs H Q E h=>?_) (fun f cdv A outer sh H vs Q E hr h=>?_)
 ·obtain ⟨p,L,s,a,q,rfl,_⟩:=h
  rfl
 obtain ⟨p,L,s,a,q,rfl,hx,k⟩:=h
 have hu:=hu_of hr
 have nd:=sc_good_refusal.nd
 refine ⟨_,(pss_cons (ps_if (pt_not (PW.pt (pw_and (pt_val (pe_fn (fn_is_key T) (hr.mono (by decide)) rfl (pa_cons (pv 1) pa_nil))) (pw_and1 (pt_val (pe_fn (fn_is_good T) (hr.mono (by decide)) rfl (pa_cons (pv 2) pa_nil))))))) (pss_one (ps_ret (pe_gint T.c_OUT_OF_RANGE))) pss_nil)
   (pss_cons (ps_if (pt_cmp (pc_dnotin hu (pv 1) (pe_fld (pv 0) rfl)) rfl) (pss_one (ps_ret (pe_gint T.c_NOT_THERE))) pss_nil)
   (pss_one (ps_ret pe_int)))),?_⟩
 try simp only [Cx.nox,Cx.wish,cxOf]
 obtain ⟨dx,hp⟩:=hx.at_.o
 unfold goodRef at k
 walk_at "4"
 cases hk:keyed a with
 | false =>
  rw [hk] at k
  refine iteF (iteT ?_)
  walk_at "4"
  exact k
 | true =>
  refine iteT ?_
  walk_at "4"
  cases hq:goodly q with
  | false =>
   rw [hk,hq] at k
   refine iteT ?_
   walk_at "4"
   exact k
  | true =>
   have k:Q (.int (if (accountAt s a.toNat).isSome=true then 0 else -4)) H:=by rw [hk,hq] at k; exact k
   refine iteF ?_
   obtain ⟨n,rfl,en,_⟩:=keyed_nat hk
   rw [en] at k
   walk_at "4"
   refine r_kF hp T.k_House T.n_House_accounts lH_a ?_
   refine r_kDN (j:=(n:Int)) hx.at_.da ?_
   walk_at "4"
   cases ha:accountAt s n with
   | none =>
    rw [ha] at k
    rw [da_none hx.r ha]
    refine iteT ?_
    walk_at "4"
    exact k
   | some x =>
    rw [ha] at k
    rw [da_there hx.r ha]
    refine iteF ?_
    walk_at "4"
    exact k
theorem goodRef_zero {s:State} {a q:Int} (h:goodRef s a q=0):∃ (x:Account) (qq:Nat),a=(x.key:Int)∧q=(qq:Int)∧x∈s.accounts∧qq∈goods∧keyed a=true∧goodly q=true∧accountAt s a.toNat=some x:=by
 unfold goodRef at h
 split at h
 ·cases h
 ·rename_i h1
  split at h
  ·rename_i h2
   rw [Bool.not_eq_false,Bool.and_eq_true] at h1
   obtain ⟨n,e1,e2,_⟩:=keyed_nat h1.1
   obtain ⟨qq,e3,e4,hq⟩:=goodly_nat h1.2
   obtain ⟨x,hx⟩:=Option.isSome_iff_exists.mp h2
   obtain ⟨hm,hk⟩:=accountAt_some hx
   exact ⟨x,qq,by rw [hk,e2]; exact e1,e3,hm,hq,h1.1,h1.2,hx⟩
  ·cases h
theorem onGood {s:State} {a q:Int} {f:Account→State×List Int}:(if (keyed a && goodly q)=false then (s,[-1]) else Vbchak.onAccount s a f)=if goodRef s a q=0 then (match accountAt s a.toNat with | some x=>f x | none=>(s,[-4])) else (s,[goodRef s a q]):=by
 unfold goodRef
 by_cases h1:(keyed a && goodly q)=false
 ·rw [if_pos h1,if_pos h1,if_neg (by decide)]
 ·rw [if_neg h1,if_neg h1]
  cases h:accountAt s a.toNat with
  | none =>
   rw [onAccount_4 h]
   rfl
  | some x =>
   rw [onAccount_a h]
   rfl
def spHas (c:Cs):Sp:=fun vs H Q _=>∃ (p:Addr) (L:Lay) (s:State) (a q:Int),vs=[.ref p,.int a,.int q]∧HX c H p L s∧Ans H Q (Vbchak.step s (.has a q)).2
theorem fn_has (T:Txt K mg c):Fn P w K mg base "has" 3 ["house","account_key","good"] (spHas c):=by
 refine T.f_has.fn sc_has (fun vs H Q E h=>?_) (fun f cdv A outer sh H vs Q E hr h=>?_)
 ·obtain ⟨p,L,s,a,q,rfl,_⟩:=h
  rfl
 obtain ⟨p,L,s,a,q,rfl,hx,k⟩:=h
 have hu:=hu_of hr
 have nd:=sc_has.nd
 refine ⟨_,(pss_cons (ps_set (i:=3) nd rfl (Or.inl rfl) (pe_fn (fn_good_refusal T) (hr.mono (by decide)) rfl (pa_cons (pv 0) (pa_cons (pv 1) (pa_cons (pv 2) pa_nil)))))
   (pss_cons (ps_if (pt_cmpR op_ne (pv 3) pe_int (nomark _)) (pss_one (ps_ret (pe_lst (pa_cons (pv 3) pa_nil)))) pss_nil)
   (pss_cons (ps_set (i:=4) nd rfl (Or.inl rfl) (pe_dget hu (pe_fld (pv 0) rfl) (pv 1) (fun _ _=>rfl)))
   (pss_one (ps_ret (pe_lst (pa_cons (pe_dget hu (pe_fld (pv 4) rfl) (pv 2) (fun _ _=>rfl)) (pa_cons (pe_dget hu (pe_fld (pv 4) rfl) (pv 2) (fun _ _=>rfl)) pa_nil)))))))),?_⟩
 try simp only [Cx.nox,Cx.wish,cxOf]
 obtain ⟨dx,hp⟩:=hx.at_.o
 walk_at "4"
 refine ⟨p,L,s,a,q,rfl,hx,?_⟩
 walk_at "4"
 have hst:(Vbchak.step s (.has a q)).2=(if goodRef s a q=0 then (match accountAt s a.toNat with | some x=>(s,[hasOf x q.toNat,(Vbchak.limitOf x q.toNat:Int)]) | none=>(s,[-4])) else (s,[goodRef s a q])).2:=congrArg Prod.snd onGood
 by_cases h0:goodRef s a q=0
 ·rw [decide_eq_true h0]
  refine iteF ?_
  obtain ⟨x0,qq,rfl,rfl,hm,hq,hk1,hk2,hax⟩:=goodRef_zero h0
  obtain ⟨x,hxm,rfl⟩:=lay_acc hx.r hm
  have hA:=hx.at_.as x hxm
  obtain ⟨da,hao⟩:=hA.o
  have l4:=(hx.r.good.acc x.acc hm).l4
  rw [if_pos h0,hax,Int.toNat_natCast] at hst
  walk_at "4"
  refine r_kF hp T.k_House T.n_House_accounts lH_a ?_
  walk_at "4"
  refine r_kDG (j:=(x.acc.key:Int)) hx.at_.da (da_at hx.r hxm) ?_
  walk_at "4"
  refine r_kF hao T.k_Account T.n_Account_amounts lA_m ?_
  walk_at "4"
  refine r_kDG (j:=(qq:Int)) hA.am (gd_val _ hq) ?_
  walk_at "4"
  refine r_kF hao T.k_Account T.n_Account_limits lA_l ?_
  walk_at "4"
  refine r_kDG (j:=(qq:Int)) hA.li (gd_val _ hq) ?_
  walk_at "4"
  exact r_kL (by show 2≤1000; decide) fun z hz0=>k.new (Same.refl _) hz0 (by rw [hst,lims_get l4 hq]; rfl)
 ·rw [decide_eq_false h0]
  refine iteT ?_
  rw [if_neg h0] at hst
  walk_at "4"
  exact r_kL (by show 1≤1000; decide) fun z hz0=>k.new (Same.refl _) hz0 (by rw [hst]; rfl)
def spThen (c:Cs):Sp:=fun vs H Q _=>∃ (p:Addr) (L:Lay) (s:State) (a q:Int),vs=[.ref p,.int a,.int q]∧HX c H p L s∧Ans H Q (Vbchak.step s (.then_ a q)).2
theorem fn_then (T:Txt K mg c):Fn P w K mg base "then" 7 ["house","account_key","good"] (spThen c):=by
 refine T.f_then.fn sc_then (fun vs H Q E h=>?_) (fun f cdv A outer sh H vs Q E hr h=>?_)
 ·obtain ⟨p,L,s,a,q,rfl,_⟩:=h
  rfl
 obtain ⟨p,L,s,a,q,rfl,hx,k⟩:=h
 have hu:=hu_of hr
 have nd:=sc_then.nd
 refine ⟨_,(pss_cons (ps_set (i:=3) nd rfl (Or.inl rfl) (pe_fn (fn_good_refusal T) (hr.mono (by decide)) rfl (pa_cons (pv 0) (pa_cons (pv 1) (pa_cons (pv 2) pa_nil)))))
   (pss_cons (ps_if (pt_cmpR op_ne (pv 3) pe_int (nomark _)) (pss_one (ps_ret (pe_lst (pa_cons (pv 3) pa_nil)))) pss_nil)
   (pss_one (ps_ret (pe_lst (pa_cons (pe_dget hu (pe_dget hu (pe_fn (fn_amounts_after T) (hr.mono (by decide)) rfl (pa_cons (pv 0) (pa_cons (pe_fn (fn_greatest_set T) (hr.mono (by decide)) rfl (pa_cons (pv 0) pa_nil)) pa_nil))) (pv 1) (fun _ _=>rfl)) (pv 2) (fun _ _=>rfl)) pa_nil)))))),?_⟩
 try simp only [Cx.nox,Cx.wish,cxOf]
 walk_at "4"
 refine ⟨p,L,s,a,q,rfl,hx,?_⟩
 walk_at "4"
 have hst:(Vbchak.step s (.then_ a q)).2=(if goodRef s a q=0 then (match accountAt s a.toNat with | some x=>(s,[wouldHave s (ready s) x q.toNat]) | none=>(s,[-4])) else (s,[goodRef s a q])).2:=congrArg Prod.snd onGood
 by_cases h0:goodRef s a q=0
 ·rw [decide_eq_true h0]
  refine iteF ?_
  obtain ⟨x0,qq,rfl,rfl,hm,hq,hk1,hk2,hax⟩:=goodRef_zero h0
  rw [if_pos h0,hax,Int.toNat_natCast] at hst
  walk_at "4"
  refine ⟨p,L,s,rfl,hx,fun H1 r1 gs s1 hr10 hr1 hpm=>?_⟩
  walk_at "4"
  refine ⟨p,r1,L,s,gs,rfl,hx.same s1,hr1.keys,hpm.nodup_iff.mpr (ready_nodup hx.r),mem_groups_ready hpm,fun H2 ra l s2 hra0 hF hA=>?_⟩
  obtain ⟨nk,y,hyl,hy1⟩:=after_find hx.r hF hm
  walk_at "4"
  refine r_kDG (j:=(x0.key:Int)) (.inl hA.1) (by rw [show (Sum.inl (x0.key:Int):Key)=kI x0.key from rfl,← hy1]; exact after_val nk hyl) ?_
  walk_at "4"
  refine r_kDG (j:=(qq:Int)) (.inl (hA.2 y hyl)) (gd_val _ hq) ?_
  rw [goods_get hq,hy1,would_mem (fun k=>hpm.mem_iff)]
  walk_at "4"
  exact r_kL (by show 1≤1000; decide) fun z hz0=>k.new (s1.trans s2) hz0 (by rw [hst]; rfl)
 ·rw [decide_eq_false h0]
  refine iteT ?_
  rw [if_neg h0] at hst
  walk_at "4"
  exact r_kL (by show 1≤1000; decide) fun z hz0=>k.new (Same.refl _) hz0 (by rw [hst]; rfl)
def spAllQ (c:Cs):Sp:=fun vs H Q _=>∃ (p:Addr) (L:Lay) (s:State) (a q:Int),vs=[.ref p,.int a,.int q]∧HX c H p L s∧Ans H Q (Vbchak.step s (.all_ a q)).2
theorem fn_with_all (T:Txt K mg c):Fn P w K mg base "with_all" 3 ["house","account_key","good"] (spAllQ c):=by
 refine T.f_with_all.fn sc_with_all (fun vs H Q E h=>?_) (fun f cdv A outer sh H vs Q E hr h=>?_)
 ·obtain ⟨p,L,s,a,q,rfl,_⟩:=h
  rfl
 obtain ⟨p,L,s,a,q,rfl,hx,k⟩:=h
 have hu:=hu_of hr
 have nd:=sc_with_all.nd
 refine ⟨_,(pss_cons (ps_set (i:=3) nd rfl (Or.inl rfl) (pe_fn (fn_good_refusal T) (hr.mono (by decide)) rfl (pa_cons (pv 0) (pa_cons (pv 1) (pa_cons (pv 2) pa_nil)))))
   (pss_cons (ps_if (pt_cmpR op_ne (pv 3) pe_int (nomark _)) (pss_one (ps_ret (pe_lst (pa_cons (pv 3) pa_nil)))) pss_nil)
   (pss_one (ps_ret (pe_lst (pa_cons (pe_dget hu (pe_dget hu (pe_fn (fn_amounts_after T) (hr.mono (by decide)) rfl (pa_cons (pv 0) (pa_cons (pe_fld (pv 0) rfl) pa_nil))) (pv 1) (fun _ _=>rfl)) (pv 2) (fun _ _=>rfl)) pa_nil)))))),?_⟩
 try simp only [Cx.nox,Cx.wish,cxOf]
 obtain ⟨dx,hp⟩:=hx.at_.o
 walk_at "4"
 refine ⟨p,L,s,a,q,rfl,hx,?_⟩
 walk_at "4"
 have hst:(Vbchak.step s (.all_ a q)).2=(if goodRef s a q=0 then (match accountAt s a.toNat with | some x=>(s,[wouldHave s (s.groups.map fun g=>g.key) x q.toNat]) | none=>(s,[-4])) else (s,[goodRef s a q])).2:=congrArg Prod.snd onGood
 by_cases h0:goodRef s a q=0
 ·rw [decide_eq_true h0]
  refine iteF ?_
  obtain ⟨x0,qq,rfl,rfl,hm,hq,hk1,hk2,hax⟩:=goodRef_zero h0
  rw [if_pos h0,hax,Int.toNat_natCast] at hst
  walk_at "4"
  refine r_kF hp T.k_House T.n_House_groups lH_g ?_
  walk_at "4"
  have hpm:=lay_gkeys hx.r
  refine ⟨p,L.pg,L,s,L.gs.map fun x=>x.grp.key,rfl,hx,⟨_,hx.eg,dg_keys L⟩,lay_gn hx.r,fun j hj=>?_,fun H2 ra l s2 hra0 hF hA=>?_⟩
  ·obtain ⟨g,hg,e⟩:=List.mem_map.mp (hpm.mem_iff.mp hj)
   exact ⟨g,hg,e⟩
  obtain ⟨nk,y,hyl,hy1⟩:=after_find hx.r hF hm
  walk_at "4"
  refine r_kDG (j:=(x0.key:Int)) (.inl hA.1) (by rw [show (Sum.inl (x0.key:Int):Key)=kI x0.key from rfl,← hy1]; exact after_val nk hyl) ?_
  walk_at "4"
  refine r_kDG (j:=(qq:Int)) (.inl (hA.2 y hyl)) (gd_val _ hq) ?_
  rw [goods_get hq,hy1,would_mem (Y:=s.groups.map fun g=>g.key) (fun k=>hpm.mem_iff)]
  walk_at "4"
  exact r_kL (by show 1≤1000; decide) fun z hz0=>k.new s2 hz0 (by rw [hst]; rfl)
 ·rw [decide_eq_false h0]
  refine iteT ?_
  rw [if_neg h0] at hst
  walk_at "4"
  exact r_kL (by show 1≤1000; decide) fun z hz0=>k.new (Same.refl _) hz0 (by rw [hst]; rfl)
def spNeed (c:Cs):Sp:=fun vs H Q _=>∃ (p:Addr) (L:Lay) (s:State) (a q g:Int),vs=[.ref p,.int a,.int q,.int g]∧HX c H p L s∧Ans H Q (Vbchak.step s (.need a q g)).2
theorem fn_need (T:Txt K mg c):Fn P w K mg base "need" 8 ["house","account_key","good","key"] (spNeed c):=by
 refine T.f_need.fn sc_need (fun vs H Q E h=>?_) (fun f cdv A outer sh H vs Q E hr h=>?_)
 ·obtain ⟨p,L,s,a,q,g,rfl,_⟩:=h
  rfl
 obtain ⟨p,L,s,a,q,g,rfl,hx,k⟩:=h
 have hu:=hu_of hr
 have nd:=sc_need.nd
 refine ⟨_,(pss_cons (ps_if (pt_not (PW.pt (pw_and (pt_val (pe_fn (fn_is_key T) (hr.mono (by decide)) rfl (pa_cons (pv 1) pa_nil))) (pw_and (pt_val (pe_fn (fn_is_good T) (hr.mono (by decide)) rfl (pa_cons (pv 2) pa_nil))) (pw_and1 (pt_val (pe_fn (fn_is_key T) (hr.mono (by decide)) rfl (pa_cons (pv 3) pa_nil)))))))) (pss_one (ps_ret (pe_lst (pa_cons (pe_gint T.c_OUT_OF_RANGE) pa_nil)))) pss_nil)
   (pss_cons (ps_if (PW.pt (pw_or (pt_cmp (pc_dnotin hu (pv 1) (pe_fld (pv 0) rfl)) rfl) (pw_or1 (pt_cmp (pc_dnotin hu (pv 3) (pe_fld (pv 0) rfl)) rfl)))) (pss_one (ps_ret (pe_lst (pa_cons (pe_gint T.c_NOT_THERE) pa_nil)))) pss_nil)
   (pss_cons (ps_set (i:=4) nd rfl (Or.inl rfl) (pe_fn (fn_least_amounts T) (hr.mono (by decide)) rfl (pa_cons (pv 0) (pa_cons (pv 1) (pa_cons (pv 2) (pa_cons (pv 3) pa_nil))))))
   (pss_one (ps_ret (pe_ifExp (pt_cmpR op_gt (pe_callB call_len_seq rfl T.b_len boot_len (pa_cons (pv 4) pa_nil)) pe_int (nomark _)) (pv 4) (pe_lst (pa_cons (pe_gint T.c_CANNOT_BE) pa_nil)))))))),?_⟩
 try simp only [Cx.nox,Cx.wish,cxOf]
 obtain ⟨dx,hp⟩:=hx.at_.o
 have out1:(keyed a && (goodly q && keyed g))=false→∀ z,H z=none→Q (.ref z) (upd H z (.lst [.int (-1)])):=fun h z hz=>k.new (Same.refl _) hz (by show (if (keyed a && (goodly q && keyed g))=false then (s,[-1]) else _:State×List Int).2.map V.int=_; rw [if_pos h]; rfl)
 walk_at "4"
 cases hk:keyed a with
 | false =>
  refine iteF (iteT ?_)
  walk_at "4"
  exact r_kL (by show 1≤1000; decide) (out1 (by rw [hk]; rfl))
 | true =>
  refine iteT ?_
  walk_at "4"
  cases hq:goodly q with
  | false =>
   refine iteF (iteT ?_)
   walk_at "4"
   exact r_kL (by show 1≤1000; decide) (out1 (by rw [hk,hq]; rfl))
  | true =>
   refine iteT ?_
   walk_at "4"
   cases hg:keyed g with
   | false =>
    refine iteT ?_
    walk_at "4"
    exact r_kL (by show 1≤1000; decide) (out1 (by rw [hk,hq,hg]; rfl))
   | true =>
    refine iteF ?_
    have hst0:(Vbchak.step s (.need a q g)).2=(Vbchak.onAccount s a fun x=>Vbchak.onGroup s g fun y=>if helps s x.key q.toNat y.key NEED=true then (s,[(needOf s x.key q.toNat y.key:Int)]) else (s,[-8])).2:=by
     show (if (keyed a && (goodly q && keyed g))=false then (s,[-1]) else _:State×List Int).2=_
     rw [if_neg (by rw [hk,hq,hg]; decide)]
    obtain ⟨n,rfl,en,_⟩:=keyed_nat hk
    obtain ⟨m,rfl,em,_⟩:=keyed_nat hg
    obtain ⟨qq,rfl,eq,hqq⟩:=goodly_nat hq
    walk_at "4"
    refine r_kF hp T.k_House T.n_House_accounts lH_a ?_
    refine r_kDN (j:=(n:Int)) hx.at_.da ?_
    walk_at "4"
    cases ha:accountAt s n with
    | none =>
     rw [da_none hx.r ha]
     refine iteT (iteT ?_)
     walk_at "4"
     exact r_kL (by show 1≤1000; decide) fun z hz0=>k.new (Same.refl _) hz0 (by rw [hst0,onAccount_4 (by rw [Int.toNat_natCast]; exact ha)]; rfl)
    | some x =>
     rw [da_there hx.r ha]
     refine iteF ?_
     rw [onAccount_a (by rw [Int.toNat_natCast]; exact ha)] at hst0
     walk_at "4"
     refine r_kF hp T.k_House T.n_House_groups lH_g ?_
     refine r_kDN (j:=(m:Int)) hx.at_.dg ?_
     walk_at "4"
     cases hgr:groupAt s m with
     | none =>
      rw [dg_none hx.r hgr]
      refine iteT ?_
      walk_at "4"
      exact r_kL (by show 1≤1000; decide) fun z hz0=>k.new (Same.refl _) hz0 (by rw [hst0,onGroup_4 hg (by rw [Int.toNat_natCast]; exact hgr)]; rfl)
     | some y =>
      rw [dg_there hx.r hgr]
      refine iteF ?_
      rw [onGroup_g hg (by rw [Int.toNat_natCast]; exact hgr),Int.toNat_natCast] at hst0
      obtain ⟨hxm,hxk⟩:=accountAt_some ha
      obtain ⟨hym,hyk⟩:=groupAt_some hgr
      subst hxk hyk
      walk_at "4"
      refine ⟨p,L,s,x,qq,y,rfl,hx,hxm,hqq,hym,fun H1 r1 s1 hr10 hr1=>?_⟩
      walk_at "4"
      refine ⟨r1,_,rfl,.inl (.inl (.inl hr1)),?_⟩
      walk_at "4"
      rw [List.length_map]
      unfold needL at hr1 ⊢
      by_cases hh:helps s x.key qq y.key NEED=true
      ·rw [if_pos hh] at hr1 hst0 ⊢
       refine iteT ?_
       walk_at "4"
       exact k _ r1 s1 hr10 (by rw [hst0]; exact hr1)
      ·rw [if_neg hh] at hr1 hst0 ⊢
       refine iteF ?_
       walk_at "4"
       exact r_kL (by show 1≤1000; decide) fun z hz0=>k.new s1 hz0 (by rw [hst0]; rfl)
def spMoreQ (c:Cs):Sp:=fun vs H Q _=>∃ (p:Addr) (L:Lay) (s:State) (a q n:Int),vs=[.ref p,.int a,.int q,.int n]∧HX c H p L s∧Ans H Q (Vbchak.step s (.more a q n)).2
theorem within_nat {n:Int} {hi:Nat} (h:within n 1 hi=true):∃ k:Nat,n=(k:Int)∧n.toNat=k∧1≤k∧k≤hi:=by
 unfold Vbchak.within at h
 rw [Bool.and_eq_true,decide_eq_true_eq,decide_eq_true_eq] at h
 exact ⟨n.toNat,by omega,rfl,by omega,by omega⟩
theorem fn_more (T:Txt K mg c):Fn P w K mg base "more" 8 ["house","account_key","good","amount"] (spMoreQ c):=by
 refine T.f_more.fn sc_more (fun vs H Q E h=>?_) (fun f cdv A outer sh H vs Q E hr h=>?_)
 ·obtain ⟨p,L,s,a,q,n,rfl,_⟩:=h
  rfl
 obtain ⟨p,L,s,a,q,n,rfl,hx,k⟩:=h
 have hu:=hu_of hr
 have nd:=sc_more.nd
 refine ⟨_,(pss_cons (ps_if (pt_not (PW.pt (pw_and (pt_val (pe_fn (fn_is_key T) (hr.mono (by decide)) rfl (pa_cons (pv 1) pa_nil))) (pw_and (pt_val (pe_fn (fn_is_good T) (hr.mono (by decide)) rfl (pa_cons (pv 2) pa_nil))) (pw_and1 (pt_val (pe_fn (fn_is_amount T) (hr.mono (by decide)) rfl (pa_cons (pv 3) pa_nil)))))))) (pss_one (ps_ret (pe_lst (pa_cons (pe_gint T.c_OUT_OF_RANGE) pa_nil)))) pss_nil)
   (pss_cons (ps_if (pt_cmp (pc_dnotin hu (pv 1) (pe_fld (pv 0) rfl)) rfl) (pss_one (ps_ret (pe_lst (pa_cons (pe_gint T.c_NOT_THERE) pa_nil)))) pss_nil)
   (pss_one (ps_ret (pe_fn (fn_counted T) (hr.mono (by decide)) rfl (pa_cons (pe_callB (call_sortedD rfl) rfl T.b_sorted L2.boot_sorted (pa_cons (pe_fn (fn_let_in T) (hr.mono (by decide)) rfl (pa_cons (pv 0) (pa_cons (pv 1) (pa_cons (pv 2) (pa_cons (pv 3) pa_nil))))) pa_nil)) pa_nil)))))),?_⟩
 try simp only [Cx.nox,Cx.wish,cxOf]
 obtain ⟨dx,hp⟩:=hx.at_.o
 have out1:(keyed a && (goodly q && within n 1 Vbchak.MOST))=false→∀ z,H z=none→Q (.ref z) (upd H z (.lst [.int (-1)])):=fun h z hz=>k.new (Same.refl _) hz (by show (if (keyed a && (goodly q && within n 1 Vbchak.MOST))=false then (s,[-1]) else _:State×List Int).2.map V.int=_; rw [if_pos h]; rfl)
 walk_at "4"
 cases hk:keyed a with
 | false =>
  refine iteF (iteT ?_)
  walk_at "4"
  exact r_kL (by show 1≤1000; decide) (out1 (by rw [hk]; rfl))
 | true =>
  refine iteT ?_
  walk_at "4"
  cases hq:goodly q with
  | false =>
   refine iteF (iteT ?_)
   walk_at "4"
   exact r_kL (by show 1≤1000; decide) (out1 (by rw [hk,hq]; rfl))
  | true =>
   refine iteT ?_
   walk_at "4"
   cases hn:within n 1 Vbchak.MOST with
   | false =>
    refine iteT ?_
    walk_at "4"
    exact r_kL (by show 1≤1000; decide) (out1 (by rw [hk,hq,hn]; rfl))
   | true =>
    refine iteF ?_
    have hst0:(Vbchak.step s (.more a q n)).2=(Vbchak.onAccount s a fun x=>(s,Vbchak.counted ((ready (withMore s x.key q.toNat n)).filter fun k=>!(ready s).contains k))).2:=by
     show (if (keyed a && (goodly q && within n 1 Vbchak.MOST))=false then (s,[-1]) else _:State×List Int).2=_
     rw [if_neg (by rw [hk,hq,hn]; decide)]
    obtain ⟨m,rfl,em,_⟩:=keyed_nat hk
    obtain ⟨qq,rfl,eq,hqq⟩:=goodly_nat hq
    obtain ⟨nn,rfl,enn,_⟩:=within_nat hn
    walk_at "4"
    refine r_kF hp T.k_House T.n_House_accounts lH_a ?_
    refine r_kDN (j:=(m:Int)) hx.at_.da ?_
    walk_at "4"
    cases ha:accountAt s m with
    | none =>
     rw [da_none hx.r ha]
     refine iteT ?_
     walk_at "4"
     exact r_kL (by show 1≤1000; decide) fun z hz0=>k.new (Same.refl _) hz0 (by rw [hst0,onAccount_4 (by rw [Int.toNat_natCast]; exact ha)]; rfl)
    | some x =>
     rw [da_there hx.r ha]
     refine iteF ?_
     rw [onAccount_a (by rw [Int.toNat_natCast]; exact ha),Int.toNat_natCast] at hst0
     obtain ⟨hxm,hxk⟩:=accountAt_some ha
     subst hxk
     have G':=hx.r.good.more0 x.key qq nn
     have hr':R (withMore L.st x.key qq (nn:Int)) (withMore s x.key qq (nn:Int)):=hx.r.more _ _ _ G'
     walk_at "4"
     refine ⟨p,L,s,x,qq,nn,rfl,hx,hxm,hqq,fun H1 r1 X s1 hr10 hr1 hpm=>?_⟩
     have hsort:((ready (withMore s x.key qq (nn:Int))).filter fun k=>!(ready s).contains k).Pairwise (· < ·):=(ready_sorted hr').sublist List.filter_sublist
     have hl:X.length≤24:=by
      rw [hpm.length_eq]
      exact Nat.le_trans (List.length_filter_le _ _) (ready_len G' (List.Perm.refl _))
     walk_at "4"
     refine ⟨r1,_,X.map fun (k:Nat)=>(k:Int),rfl,.inl hr1,by rw [sdk_keys,inl_map],by rw [List.length_map]; omega,fun ns' pl hp1 hp2 hpl=>?_⟩
     have e:=sort_eq hp1 hp2 hpm hsort
     subst e
     rw [ints_map]
     walk_at "4"
     exact ⟨pl,_,rfl,upd_same,by rw [← hpm.length_eq]; omega,fun H' r s' hr0 hrr=>k H' r ((s1.trans (same_new hpl)).trans s') ((s1.trans (same_new hpl)).free hr0) (by rw [hst0]; exact hrr)⟩
def spRow (c:Cs):Sp:=fun vs H Q _=>∃ (p:Addr) (L:Lay) (s:State) (a:Int),vs=[.ref p,.int a]∧HX c H p L s∧(∀ y,y∈L.as→H y.ro=some (.lst (y.acc.row.map vI)))∧Ans H Q (Vbchak.step s (.row a)).2
theorem fn_row (T:Txt K mg c):Fn P w K mg base "row" 2 ["house","account_key"] (spRow c):=by
 refine T.f_row.fn sc_row (fun vs H Q E h=>?_) (fun f cdv A outer sh H vs Q E hr h=>?_)
 ·obtain ⟨p,L,s,a,rfl,_⟩:=h
  rfl
 obtain ⟨p,L,s,a,rfl,hx,hro,k⟩:=h
 have hu:=hu_of hr
 have nd:=sc_row.nd
 refine ⟨_,(pss_cons (ps_if (pt_not (pt_val (pe_fn (fn_is_key T) (hr.mono (by decide)) rfl (pa_cons (pv 1) pa_nil)))) (pss_one (ps_ret (pe_lst (pa_cons (pe_gint T.c_OUT_OF_RANGE) pa_nil)))) pss_nil)
   (pss_cons (ps_if (pt_cmp (pc_dnotin hu (pv 1) (pe_fld (pv 0) rfl)) rfl) (pss_one (ps_ret (pe_lst (pa_cons (pe_gint T.c_NOT_THERE) pa_nil)))) pss_nil)
   (pss_one (ps_ret (pe_fn (fn_counted T) (hr.mono (by decide)) rfl (pa_cons (pe_fld (pe_dget hu (pe_fld (pv 0) rfl) (pv 1) (fun _ _=>rfl)) rfl) pa_nil)))))),?_⟩
 try simp only [Cx.nox,Cx.wish,cxOf]
 obtain ⟨dx,hp⟩:=hx.at_.o
 walk_at "4"
 cases hk:keyed a with
 | false =>
  refine iteT ?_
  walk_at "4"
  exact r_kL (by show 1≤1000; decide) fun z hz0=>k.new (Same.refl _) hz0 (by show (if keyed a=false then (s,[-1]) else _:State×List Int).2.map V.int=_; rw [if_pos hk]; rfl)
 | true =>
  refine iteF ?_
  have hst0:(Vbchak.step s (.row a)).2=(Vbchak.onAccount s a fun x=>(s,Vbchak.counted x.row)).2:=by
   show (if keyed a=false then (s,[-1]) else _:State×List Int).2=_
   rw [if_neg (by rw [hk]; decide)]
  obtain ⟨m,rfl,em,_⟩:=keyed_nat hk
  walk_at "4"
  refine r_kF hp T.k_House T.n_House_accounts lH_a ?_
  refine r_kDN (j:=(m:Int)) hx.at_.da ?_
  walk_at "4"
  cases ha:accountAt s m with
  | none =>
   rw [da_none hx.r ha]
   refine iteT ?_
   walk_at "4"
   exact r_kL (by show 1≤1000; decide) fun z hz0=>k.new (Same.refl _) hz0 (by rw [hst0,onAccount_4 (by rw [Int.toNat_natCast]; exact ha)]; rfl)
  | some x0 =>
   rw [da_there hx.r ha]
   refine iteF ?_
   rw [onAccount_a (by rw [Int.toNat_natCast]; exact ha)] at hst0
   obtain ⟨hxm0,hxk⟩:=accountAt_some ha
   subst hxk
   obtain ⟨x,hxm,rfl⟩:=lay_acc hx.r hxm0
   obtain ⟨da,hao⟩:=(hx.at_.as x hxm).o
   walk_at "4"
   refine r_kF hp T.k_House T.n_House_accounts lH_a ?_
   walk_at "4"
   refine r_kDG (j:=(x.acc.key:Int)) hx.at_.da (da_at hx.r hxm) ?_
   refine r_kF hao T.k_Account T.n_Account_row lA_r ?_
   walk_at "4"
   exact ⟨x.ro,x.acc.row,rfl,hro x hxm,by have:=row_len hx.r.good hxm0; omega,fun H' r s' hr0 hr'=>k H' r s' hr0 (by rw [hst0]; exact hr')⟩
end
def fourV (x:Vbchak.Leg):List V:=[vI x.from_,vI x.to,vI x.good,vI x.amount]
theorem four_map (l:List Vbchak.Leg):(l.flatMap fun x=>[x.from_,x.to,x.good,x.amount]).map vI=l.flatMap fourV:=by
 rw [List.map_flatMap]
 rfl
theorem four_len (l:List Vbchak.Leg):(l.flatMap fourV).length=4 * l.length:=by
 induction l with
 | nil=>rfl
 | cons x l ih =>
  rw [List.flatMap_cons,List.length_append,ih,List.length_cons]
  show 4 + 4 * l.length=_
  omega
theorem sum_keys {s:State} (G:Good s) {ks X:List Nat} (nd:ks.Nodup) (hk:∀ k,k∈ks→∃ g,g∈s.groups∧g.key=k) (hX:∀ k,k∈ks↔k∈X) (f:List Vbchak.Leg→Int) :
  total ((s.groups.filter fun g=>X.contains g.key).map fun g=>f g.legs)=total (ks.map fun k=>f (legsAt s k)):=by
 have hp:((s.groups.filter fun g=>X.contains g.key).map (·.key)).Perm ks:=by
  refine (List.perm_ext_iff_of_nodup (G.gn.sublist (List.filter_sublist.map _)) nd).mpr fun k=>?_
  constructor
  ·intro h
   obtain ⟨g,hg,rfl⟩:=List.mem_map.mp h
   exact (hX _).mpr (List.contains_iff_mem.mp (List.mem_filter.mp hg).2)
  ·intro h
   obtain ⟨g,hg,rfl⟩:=hk k h
   exact List.mem_map.mpr ⟨g,List.mem_filter.mpr ⟨hg,List.contains_iff_mem.mpr ((hX _).mp h)⟩,rfl⟩
 rw [← total_perm (hp.map fun k=>f (legsAt s k)),List.map_map]
 refine total_congr fun g hg=>?_
 show f g.legs=f (legsAt s g.key)
 unfold legsAt
 rw [groupAt_mem G (List.mem_filter.mp hg).1]
def legGood (H:Hp) (q:Nat):V→Bool
 | .ref e=>match H e with
  | some (.ins _ _ fs)=>decide (fs.lookup ("good":Str)=some (vI q))
  | _=>false
 | _=>false
def legAmt (H:Hp):V→V
 | .ref e=>match H e with
  | some (.ins _ _ fs)=>(fs.lookup ("amount":Str)).getD .non
  | _=>.non
 | _=>.non
theorem legGood_at {H:Hp} {c:Cs} {e dl:Addr} {x:Vbchak.Leg} (h:H e=some (.ins c.leg dl (fL x))) (q:Nat):legGood H q (.ref e)=decide (x.good=q):=by
 show (match H e with | some (.ins _ _ fs)=>decide (fs.lookup ("good":Str)=some (vI q)) | _=>false)=_
 rw [h]
 show decide ((fL x).lookup ("good":Str)=some (vI q))=_
 rw [lL_g]
 by_cases e:x.good=q
 ·rw [decide_eq_true e,e]
  exact decide_eq_true rfl
 ·rw [decide_eq_false e]
  refine decide_eq_false fun z=>e ?_
  have z2:(x.good:Int)=(q:Int):=V.int.inj (Option.some.inj z)
  omega
theorem legAmt_at {H:Hp} {c:Cs} {e dl:Addr} {x:Vbchak.Leg} (h:H e=some (.ins c.leg dl (fL x))):legAmt H (.ref e)=vI x.amount:=by
 show (match H e with | some (.ins _ _ fs)=>(fs.lookup ("amount":Str)).getD .non | _=>.non)=_
 rw [h]
 show ((fL x).lookup ("amount":Str)).getD .non=_
 rw [lL_a]
 rfl
theorem legs_sum {H:Hp} {c:Cs} (q:Nat):∀ {xs:List Addr} {ls:List Vbchak.Leg},Paired (fun a l=>∃ dx,H a=some (.ins c.leg dx (fL l))) xs ls →
  ∃ ns:List Int,((xs.map V.ref).filter (legGood H q)).map (legAmt H)=ns.map V.int∧ns.sum=total (ls.map fun x=>if x.good=q then (x.amount:Int) else 0)
 | _,_,.nil=>⟨[],rfl,rfl⟩
 | _,_,.cons (a:=a) (b:=b) ⟨dx,h⟩ t=>by
  obtain ⟨ns,e1,e2⟩:=legs_sum q t
  rw [List.map_cons,List.filter_cons,legGood_at h,List.map_cons,total_cons]
  by_cases hg:b.good=q
  ·refine ⟨(b.amount:Int)::ns,?_,?_⟩
   ·rw [if_pos (decide_eq_true hg),List.map_cons,legAmt_at h,e1]
    rfl
   ·rw [List.sum_cons,e2,if_pos hg]
  ·refine ⟨ns,?_,?_⟩
   ·rw [if_neg (by rw [decide_eq_true_eq]; exact hg),e1]
   ·rw [e2,if_neg hg]
    omega
section
variable {P:Program} {w:World} {K:PySem.W.Frag} {mg:Str→Option Value} {base:Heap} {c:Cs}
def spLegsQ (c:Cs):Sp:=fun vs H Q _=>∃ (p:Addr) (L:Lay) (s:State) (k:Int),vs=[.ref p,.int k]∧HX c H p L s∧Ans H Q (Vbchak.step s (.legs k)).2
theorem fn_legs (T:Txt K mg c):Fn P w K mg base "legs" 2 ["house","key"] (spLegsQ c):=by
 refine T.f_legs.fn sc_legs (fun vs H Q E h=>?_) (fun f cdv A outer sh H vs Q E hr h=>?_)
 ·obtain ⟨p,L,s,kk,rfl,_⟩:=h
  rfl
 obtain ⟨p,L,s,kk,rfl,hx,k⟩:=h
 have hu:=hu_of hr
 have nd:=sc_legs.nd
 refine ⟨_,(pss_cons (ps_if (pt_not (pt_val (pe_fn (fn_is_key T) (hr.mono (by decide)) rfl (pa_cons (pv 1) pa_nil)))) (pss_one (ps_ret (pe_lst (pa_cons (pe_gint T.c_OUT_OF_RANGE) pa_nil)))) pss_nil)
   (pss_cons (ps_if (pt_cmp (pc_dnotin hu (pv 1) (pe_fld (pv 0) rfl)) rfl) (pss_one (ps_ret (pe_lst (pa_cons (pe_gint T.c_NOT_THERE) pa_nil)))) pss_nil)
   (pss_cons (ps_set (i:=2) nd rfl (Or.inl rfl) (pe_dget hu (pe_fld (pv 0) rfl) (pv 1) (fun _ _=>rfl)))
   (pss_cons (ps_set (i:=3) nd rfl (Or.inl rfl) (pe_lst (pa_cons (pe_fld (pv 2) rfl) (pa_cons (pe_callB call_len_seq rfl T.b_len boot_len (pa_cons (pe_fld (pv 2) rfl) pa_nil)) pa_nil))))
   (pss_cons (ps_for PassesOwn.never rfl (pi_list (pe_fld (pv 2) rfl)) (pg_name (i:=4) nd rfl (Or.inl rfl)) (pss_one (ps_expr (pe_bm PySem.F.plainAttrs_list PySem.F.slot_list_extend PySem.F.type_list_extend mt_extend (pv 3) (pa_cons (pe_lst (pa_cons (pe_fld (pv 4) rfl) (pa_cons (pe_fld (pv 4) rfl) (pa_cons (pe_fld (pv 4) rfl) (pa_cons (pe_fld (pv 4) rfl) pa_nil))))) pa_nil)))))
   (pss_one (ps_ret (pv 3)))))))),?_⟩
 try simp only [Cx.nox,Cx.wish,cxOf]
 obtain ⟨dx,hp⟩:=hx.at_.o
 walk_at "4"
 cases hk:keyed kk with
 | false =>
  refine iteT ?_
  walk_at "4"
  exact r_kL (by show 1≤1000; decide) fun z hz0=>k.new (Same.refl _) hz0 (by show (Vbchak.onGroup s kk _).2.map V.int=_; rw [onGroup_1 hk]; rfl)
 | true =>
  refine iteF ?_
  obtain ⟨n,rfl,en,_⟩:=keyed_nat hk
  walk_at "4"
  refine r_kF hp T.k_House T.n_House_groups lH_g ?_
  refine r_kDN (j:=(n:Int)) hx.at_.dg ?_
  walk_at "4"
  cases hg:groupAt s n with
  | none =>
   rw [dg_none hx.r hg]
   refine iteT ?_
   walk_at "4"
   exact r_kL (by show 1≤1000; decide) fun z hz0=>k.new (Same.refl _) hz0 (by show (Vbchak.onGroup s (n:Int) _).2.map V.int=_; rw [onGroup_4 hk (by rw [Int.toNat_natCast]; exact hg)]; rfl)
  | some g =>
   rw [dg_there hx.r hg]
   refine iteF ?_
   obtain ⟨hgm,hgk⟩:=groupAt_some hg
   subst hgk
   obtain ⟨x,hxm,rfl⟩:=lay_grp hx.r hgm
   have hst:(Vbchak.step s (.legs (x.grp.key:Int))).2=Vbchak.ints ((if x.grp.held=true then 1 else 0)::x.grp.legs.length::x.grp.legs.flatMap fun x=>[x.from_,x.to,x.good,x.amount]):=by
    show (Vbchak.onGroup s (x.grp.key:Int) _).2=_
    rw [onGroup_g hk (by rw [Int.toNat_natCast]; exact hg)]
   have hG:=hx.at_.gs x hxm
   obtain ⟨dg,hgo⟩:=hG.o
   have l8:=(hx.r.good.grp x.grp hgm).l8
   walk_at "4"
   refine r_kF hp T.k_House T.n_House_groups lH_g ?_
   walk_at "4"
   refine r_kDG (j:=(x.grp.key:Int)) hx.at_.dg (dg_at hx.r hxm) ?_
   walk_at "4"
   refine r_kF hgo T.k_Group T.n_Group_held lG_h ?_
   walk_at "4"
   refine r_kF hgo T.k_Group T.n_Group_legs lG_l ?_
   walk_at "4"
   refine ⟨x.le,_,rfl,.inl (.inl hG.le),?_⟩
   rw [List.length_map,show x.xs.length=x.grp.legs.length from Paired.length hG.legs]
   walk_at "4"
   refine r_kL (by show 2≤1000; decide) fun z hz0=>?_
   have s1:=same_new (o:=.lst [.int (hI x.grp.held),.int (x.grp.legs.length:Int)]) hz0
   walk_at "4"
   refine r_kF (s1 _ _ hgo) T.k_Group T.n_Group_legs lG_l ?_
   refine r_kFor (xs:=x.xs.map V.ref) (fun i σ' H'=>∃ v,σ'=[some (.ref p),some (vI x.grp.key),some (.ref x.g),some (.ref z),v]∧H' z=some (.lst ([.int (hI x.grp.held),.int (x.grp.legs.length:Int)]++(x.grp.legs.take i).flatMap fourV))∧Same H H')
    ⟨none,rfl,upd_same,s1⟩ (fun i σ' H' ⟨_,_,_,s2⟩=>s2.seq (.inl hG.le)) ?_ ?_
   ·rintro i y σ' H' D2 hy ⟨v,rfl,hz2,s2⟩ hD
    obtain ⟨la,hla,rfl⟩:=map_at hy
    obtain ⟨leg,hleg,dl,hlo⟩:=paired_get hG.legs hla
    have hlo2:=s2 _ _ hlo
    walk_at "4"
    refine r_kBl (.inl (.inl hz2)) ?_
    walk_at "4"
    refine r_kF hlo2 T.k_Leg T.n_Leg_giver lL_f ?_
    walk_at "4"
    refine r_kF hlo2 T.k_Leg T.n_Leg_taker lL_t ?_
    walk_at "4"
    refine r_kF hlo2 T.k_Leg T.n_Leg_good lL_g ?_
    walk_at "4"
    refine r_kF hlo2 T.k_Leg T.n_Leg_amount lL_a ?_
    walk_at "4"
    refine r_kL (by show 4≤1000; decide) fun n hn=>?_
    walk_at "4"
    have hzn:z≠n:=ne_of_none hz2 hn
    have hlen:([V.int (hI x.grp.held),V.int (x.grp.legs.length:Int)]++(x.grp.legs.take i).flatMap fourV).length≤100:=by
     rw [List.length_append,four_len]
     have:=take_len_le x.grp.legs i
     show 2 + _≤100
     omega
    refine ⟨z,n,_,_,rfl,rfl,by rw [upd_ne hzn]; exact hz2,upd_same,Nat.le_of_lt (small1000 (by show _ + 4≤1000; omega)),?_⟩
    refine hD _ _ ⟨_,rfl,?_,same_upd (s2.trans (same_new hn)) hz0⟩
    rw [upd_same,take_snoc hleg,List.flatMap_append,List.append_assoc]
    rfl
   ·rintro σ' H' ⟨v,rfl,hz2,s2⟩
    walk_at "4"
    rw [List.length_map,show x.xs.length=x.grp.legs.length from Paired.length hG.legs,List.take_length] at hz2
    refine k _ z s2 hz0 ?_
    rw [hz2,hst,ints_V,List.map_cons,List.map_cons,four_map]
    cases x.grp.held <;> rfl
def spMoved (c:Cs):Sp:=fun vs H Q _=>∃ (p:Addr) (L:Lay) (s:State) (q:Int),vs=[.ref p,.int q]∧HX c H p L s∧Ans H Q (Vbchak.step s (.moved q)).2
theorem fn_moved (T:Txt K mg c):Fn P w K mg base "moved" 7 ["house","good"] (spMoved c):=by
 refine T.f_moved.fn sc_moved (fun vs H Q E h=>?_) (fun f cdv A outer sh H vs Q E hr h=>?_)
 ·obtain ⟨p,L,s,q,rfl,_⟩:=h
  rfl
 obtain ⟨p,L,s,q,rfl,hx,k⟩:=h
 have hu:=hu_of hr
 have nd:=sc_moved.nd
 refine ⟨_,(pss_cons (ps_if (pt_not (pt_val (pe_fn (fn_is_good T) (hr.mono (by decide)) rfl (pa_cons (pv 1) pa_nil)))) (pss_one (ps_ret (pe_lst (pa_cons (pe_gint T.c_OUT_OF_RANGE) pa_nil)))) pss_nil)
   (pss_cons (ps_set (i:=2) nd rfl (Or.inl rfl) (pe_fn (fn_greatest_set T) (hr.mono (by decide)) rfl (pa_cons (pv 0) pa_nil)))
   (pss_cons (ps_set (i:=3) nd rfl (Or.inl rfl) (pe_fn (fn_amounts_after T) (hr.mono (by decide)) rfl (pa_cons (pv 0) (pa_cons (pv 2) pa_nil))))
   (pss_cons (ps_set (i:=4) nd rfl (Or.inl rfl) pe_int)
   (pss_cons (ps_lock (ps_for PassesOwn.never rfl (pi_keys (pv 2)) (pg_name (i:=5) nd rfl (Or.inl rfl)) (pss_one (ps_aug (i:=4) nd rfl (Or.inl rfl) (pe_callB (cr_sum rfl) rfl T.b_sum L2.boot_sum (pa_cons (pe_lc rfl nd (pi_list (pe_fld (pe_dget hu (pe_fld (pv 0) rfl) (pv 5) (fun _ _=>rfl)) rfl)) (blkOk_by (own:=[("leg",8)]) (by simp only [Cx.nox,Cx.wish,cxOf,envOfC]; decide +kernel)) (fun _ _ _ _ _=>pg_name (i:=8) nd rfl (Or.inl rfl)) (fun _ _ _ _ _=>(pts_one (pt_cmpR op_eq (pe_fldK (K:=K) rfl (pv 8) rfl) (pv 1) (nomark _)))) (fun _ _ _ _ _=>(pe_fldK (K:=K) rfl (pv 8) rfl))) pa_nil)) ip_add))))
   (pss_cons (ps_set (i:=6) nd rfl (Or.inl rfl) pe_int)
   (pss_cons (ps_lock (ps_for PassesOwn.never rfl (pi_items (pe_fld (pv 0) rfl)) (pg_tup rfl (pgs_cons (pg_name (i:=5) nd rfl (Or.inl rfl)) (pgs_cons (pg_name (i:=7) nd rfl (Or.inl rfl)) pgs_nil))) (pss_one (ps_aug (i:=6) nd rfl (Or.inl rfl) (pe_callB (call_max2 rfl) rfl T.b_max L2.boot_max (pa_cons pe_int (pa_cons (pe_op op_sub (pe_dget hu (pe_fld (pv 7) rfl) (pv 1) (fun _ _=>rfl)) (pe_dget hu (pe_dget hu (pv 3) (pv 5) (fun _ _=>rfl)) (pv 1) (fun _ _=>rfl))) pa_nil))) ip_add))))
   (pss_one (ps_ret (pe_lst (pa_cons (pv 4) (pa_cons (pv 6) pa_nil)))))))))))),?_⟩
 try simp only [Cx.nox,Cx.wish,cxOf]
 walk_at "4"
 cases hq:goodly q with
 | false =>
  refine iteT ?_
  walk_at "4"
  exact r_kL (by show 1≤1000; decide) fun z hz0=>k.new (Same.refl _) hz0 (by show (if goodly q=false then (s,[-1]) else _:State×List Int).2.map V.int=_; rw [if_pos hq]; rfl)
 | true =>
  refine iteF ?_
  have hst:(Vbchak.step s (.moved q)).2=[total ((s.groups.filter fun g=>(ready s).contains g.key).map fun g=>total (g.legs.map fun x=>if x.good=q.toNat then (x.amount:Int) else 0)),total (s.accounts.map fun a=>max 0 (hasOf a q.toNat - wouldHave s (ready s) a q.toNat))]:=by
   show (if goodly q=false then (s,[-1]) else _:State×List Int).2=_
   rw [if_neg (by rw [hq]; decide)]
  obtain ⟨qq,rfl,eq,hqq⟩:=goodly_nat hq
  rw [Int.toNat_natCast] at hst
  walk_at "4"
  refine ⟨p,L,s,rfl,hx,fun H1 r1 gs s1 hr10 hr1 hpm=>?_⟩
  have hgn:=hpm.nodup_iff.mpr (ready_nodup hx.r)
  have hgg:=mem_groups_ready hpm
  walk_at "4"
  refine ⟨p,r1,L,s,gs,rfl,hx.same s1,hr1.keys,hgn,hgg,fun H2 ra l s2 hra0 hF hA=>?_⟩
  have s12:=s1.trans s2
  have hx2:=hx.same s12
  have hr12:=s2 _ _ hr1
  walk_at "4"
  refine r_for_keys hr12 (fun R H' q=>r_var rfl q) (fun od j σ' H'=>∃ v5,σ'=[some (.ref p),some (vI qq),some (.ref r1),some (.ref ra),some (.int (total ((gs.take j).map fun k=>total ((legsAt s k).map fun x=>if x.good=qq then (x.amount:Int) else 0)))),v5,none,none,none]∧Same (upd H2 r1 (.frz od (.dK (sdk gs)))) H')
   (fun od=>⟨none,rfl,Same.refl _⟩) (fun od j σ' H' ⟨_,_,s3⟩=>s3 _ _ upd_same) ?_ ?_
  ·rintro od j k' v' σ' H' D2 hkv ⟨v5,rfl,s3⟩ hD
   obtain ⟨n,hn,rfl⟩:=key_at (sdk_keys gs) hkv
   obtain ⟨g,hg,hgk⟩:=hgg n (List.mem_of_getElem? hn)
   obtain ⟨x,hxm,rfl⟩:=lay_grp hx.r hg
   subst hgk
   have hat:=(hx2.at_.lock hr12 (od:=od)).same s3
   obtain ⟨dx,hp⟩:=hat.o
   have hG:=hat.gs x hxm
   obtain ⟨dg,hgo⟩:=hG.o
   have l8:=(hx.r.good.grp x.grp hg).l8
   walk_at "4"
   refine ⟨_,rfl,?_⟩
   walk_at "4"
   refine r_kF hp T.k_House T.n_House_groups lH_g ?_
   walk_at "4"
   refine r_kDG (j:=(x.grp.key:Int)) hat.dg (dg_at hx.r hxm) ?_
   refine r_kF hgo T.k_Group T.n_Group_legs lG_l ?_
   have legsOk:∀ v,v∈x.xs.map V.ref→∃ e leg dl,v=.ref e∧H' e=some (.ins c.leg dl (fL leg)):=fun v hv=>by
    obtain ⟨e,he,rfl⟩:=List.mem_map.mp hv
    obtain ⟨i,hi⟩:=List.getElem?_of_mem he
    obtain ⟨leg,_,dl,hlo⟩:=paired_get hG.legs hi
    exact ⟨e,leg,dl,rfl,hlo⟩
   refine r_kLc (i:=8) (xs:=x.xs.map V.ref) (legGood H' qq) (legAmt H') (.inl hG.le) (by rw [List.length_map,show x.xs.length=x.grp.legs.length from Paired.length hG.legs]; omega) (fun v hv H4 Qb s5 qb=>?_) (fun v hv _ H4 Q' s5 qb=>?_) (fun D hD0=>?_)
   ·obtain ⟨e,leg,dl,rfl,hlo⟩:=legsOk v hv
    rw [legGood_at hlo] at qb
    walk_at "4"
    refine r_kF (s5 _ _ hlo) T.k_Leg T.n_Leg_good lL_g ?_
    walk_at "4"
    refine r_eqI (a:=(leg.good:Int)) (b:=(qq:Int)) ?_
    walk_at "4"
    have:decide ((leg.good:Int)=(qq:Int))=decide (leg.good=qq):=by
     by_cases e:leg.good=qq
     ·rw [decide_eq_true e,e]
      exact decide_eq_true rfl
     ·rw [decide_eq_false e]
      exact decide_eq_false (by omega)
    rw [this]
    exact qb
   ·obtain ⟨e,leg,dl,rfl,hlo⟩:=legsOk v hv
    rw [legAmt_at hlo] at qb
    walk_at "4"
    exact r_kF (s5 _ _ hlo) T.k_Leg T.n_Leg_amount lL_a qb
   ·obtain ⟨ns,e1,e2⟩:=legs_sum (H:=H') qq hG.legs
    rw [e1]
    walk_at "4"
    refine ⟨D,ns,rfl,.inl (.inl upd_same),?_⟩
    refine ⟨_,_,rfl,rfl,?_⟩
    refine hD _ _ ⟨some (vI x.grp.key),?_,s3.trans (same_new hD0)⟩
    have hone:total (([x.grp.key]).map fun k=>total ((legsAt s k).map fun x=>if x.good=qq then (x.amount:Int) else 0))=total (x.grp.legs.map fun x=>if x.good=qq then (x.amount:Int) else 0):=by
     show total ((legsAt s x.grp.key).map fun x=>if x.good=qq then (x.amount:Int) else 0) + 0=_
     rw [show legsAt s x.grp.key=x.grp.legs from by unfold legsAt; rw [groupAt_mem hx.r.good hg],Int.add_zero]
    rw [e2,take_snoc hn,List.map_append,total_append,hone]
    rfl
  ·rintro od σ' H' ⟨v5,rfl,s3⟩
   rw [show (sdk gs).length=gs.length from sdk_len gs,List.take_length,← sum_keys hx.r.good hgn hgg (fun k=>hpm.mem_iff) (fun ls=>total (ls.map fun x=>if x.good=qq then (x.amount:Int) else 0))]
   have s4:Same H2 (upd H' r1 (.dK (sdk gs))):=same_unlock hr12 s3
   generalize upd H' r1 (.dK (sdk gs))=H4 at s4 ⊢
   have hx4:=hx2.same s4
   have hA4:=hA.same s4
   obtain ⟨dx,hp⟩:=hx4.at_.o
   walk_at "4"
   refine r_for_items (i:=5) (j:=7) hx4.ea (fun od R q=>r_fld (r_var rfl (r_kF (ins_lock hx4.ea hp) T.k_House T.n_House_accounts lH_a q)))
    (fun od j σ' H'=>∃ v5 v7,σ'=[some (.ref p),some (vI qq),some (.ref r1),some (.ref ra),some (.int (total ((s.groups.filter fun g=>(ready s).contains g.key).map fun g=>total (g.legs.map fun x=>if x.good=qq then (x.amount:Int) else 0)))),v5,
      some (.int (total ((L.as.take j).map fun x=>max 0 (hasOf x.acc qq - wouldHave s gs x.acc qq)))),v7,none]∧Same (upd H4 L.pa (.frz od (.dK L.da))) H')
    (fun od=>⟨_,_,rfl,Same.refl _⟩) (fun od j σ' H' ⟨_,_,_,s5⟩=>s5 _ _ upd_same) ?_ ?_
   ·rintro od j k' v' T' σ' H' D2 hkv ⟨v5',v7',rfl,s5⟩ hT hD
    obtain ⟨x,hxj,e⟩:=map_at (f:=fun x:AccL=>(kI x.acc.key,V.ref x.a)) hkv
    cases e
    have hm:x∈L.as:=List.mem_of_getElem? hxj
    have hacc:=acc_lay hx.r hm
    obtain ⟨nk,y,hyl,hy1⟩:=after_find hx.r hF hacc
    have s6:Same (upd H4 L.pa (.frz od (.dK L.da))) (upd H' T' (.tup [kV (kI x.acc.key),V.ref x.a])):=s5.trans (same_new hT)
    have hA0:=(hx4.at_.lock hx4.ea (od:=od)).as x hm
    have hAx:=hA0.same s6
    obtain ⟨da,hao⟩:=hAx.o
    have hra:Rd (upd H' T' (.tup [kV (kI x.acc.key),V.ref x.a])) ra (.dK (l.map fun y=>(kI y.1.key,V.ref y.2))):=rd_same s6 (rd_lock hx4.ea trivial (.inl hA4.1))
    have hry:Rd (upd H' T' (.tup [kV (kI x.acc.key),V.ref x.a])) y.2 (.dK (gd (goods.map (wouldHave s gs y.1)))):=rd_same s6 (rd_lock hx4.ea trivial (.inl (hA4.2 y hyl)))
    generalize upd H' T' (.tup [kV (kI x.acc.key),V.ref x.a])=H6 at s6 hAx hao hra hry ⊢
    walk_at "4"
    refine ⟨_,rfl,?_⟩
    walk_at "4"
    refine r_kF hao T.k_Account T.n_Account_amounts lA_m ?_
    walk_at "4"
    refine r_kDG (j:=(qq:Int)) hAx.am (gd_val _ hqq) ?_
    walk_at "4"
    refine r_kDG (j:=(x.acc.key:Int)) hra (by rw [show (Sum.inl (x.acc.key:Int):Key)=kI x.acc.key from rfl,← hy1]; exact after_val nk hyl) ?_
    walk_at "4"
    refine r_kDG (j:=(qq:Int)) hry (gd_val _ hqq) ?_
    rw [goods_get hqq,hy1]
    walk_at "4"
    refine ⟨_,_,rfl,?_⟩
    refine ⟨_,_,rfl,rfl,?_⟩
    refine hD _ _ ⟨some (vI x.acc.key),some (.ref x.a),?_,s6⟩
    rw [take_snoc hxj,List.map_append,total_append]
    have hmax:(if (x.acc.has.getD (qq - 1) 0 - wouldHave s gs x.acc qq) > 0 then (x.acc.has.getD (qq - 1) 0 - wouldHave s gs x.acc qq) else 0)=total (([x]).map fun x=>max 0 (hasOf x.acc qq - wouldHave s gs x.acc qq)):=by
     show _=max 0 (hasOf x.acc qq - wouldHave s gs x.acc qq) + 0
     unfold Vbchak.hasOf
     split <;> omega
    rw [← hmax]
    rfl
   ·rintro od σ' H' ⟨v5',v7',rfl,s5⟩
    have s6:Same H4 (upd H' L.pa (.dK L.da)):=same_unlock hx4.ea s5
    rw [show L.da.length=L.as.length from List.length_map ..,List.take_length]
    have hsum:total (L.as.map fun x=>max 0 (hasOf x.acc qq - wouldHave s gs x.acc qq))=total (s.accounts.map fun a=>max 0 (hasOf a qq - wouldHave s (ready s) a qq)):=by
     have h1:=total_perm (hx.r.pa.map fun a=>max 0 (hasOf a qq - wouldHave s gs a qq))
     unfold Lay.st at h1
     rw [List.map_map] at h1
     rw [show (L.as.map fun x=>max 0 (hasOf x.acc qq - wouldHave s gs x.acc qq))=L.as.map ((fun a=>max 0 (hasOf a qq - wouldHave s gs a qq))∘fun x=>x.acc) from rfl,h1]
     refine total_congr fun a _=>?_
     rw [would_mem (fun k=>hpm.mem_iff)]
    rw [hsum]
    walk_at "4"
    exact r_kL (by show 2≤1000; decide) fun z hz0=>k.new ((s12.trans s4).trans s6) hz0 (by rw [hst]; rfl)
end
structure Ap (y z:AccL):Prop where
 a:y.a≠z.a
 am:y.am≠z.am
 li:y.li≠z.li
 ro:y.ro≠z.ro
 ml:y.am≠z.li
 lm:y.li≠z.am
structure In1 (L:Lay) (y:AccL):Prop where
 ml:y.am≠y.li
 ma:y.am≠L.pa
 mg:y.am≠L.pg
 la:y.li≠L.pa
 lg:y.li≠L.pg
 rl:∀ z,z∈L.gs→y.ro≠z.le
structure AccO (c:Cs) (H:Hp) (y:AccL):Prop where
 o:∃ dx,H y.a=some (.ins c.acc dx (fA y.am y.li y.ro))
 am:H y.am=some (.dK (gd y.acc.has))
 li:H y.li=some (.dK (gd (lims y.acc)))
 ro:H y.ro=some (.lst (y.acc.row.map vI))
structure GrpO (c:Cs) (H:Hp) (x:GrpL):Prop where
 o:∃ dx,H x.g=some (.ins c.grp dx (fG x.le x.grp.held))
 le:H x.le=some (.lst (x.xs.map V.ref))
 legs:Paired (fun a l=>∃ dx,H a=some (.ins c.leg dx (fL l))) x.xs x.grp.legs
structure O0 (c:Cs) (H:Hp) (p:Addr) (L:Lay):Prop where
 o:∃ dx,H p=some (.ins c.hou dx (fH L.pa L.pg))
 ea:H L.pa=some (.dK L.da)
 eg:H L.pg=some (.dK L.dg)
 as:∀ y,y∈L.as→AccO c H y
 gs:∀ y,y∈L.gs→GrpO c H y
 ap:L.as.Pairwise Ap
 in1:∀ y,y∈L.as→In1 L y
 gp:L.gs.Pairwise fun y z=>y.g≠z.g
 pp:L.pa≠L.pg
theorem AccO.at_ {c:Cs} {H:Hp} {y:AccL} (h:AccO c H y):AccAt c H y:=⟨h.o,.inl h.am,.inl h.li,.inl h.ro⟩
theorem GrpO.at_ {c:Cs} {H:Hp} {y:GrpL} (h:GrpO c H y):GrpAt c H y:=⟨h.o,.inl h.le,h.legs⟩
theorem O0.hx {c:Cs} {H:Hp} {p:Addr} {L:Lay} {s:State} (h:O0 c H p L) (r:R L.st s):HX c H p L s:=⟨⟨h.o,.inl h.ea,.inl h.eg,fun y hy=>(h.as y hy).at_,fun y hy=>(h.gs y hy).at_⟩,h.ea,h.eg,r⟩
theorem AccO.same {c:Cs} {H H':Hp} {y:AccL} (e:Same H H') (h:AccO c H y):AccO c H' y:=⟨let ⟨dx,q⟩:=h.o; ⟨dx,e _ _ q⟩,e _ _ h.am,e _ _ h.li,e _ _ h.ro⟩
theorem GrpO.same {c:Cs} {H H':Hp} {y:GrpL} (e:Same H H') (h:GrpO c H y):GrpO c H' y:=⟨let ⟨dx,q⟩:=h.o; ⟨dx,e _ _ q⟩,e _ _ h.le,Paired.mapP h.legs fun a l ⟨dx,q⟩=>⟨dx,e _ _ q⟩⟩
theorem O0.same {c:Cs} {H H':Hp} {p:Addr} {L:Lay} (e:Same H H') (h:O0 c H p L):O0 c H' p L :=
 ⟨let ⟨dx,q⟩:=h.o; ⟨dx,e _ _ q⟩,e _ _ h.ea,e _ _ h.eg,fun y hy=>(h.as y hy).same e,fun y hy=>(h.gs y hy).same e,h.ap,h.in1,h.gp,h.pp⟩
def Ft (L:Lay) (b:Addr):Prop:=b=L.pa∨b=L.pg∨(∃ y,y∈L.as∧(b=y.a∨b=y.am∨b=y.li∨b=y.ro))∨∃ z,z∈L.gs∧b=z.g
def Chg (c:Cs) (H:Hp) (p:Addr) (L:Lay) (Q:VK) (s':State) (ans:List Int):Prop:=∀ H' L' r,O0 c H' p L'→R L'.st s'→(∀ b o,H b=some o→¬ Ft L b→H' b=some o)→(∀ b,Ft L' b→Ft L b∨H b=none)→H r=none→¬ Ft L' r→H' r=some (.lst (ans.map V.int))→Q (.ref r) H'
theorem ft_some {c:Cs} {H:Hp} {p:Addr} {L:Lay} (h:O0 c H p L) {b:Addr} (hb:Ft L b):∃ o,H b=some o:=by
 rcases hb with rfl | rfl | ⟨y,hy,hb⟩ | ⟨z,hz,rfl⟩
 ·exact ⟨_,h.ea⟩
 ·exact ⟨_,h.eg⟩
 ·have q:=h.as y hy
  rcases hb with rfl | rfl | rfl | rfl
  ·obtain ⟨dx,e⟩:=q.o
   exact ⟨_,e⟩
  ·exact ⟨_,q.am⟩
  ·exact ⟨_,q.li⟩
  ·exact ⟨_,q.ro⟩
 ·obtain ⟨dx,e⟩:=(h.gs z hz).o
  exact ⟨_,e⟩
theorem Chg.no {c:Cs} {H H1:Hp} {p:Addr} {L:Lay} {Q:VK} {s':State} {ans:List Int} {xs:List V} {z:Addr} (k:Chg c H p L Q s' ans) (h:O0 c H p L) (r:R L.st s') (s:Same H H1) (hz:H1 z=none) (e:ans.map V.int=xs):Q (.ref z) (upd H1 z (.lst xs)):=by
 subst e
 have s2:=s.trans (same_new (o:=.lst (ans.map V.int)) hz)
 exact k _ L z (h.same s2) r (fun b o e _=>s2 _ _ e) (fun b hb=>.inl hb) (s.free hz) (fun hb=>by obtain ⟨o,e⟩:=ft_some h hb; rw [s.free hz] at e; cases e) upd_same
theorem Chg.yes {c:Cs} {H H1:Hp} {p:Addr} {L L':Lay} {Q:VK} {s':State} {ans:List Int} {xs:List V} {z:Addr} (k:Chg c H p L Q s' ans) (h:O0 c H1 p L') (r:R L'.st s') (kp:∀ b o,H b=some o→¬ Ft L b→H1 b=some o) (ft:∀ b,Ft L' b→Ft L b∨H b=none) (th:∀ b o,H b=some o→∃ o',H1 b=some o') (hz:H1 z=none) (e:ans.map V.int=xs):Q (.ref z) (upd H1 z (.lst xs)):=by
 subst e
 have s2:=same_new (o:=.lst (ans.map V.int)) hz
 refine k _ L' z (h.same s2) r (fun b o e hb=>s2 _ _ (kp b o e hb)) ft ?_ (fun hb=>?_) upd_same
 ·cases e:H z with
  | none=>rfl
  | some o =>
   obtain ⟨o',e'⟩:=th z o e
   rw [hz] at e'
   cases e'
 ·obtain ⟨o,e⟩:=ft_some h hb
  rw [hz] at e
  cases e
theorem O0.put {c:Cs} {H H':Hp} {p pa pg:Addr} {pre post:List AccL} {gs:List GrpL} {x x':AccL} (h:O0 c H p ⟨pa,pg,pre++x::post,gs⟩) (hk:x'.acc.key=x.acc.key) (ha:x'.a=x.a)
  (keep:∀ b o,H b=some o→b≠x.a→b≠x.am→b≠x.li→b≠x.ro→H' b=some o) (hx:AccO c H' x') (nam:x'.am=x.am∨H x'.am=none) (nli:x'.li=x.li∨H x'.li=none) (nro:x'.ro=x.ro∨H x'.ro=none) (ne:x'.am≠x'.li) :
  O0 c H' p ⟨pa,pg,pre++x'::post,gs⟩:=by
 have hxm:x∈pre++x::post:=List.mem_append_right _ (List.mem_cons_self ..)
 have hxo:=h.as x hxm
 have hxi:=h.in1 x hxm
 obtain ⟨dx,hxa⟩:=hxo.o
 obtain ⟨ap1,ap2,ap3⟩:=List.pairwise_append.mp h.ap
 obtain ⟨ap4,ap5⟩:=List.pairwise_cons.mp ap2
 have old:∀ y,y∈pre∨y∈post→y∈pre++x::post:=fun y hy=>by
  rcases hy with hy | hy
  ·exact List.mem_append_left _ hy
  ·exact List.mem_append_right _ (List.mem_cons_of_mem _ hy)
 have apx:∀ y,y∈pre∨y∈post→(y.a≠x.a∧y.am≠x.am∧y.li≠x.li∧y.ro≠x.ro∧y.am≠x.li∧y.li≠x.am):=fun y hy=>by
  rcases hy with hy | hy
  ·have q:=ap3 y hy x (List.mem_cons_self ..)
   exact ⟨q.a,q.am,q.li,q.ro,q.ml,q.lm⟩
  ·have q:=ap4 y hy
   exact ⟨Ne.symm q.a,Ne.symm q.am,Ne.symm q.li,Ne.symm q.ro,Ne.symm q.lm,Ne.symm q.ml⟩
 have kD:∀ b kvs,H b=some (.dK kvs)→b≠x.am→b≠x.li→H' b=some (.dK kvs):=fun b kvs e h1 h2=>keep b _ e (ne_of e hxa (by intro z; cases z)) h1 h2 (ne_of e hxo.ro (by intro z; cases z))
 have kL:∀ b xs,H b=some (.lst xs)→b≠x.ro→H' b=some (.lst xs):=fun b xs e h1=>keep b _ e (ne_of e hxa (by intro z; cases z)) (ne_of e hxo.am (by intro z; cases z)) (ne_of e hxo.li (by intro z; cases z)) h1
 have kI':∀ b C dx fs,H b=some (.ins C dx fs)→b≠x.a→H' b=some (.ins C dx fs):=fun b C dx fs e h1=>keep b _ e h1 (ne_of e hxo.am (by intro z; cases z)) (ne_of e hxo.li (by intro z; cases z)) (ne_of e hxo.ro (by intro z; cases z))
 have others:∀ y,y∈pre∨y∈post→AccO c H' y:=fun y hy=>by
  have q:=h.as y (old y hy)
  obtain ⟨a1,a2,a3,a4,a5,a6⟩:=apx y hy
  obtain ⟨dy,hy'⟩:=q.o
  exact ⟨⟨dy,kI' _ _ _ _ hy' a1⟩,kD _ _ q.am a2 a5,kD _ _ q.li a6 a3,kL _ _ q.ro a4⟩
 have apn:∀ y,y∈pre∨y∈post→Ap y x':=fun y hy=>by
  have q:=h.as y (old y hy)
  obtain ⟨a1,a2,a3,a4,a5,a6⟩:=apx y hy
  refine ⟨by rw [ha]; exact a1,?_,?_,?_,?_,?_⟩
  ·rcases nam with e | e
   ·rw [e]; exact a2
   ·exact ne_of_none q.am e
  ·rcases nli with e | e
   ·rw [e]; exact a3
   ·exact ne_of_none q.li e
  ·rcases nro with e | e
   ·rw [e]; exact a4
   ·exact ne_of_none q.ro e
  ·rcases nli with e | e
   ·rw [e]; exact a5
   ·exact ne_of_none q.am e
  ·rcases nam with e | e
   ·rw [e]; exact a6
   ·exact ne_of_none q.li e
 refine ⟨?_,?_,kD _ _ h.eg (Ne.symm hxi.mg) (Ne.symm hxi.lg),fun y hy=>?_,fun z hz=>?_,?_,fun y hy=>?_,h.gp,h.pp⟩
 ·obtain ⟨dp,hp⟩:=h.o
  refine ⟨dp,kI' _ _ _ _ hp (ne_of hp hxa fun e=>?_)⟩
  have e2:2=3:=congrArg List.length (HO.ins.inj e).2.2
  omega
 ·have e:(⟨pa,pg,pre++x'::post,gs⟩:Lay).da=(⟨pa,pg,pre++x::post,gs⟩:Lay).da:=by
   show (pre++x'::post).map _=(pre++x::post).map _
   rw [List.map_append,List.map_append,List.map_cons,List.map_cons,hk,ha]
  rw [e]
  exact kD _ _ h.ea (Ne.symm hxi.ma) (Ne.symm hxi.la)
 ·rcases List.mem_append.mp hy with hy | hy
  ·exact others y (.inl hy)
  ·rcases List.mem_cons.mp hy with rfl | hy
   ·exact hx
   ·exact others y (.inr hy)
 ·have q:=h.gs z hz
  obtain ⟨dz,hz'⟩:=q.o
  refine ⟨⟨dz,kI' _ _ _ _ hz' (ne_of hz' hxa fun e=>?_)⟩,kL _ _ q.le (Ne.symm (hxi.rl z hz)),Paired.mapP q.legs fun a l ⟨dl,hl⟩=>⟨dl,kI' _ _ _ _ hl (ne_of hl hxa fun e=>?_)⟩⟩
  ·have e2:2=3:=congrArg List.length (HO.ins.inj e).2.2
   omega
  ·have e2:4=3:=congrArg List.length (HO.ins.inj e).2.2
   omega
 ·refine List.pairwise_append.mpr ⟨ap1,List.pairwise_cons.mpr ⟨fun z hz=>?_,ap5⟩,fun y hy z hz=>?_⟩
  ·have q:=apn z (.inr hz)
   exact ⟨Ne.symm q.a,Ne.symm q.am,Ne.symm q.li,Ne.symm q.ro,Ne.symm q.lm,Ne.symm q.ml⟩
  ·rcases List.mem_cons.mp hz with rfl | hz
   ·exact apn y (.inl hy)
   ·exact ap3 y hy z (List.mem_cons_of_mem _ hz)
 ·have key:∀ y,y∈pre∨y∈post→In1 ⟨pa,pg,pre++x'::post,gs⟩ y:=fun y hy=>by
   have q:=h.in1 y (old y hy)
   exact ⟨q.ml,q.ma,q.mg,q.la,q.lg,q.rl⟩
  rcases List.mem_append.mp hy with hy | hy
  ·exact key y (.inl hy)
  ·rcases List.mem_cons.mp hy with rfl | hy
   ·refine ⟨ne,?_,?_,?_,?_,fun z hz=>?_⟩
    ·rcases nam with e | e
     ·rw [e]; exact hxi.ma
     ·exact Ne.symm (ne_of_none h.ea e)
    ·rcases nam with e | e
     ·rw [e]; exact hxi.mg
     ·exact Ne.symm (ne_of_none h.eg e)
    ·rcases nli with e | e
     ·rw [e]; exact hxi.la
     ·exact Ne.symm (ne_of_none h.ea e)
    ·rcases nli with e | e
     ·rw [e]; exact hxi.lg
     ·exact Ne.symm (ne_of_none h.eg e)
    ·rcases nro with e | e
     ·rw [e]; exact hxi.rl z hz
     ·exact Ne.symm (ne_of_none (h.gs z hz).le e)
   ·exact key y (.inr hy)
theorem st_put {pa pg:Addr} {pre post:List AccL} {gs:List GrpL} {x x':AccL} {s:State} (r:R (⟨pa,pg,pre++x::post,gs⟩:Lay).st s) {f:Account→Account} (hf:∀ a,a.key≠x.acc.key→f a=a) (hx:x'.acc=f x.acc) :
  (⟨pa,pg,pre++x'::post,gs⟩:Lay).st=⟨(⟨pa,pg,pre++x::post,gs⟩:Lay).st.accounts.map f,(⟨pa,pg,pre++x::post,gs⟩:Lay).st.groups⟩:=by
 have nd:=lay_an r
 show (⟨(pre++x'::post).map (·.acc),_⟩:State)=⟨((pre++x::post).map (·.acc)).map f,_⟩
 congr 1
 rw [List.map_map,List.map_append,List.map_append,List.map_cons,List.map_cons,hx]
 have nd':((pre++x::post).map fun x=>x.acc.key).Nodup:=nd
 rw [List.map_append,List.map_cons,List.nodup_append] at nd'
 obtain ⟨n1,n2,n3⟩:=nd'
 have n4:=List.nodup_cons.mp n2
 congr 1
 ·refine List.map_congr_left fun y hy=>?_
  show y.acc=f y.acc
  rw [hf _ (n3 _ (List.mem_map.mpr ⟨y,hy,rfl⟩) _ (List.mem_cons_self ..))]
 ·show f x.acc::_=f x.acc::_
  congr 1
  refine List.map_congr_left fun y hy=>?_
  show y.acc=f y.acc
  rw [hf]
  exact fun e=>n4.1 (e ▸ List.mem_map.mpr ⟨y,hy,rfl⟩)
theorem ft_put {pa pg:Addr} {pre post:List AccL} {gs:List GrpL} {x x':AccL} {H:Hp} (ha:x'.a=x.a) (nam:x'.am=x.am∨H x'.am=none) (nli:x'.li=x.li∨H x'.li=none) (nro:x'.ro=x.ro∨H x'.ro=none) :
  ∀ b,Ft ⟨pa,pg,pre++x'::post,gs⟩ b→Ft ⟨pa,pg,pre++x::post,gs⟩ b∨H b=none:=by
 rintro b (h | h | ⟨y,hy,h⟩ | ⟨z,hz,h⟩)
 ·exact .inl (.inl h)
 ·exact .inl (.inr (.inl h))
 ·have hxm:x∈pre++x::post:=List.mem_append_right _ (List.mem_cons_self ..)
  rcases List.mem_append.mp hy with hy | hy
  ·exact .inl (.inr (.inr (.inl ⟨y,List.mem_append_left _ hy,h⟩)))
  ·rcases List.mem_cons.mp hy with rfl | hy
   ·rcases h with rfl | rfl | rfl | rfl
    ·exact .inl (.inr (.inr (.inl ⟨x,hxm,.inl ha⟩)))
    ·rcases nam with e | e
     ·exact .inl (.inr (.inr (.inl ⟨x,hxm,.inr (.inl e)⟩)))
     ·exact .inr e
    ·rcases nli with e | e
     ·exact .inl (.inr (.inr (.inl ⟨x,hxm,.inr (.inr (.inl e))⟩)))
     ·exact .inr e
    ·rcases nro with e | e
     ·exact .inl (.inr (.inr (.inl ⟨x,hxm,.inr (.inr (.inr e))⟩)))
     ·exact .inr e
   ·exact .inl (.inr (.inr (.inl ⟨y,List.mem_append_right _ (List.mem_cons_of_mem _ hy),h⟩)))
 ·exact .inl (.inr (.inr (.inr ⟨z,hz,h⟩)))
section
variable {P:Program} {w:World} {K:PySem.W.Frag} {mg:Str→Option Value} {base:Heap} {c:Cs}
def spChg3 (c:Cs) (f:Int→Int→Int→Vbchak.Call):Sp:=fun vs H Q _=>∃ (p:Addr) (L:Lay) (s:State) (a q n:Int),vs=[.ref p,.int a,.int q,.int n]∧O0 c H p L∧R L.st s∧Chg c H p L Q (Vbchak.step s (f a q n)).1 (Vbchak.step s (f a q n)).2
theorem split_at {L:Lay} {x:AccL} (h:x∈L.as):∃ pre post,L=⟨L.pa,L.pg,pre++x::post,L.gs⟩:=by
 obtain ⟨pre,post,e⟩:=List.append_of_mem h
 exact ⟨pre,post,by cases L; cases e; rfl⟩
theorem fn_deposit (T:Txt K mg c):Fn P w K mg base "deposit" 2 ["house","account_key","good","amount"] (spChg3 c .deposit):=by
 refine T.f_deposit.fn sc_deposit (fun vs H Q E h=>?_) (fun f cdv A outer sh H vs Q E hr h=>?_)
 ·obtain ⟨p,L,s,a,q,n,rfl,_⟩:=h
  rfl
 obtain ⟨p,L,s,a,q,n,rfl,ho,hR,k⟩:=h
 have hu:=hu_of hr
 have nd:=sc_deposit.nd
 refine ⟨_,(pss_cons (ps_if (pt_not (PW.pt (pw_and (pt_val (pe_fn (fn_is_key T) (hr.mono (by decide)) rfl (pa_cons (pv 1) pa_nil))) (pw_and (pt_val (pe_fn (fn_is_good T) (hr.mono (by decide)) rfl (pa_cons (pv 2) pa_nil))) (pw_and1 (pt_val (pe_fn (fn_is_amount T) (hr.mono (by decide)) rfl (pa_cons (pv 3) pa_nil)))))))) (pss_one (ps_ret (pe_lst (pa_cons (pe_gint T.c_OUT_OF_RANGE) pa_nil)))) pss_nil)
   (pss_cons (ps_if (pt_cmp (pc_dnotin hu (pv 1) (pe_fld (pv 0) rfl)) rfl) (pss_one (ps_ret (pe_lst (pa_cons (pe_gint T.c_NOT_THERE) pa_nil)))) pss_nil)
   (pss_cons (ps_set (i:=4) nd rfl (Or.inl rfl) (pe_fld (pe_dget hu (pe_fld (pv 0) rfl) (pv 1) (fun _ _=>rfl)) rfl))
   (pss_cons (ps_set (i:=5) nd rfl (Or.inl rfl) (pe_op op_add (pe_dget hu (pv 4) (pv 2) (fun _ _=>rfl)) (pv 3)))
   (pss_cons (ps_if (pt_cmpR op_gt (pv 5) (pe_gint T.c_GREATEST_AFTER_DEPOSIT) (nomark _)) (pss_one (ps_ret (pe_lst (pa_cons (pe_gint T.c_TOO_MUCH) pa_nil)))) pss_nil)
   (pss_cons (ps_dput hu (pv 4) (pv 2) (pv 5) rfl)
   (pss_one (ps_ret (pe_lst (pa_cons (pv 5) pa_nil)))))))))),?_⟩
 try simp only [Cx.nox,Cx.wish,cxOf]
 have hx:=ho.hx hR
 obtain ⟨dx,hp⟩:=ho.o
 have out1:(keyed a && (goodly q && within n 1 Vbchak.MOST))=false→∀ z,H z=none→Q (.ref z) (upd H z (.lst [.int (-1)])):=fun h z hz=>by
  have e:Vbchak.step s (.deposit a q n)=(s,[-1]):=by
   show (if (keyed a && (goodly q && within n 1 Vbchak.MOST))=false then (s,[-1]) else _:State×List Int)=_
   rw [if_pos h]
  rw [e] at k
  exact k.no ho hR (Same.refl _) hz rfl
 walk_at "4"
 cases hk:keyed a with
 | false =>
  refine iteF (iteT ?_)
  walk_at "4"
  exact r_kL (by show 1≤1000; decide) (out1 (by rw [hk]; rfl))
 | true =>
  refine iteT ?_
  walk_at "4"
  cases hq:goodly q with
  | false =>
   refine iteF (iteT ?_)
   walk_at "4"
   exact r_kL (by show 1≤1000; decide) (out1 (by rw [hk,hq]; rfl))
  | true =>
   refine iteT ?_
   walk_at "4"
   cases hn:within n 1 Vbchak.MOST with
   | false =>
    refine iteT ?_
    walk_at "4"
    exact r_kL (by show 1≤1000; decide) (out1 (by rw [hk,hq,hn]; rfl))
   | true =>
    refine iteF ?_
    have hst0:Vbchak.step s (.deposit a q n)=Vbchak.onAccount s a fun a=>if (Vbchak.SUM:Int) < hasOf a q.toNat + n then (s,[-5]) else (withMore s a.key q.toNat n,[hasOf a q.toNat + n]):=by
     show (if (keyed a && (goodly q && within n 1 Vbchak.MOST))=false then (s,[-1]) else _:State×List Int)=_
     rw [if_neg (by rw [hk,hq,hn]; decide)]
    obtain ⟨m,rfl,em,_⟩:=keyed_nat hk
    obtain ⟨qq,rfl,eq,hqq⟩:=goodly_nat hq
    walk_at "4"
    refine r_kF hp T.k_House T.n_House_accounts lH_a ?_
    refine r_kDN (j:=(m:Int)) hx.at_.da ?_
    walk_at "4"
    cases ha:accountAt s m with
    | none =>
     rw [da_none hR ha]
     refine iteT ?_
     walk_at "4"
     rw [hst0,onAccount_4 (by rw [Int.toNat_natCast]; exact ha)] at k
     exact r_kL (by show 1≤1000; decide) fun z hz0=>k.no ho hR (Same.refl _) hz0 rfl
    | some x0 =>
     rw [da_there hR ha]
     refine iteF ?_
     rw [hst0,onAccount_a (by rw [Int.toNat_natCast]; exact ha),Int.toNat_natCast] at k
     obtain ⟨hxm0,hxk⟩:=accountAt_some ha
     subst hxk
     obtain ⟨x,hxm,rfl⟩:=lay_acc hR hxm0
     have hO:=ho.as x hxm
     obtain ⟨da,hao⟩:=hO.o
     have h4:=(hR.good.acc x.acc hxm0).h4
     walk_at "4"
     refine r_kF hp T.k_House T.n_House_accounts lH_a ?_
     walk_at "4"
     refine r_kDG (j:=(x.acc.key:Int)) hx.at_.da (da_at hR hxm) ?_
     refine r_kF hao T.k_Account T.n_Account_amounts lA_m ?_
     walk_at "4"
     refine r_kDG (j:=(qq:Int)) (.inl hO.am) (gd_val _ hqq) ?_
     walk_at "4"
     by_cases hs:(Vbchak.SUM:Int) < hasOf x.acc qq + n
     ·rw [if_pos hs] at k
      refine ite2 (fun _=>?_) (fun hno=>absurd (by rw [decide_eq_true_eq]; exact hs) hno)
      walk_at "4"
      exact r_kL (by show 1≤1000; decide) fun z hz0=>k.no ho hR (Same.refl _) hz0 rfl
     ·rw [if_neg hs] at k
      refine ite2 (fun hyes=>absurd (of_decide_eq_true hyes) hs) (fun _=>?_)
      walk_at "4"
      refine r_kDP (j:=(qq:Int)) hO.am (by show 4 < sizeLine; decide) ?_
      rw [show (Sum.inl (qq:Int):Key)=kI qq from rfl,gd_put h4 hqq,changed_set h4 hqq]
      walk_at "4"
      refine r_kL (by show 1≤1000; decide) fun z hz0=>?_
      obtain ⟨pre,post,eL⟩:=split_at hxm
      have hG:Good (withMore s x.acc.key qq n):=hR.good.more _ _ fun y hy e _=>by
       have:=key_inj (f:=fun a:Account=>a.key) hR.good.an hy hxm0 e
       subst this
       have h1:=(hR.good.acc _ hxm0).lim qq hqq
       obtain ⟨nn,e1,e2,_⟩:=within_nat hn
       omega
      rw [eL] at ho hR
      have nx:In1 _ x:=ho.in1 x (List.mem_append_right _ (List.mem_cons_self ..))
      have hO':=ho.put (x':=⟨x.a,x.am,x.li,x.ro,moreAcc x.acc.key qq n x.acc⟩) (H':=upd H x.am (.dK (gd (changed x.acc.has qq n)))) (moreAcc_key ..) rfl (fun b o e h1 h2 h3 h4=>by rw [upd_ne h2]; exact e)
       ⟨⟨da,by show upd H x.am _ x.a=_; rw [upd_ne (ne_of hao hO.am (by intro z; cases z))]; exact hao⟩,by show upd H x.am _ x.am=some (.dK (gd (moreAcc x.acc.key qq n x.acc).has)); rw [upd_same,show (moreAcc x.acc.key qq n x.acc).has=changed x.acc.has qq n by unfold moreAcc; rw [if_pos rfl]],
        by show upd H x.am _ x.li=some (.dK (gd (lims (moreAcc x.acc.key qq n x.acc)))); rw [upd_ne (Ne.symm nx.ml),show lims (moreAcc x.acc.key qq n x.acc)=lims x.acc by unfold lims; rw [moreAcc_limits]]; exact hO.li,
        by show upd H x.am _ x.ro=some (.lst ((moreAcc x.acc.key qq n x.acc).row.map vI)); rw [upd_ne (ne_of hO.ro hO.am (by intro z; cases z)),moreAcc_row]; exact hO.ro⟩ (.inl rfl) (.inl rfl) (.inl rfl) nx.ml
      have hst:=st_put (x':=⟨x.a,x.am,x.li,x.ro,moreAcc x.acc.key qq n x.acc⟩) hR (f:=moreAcc x.acc.key qq n) (fun a e=>by unfold moreAcc; rw [if_neg e]) rfl
      rw [eL] at k
      refine k.yes hO' (by rw [hst]; exact hR.more _ _ _ hG) (fun b o e hb=>by rw [upd_ne (fun z=>hb (.inr (.inr (.inl ⟨x,List.mem_append_right _ (List.mem_cons_self ..),.inr (.inl z)⟩))))]; exact e) (ft_put rfl (.inl rfl) (.inl rfl) (.inl rfl)) (fun b o e=>?_) hz0 rfl
      by_cases hb:b=x.am
      ·exact ⟨_,by rw [hb,upd_same]⟩
      ·exact ⟨o,by rw [upd_ne hb]; exact e⟩
end
section
variable {P:Program} {w:World} {K:PySem.W.Frag} {mg:Str→Option Value} {base:Heap} {c:Cs}
theorem fn_withdraw (T:Txt K mg c):Fn P w K mg base "withdraw" 2 ["house","account_key","good","amount"] (spChg3 c .withdraw):=by
 refine T.f_withdraw.fn sc_withdraw (fun vs H Q E h=>?_) (fun f cdv A outer sh H vs Q E hr h=>?_)
 ·obtain ⟨p,L,s,a,q,n,rfl,_⟩:=h
  rfl
 obtain ⟨p,L,s,a,q,n,rfl,ho,hR,k⟩:=h
 have hu:=hu_of hr
 have nd:=sc_withdraw.nd
 refine ⟨_,(pss_cons (ps_if (pt_not (PW.pt (pw_and (pt_val (pe_fn (fn_is_key T) (hr.mono (by decide)) rfl (pa_cons (pv 1) pa_nil))) (pw_and (pt_val (pe_fn (fn_is_good T) (hr.mono (by decide)) rfl (pa_cons (pv 2) pa_nil))) (pw_and1 (pt_val (pe_fn (fn_is_amount T) (hr.mono (by decide)) rfl (pa_cons (pv 3) pa_nil)))))))) (pss_one (ps_ret (pe_lst (pa_cons (pe_gint T.c_OUT_OF_RANGE) pa_nil)))) pss_nil)
   (pss_cons (ps_if (pt_cmp (pc_dnotin hu (pv 1) (pe_fld (pv 0) rfl)) rfl) (pss_one (ps_ret (pe_lst (pa_cons (pe_gint T.c_NOT_THERE) pa_nil)))) pss_nil)
   (pss_cons (ps_set (i:=4) nd rfl (Or.inl rfl) (pe_dget hu (pe_fld (pv 0) rfl) (pv 1) (fun _ _=>rfl)))
   (pss_cons (ps_set (i:=5) nd rfl (Or.inl rfl) (pe_op op_sub (pe_dget hu (pe_fld (pv 4) rfl) (pv 2) (fun _ _=>rfl)) (pv 3)))
   (pss_cons (ps_if (pt_cmpR op_lt (pv 5) (pe_un un_neg (pe_dget hu (pe_fld (pv 4) rfl) (pv 2) (fun _ _=>rfl))) (nomark _)) (pss_one (ps_ret (pe_lst (pa_cons (pe_gint T.c_BELOW_LIMIT) pa_nil)))) pss_nil)
   (pss_cons (ps_dput hu (pe_fld (pv 4) rfl) (pv 2) (pv 5) rfl)
   (pss_one (ps_ret (pe_lst (pa_cons (pv 5) pa_nil)))))))))),?_⟩
 try simp only [Cx.nox,Cx.wish,cxOf]
 have hx:=ho.hx hR
 obtain ⟨dx,hp⟩:=ho.o
 have out1:(keyed a && (goodly q && within n 1 Vbchak.MOST))=false→∀ z,H z=none→Q (.ref z) (upd H z (.lst [.int (-1)])):=fun h z hz=>by
  have e:Vbchak.step s (.withdraw a q n)=(s,[-1]):=by
   show (if (keyed a && (goodly q && within n 1 Vbchak.MOST))=false then (s,[-1]) else _:State×List Int)=_
   rw [if_pos h]
  rw [e] at k
  exact k.no ho hR (Same.refl _) hz rfl
 walk_at "4"
 cases hk:keyed a with
 | false =>
  refine iteF (iteT ?_)
  walk_at "4"
  exact r_kL (by show 1≤1000; decide) (out1 (by rw [hk]; rfl))
 | true =>
  refine iteT ?_
  walk_at "4"
  cases hq:goodly q with
  | false =>
   refine iteF (iteT ?_)
   walk_at "4"
   exact r_kL (by show 1≤1000; decide) (out1 (by rw [hk,hq]; rfl))
  | true =>
   refine iteT ?_
   walk_at "4"
   cases hn:within n 1 Vbchak.MOST with
   | false =>
    refine iteT ?_
    walk_at "4"
    exact r_kL (by show 1≤1000; decide) (out1 (by rw [hk,hq,hn]; rfl))
   | true =>
    refine iteF ?_
    have hst0:Vbchak.step s (.withdraw a q n)=Vbchak.onAccount s a fun a=>if hasOf a q.toNat - n < -(Vbchak.limitOf a q.toNat:Int) then (s,[-6]) else (withMore s a.key q.toNat (-n),[hasOf a q.toNat - n]):=by
     show (if (keyed a && (goodly q && within n 1 Vbchak.MOST))=false then (s,[-1]) else _:State×List Int)=_
     rw [if_neg (by rw [hk,hq,hn]; decide)]
    obtain ⟨m,rfl,em,_⟩:=keyed_nat hk
    obtain ⟨qq,rfl,eq,hqq⟩:=goodly_nat hq
    walk_at "4"
    refine r_kF hp T.k_House T.n_House_accounts lH_a ?_
    refine r_kDN (j:=(m:Int)) hx.at_.da ?_
    walk_at "4"
    cases ha:accountAt s m with
    | none =>
     rw [da_none hR ha]
     refine iteT ?_
     walk_at "4"
     rw [hst0,onAccount_4 (by rw [Int.toNat_natCast]; exact ha)] at k
     exact r_kL (by show 1≤1000; decide) fun z hz0=>k.no ho hR (Same.refl _) hz0 rfl
    | some x0 =>
     rw [da_there hR ha]
     refine iteF ?_
     rw [hst0,onAccount_a (by rw [Int.toNat_natCast]; exact ha),Int.toNat_natCast] at k
     obtain ⟨hxm0,hxk⟩:=accountAt_some ha
     subst hxk
     obtain ⟨x,hxm,rfl⟩:=lay_acc hR hxm0
     have hO:=ho.as x hxm
     obtain ⟨da,hao⟩:=hO.o
     have h4:=(hR.good.acc x.acc hxm0).h4
     walk_at "4"
     refine r_kF hp T.k_House T.n_House_accounts lH_a ?_
     walk_at "4"
     refine r_kDG (j:=(x.acc.key:Int)) hx.at_.da (da_at hR hxm) ?_
     walk_at "4"
     refine r_kF hao T.k_Account T.n_Account_amounts lA_m ?_
     walk_at "4"
     refine r_kDG (j:=(qq:Int)) (.inl hO.am) (gd_val _ hqq) ?_
     walk_at "4"
     refine r_kF hao T.k_Account T.n_Account_limits lA_l ?_
     walk_at "4"
     refine r_kDG (j:=(qq:Int)) (.inl hO.li) (gd_val _ hqq) ?_
     rw [lims_get (hR.good.acc x.acc hxm0).l4 hqq]
     walk_at "4"
     by_cases hs:hasOf x.acc qq - n < -(Vbchak.limitOf x.acc qq:Int)
     ·rw [if_pos hs] at k
      refine ite2 (fun _=>?_) (fun hno=>absurd (by rw [decide_eq_true_eq]; exact hs) hno)
      walk_at "4"
      exact r_kL (by show 1≤1000; decide) fun z hz0=>k.no ho hR (Same.refl _) hz0 rfl
     ·rw [if_neg hs] at k
      refine ite2 (fun hyes=>absurd (of_decide_eq_true hyes) hs) (fun _=>?_)
      walk_at "4"
      refine r_kF hao T.k_Account T.n_Account_amounts lA_m ?_
      walk_at "4"
      refine r_kDP (j:=(qq:Int)) hO.am (by show 4 < sizeLine; decide) ?_
      rw [show (Sum.inl (qq:Int):Key)=kI qq from rfl,gd_put h4 hqq,Int.sub_eq_add_neg,changed_set h4 hqq]
      walk_at "4"
      refine r_kL (by show 1≤1000; decide) fun z hz0=>?_
      obtain ⟨pre,post,eL⟩:=split_at hxm
      have hG:Good (withMore s x.acc.key qq (-n)):=hR.good.more _ _ fun y hy e _=>by
       have:=key_inj (f:=fun a:Account=>a.key) hR.good.an hy hxm0 e
       subst this
       omega
      rw [eL] at ho hR
      have nx:In1 _ x:=ho.in1 x (List.mem_append_right _ (List.mem_cons_self ..))
      have hO':=ho.put (x':=⟨x.a,x.am,x.li,x.ro,moreAcc x.acc.key qq (-n) x.acc⟩) (H':=upd H x.am (.dK (gd (changed x.acc.has qq (-n))))) (moreAcc_key ..) rfl (fun b o e h1 h2 h3 h4=>by rw [upd_ne h2]; exact e)
       ⟨⟨da,by show upd H x.am _ x.a=_; rw [upd_ne (ne_of hao hO.am (by intro z; cases z))]; exact hao⟩,by show upd H x.am _ x.am=some (.dK (gd (moreAcc x.acc.key qq (-n) x.acc).has)); rw [upd_same,show (moreAcc x.acc.key qq (-n) x.acc).has=changed x.acc.has qq (-n) by unfold moreAcc; rw [if_pos rfl]],
        by show upd H x.am _ x.li=some (.dK (gd (lims (moreAcc x.acc.key qq (-n) x.acc)))); rw [upd_ne (Ne.symm nx.ml),show lims (moreAcc x.acc.key qq (-n) x.acc)=lims x.acc by unfold lims; rw [moreAcc_limits]]; exact hO.li,
        by show upd H x.am _ x.ro=some (.lst ((moreAcc x.acc.key qq (-n) x.acc).row.map vI)); rw [upd_ne (ne_of hO.ro hO.am (by intro z; cases z)),moreAcc_row]; exact hO.ro⟩ (.inl rfl) (.inl rfl) (.inl rfl) nx.ml
      have hst:=st_put (x':=⟨x.a,x.am,x.li,x.ro,moreAcc x.acc.key qq (-n) x.acc⟩) hR (f:=moreAcc x.acc.key qq (-n)) (fun a e=>by unfold moreAcc; rw [if_neg e]) rfl
      rw [eL] at k
      refine k.yes hO' (by rw [hst]; exact hR.more _ _ _ hG) (fun b o e hb=>by rw [upd_ne (fun z=>hb (.inr (.inr (.inl ⟨x,List.mem_append_right _ (List.mem_cons_self ..),.inr (.inl z)⟩))))]; exact e) (ft_put rfl (.inl rfl) (.inl rfl) (.inl rfl)) (fun b o e=>?_) hz0 rfl
      by_cases hb:b=x.am
      ·exact ⟨_,by rw [hb,upd_same]⟩
      ·exact ⟨o,by rw [upd_ne hb]; exact e⟩
theorem fn_set_limit (T:Txt K mg c):Fn P w K mg base "set_limit" 2 ["house","account_key","good","limit"] (spChg3 c .limit):=by
 refine T.f_set_limit.fn sc_set_limit (fun vs H Q E h=>?_) (fun f cdv A outer sh H vs Q E hr h=>?_)
 ·obtain ⟨p,L,s,a,q,n,rfl,_⟩:=h
  rfl
 obtain ⟨p,L,s,a,q,n,rfl,ho,hR,k⟩:=h
 have hu:=hu_of hr
 have nd:=sc_set_limit.nd
 refine ⟨_,(pss_cons (ps_if (pt_not (PW.pt (pw_and (pt_val (pe_fn (fn_is_key T) (hr.mono (by decide)) rfl (pa_cons (pv 1) pa_nil))) (pw_and (pt_val (pe_fn (fn_is_good T) (hr.mono (by decide)) rfl (pa_cons (pv 2) pa_nil))) (pw_and1 (pt_val (pe_fn (fn_is_limit T) (hr.mono (by decide)) rfl (pa_cons (pv 3) pa_nil)))))))) (pss_one (ps_ret (pe_lst (pa_cons (pe_gint T.c_OUT_OF_RANGE) pa_nil)))) pss_nil)
   (pss_cons (ps_if (pt_cmp (pc_dnotin hu (pv 1) (pe_fld (pv 0) rfl)) rfl) (pss_one (ps_ret (pe_lst (pa_cons (pe_gint T.c_NOT_THERE) pa_nil)))) pss_nil)
   (pss_cons (ps_set (i:=4) nd rfl (Or.inl rfl) (pe_dget hu (pe_fld (pv 0) rfl) (pv 1) (fun _ _=>rfl)))
   (pss_cons (ps_if (pt_cmpR op_lt (pe_dget hu (pe_fld (pv 4) rfl) (pv 2) (fun _ _=>rfl)) (pe_un un_neg (pv 3)) (nomark _)) (pss_one (ps_ret (pe_lst (pa_cons (pe_gint T.c_BELOW_LIMIT) pa_nil)))) pss_nil)
   (pss_cons (ps_set (i:=5) nd rfl (Or.inl rfl) (pe_dget hu (pe_fld (pv 4) rfl) (pv 2) (fun _ _=>rfl)))
   (pss_cons (ps_dput hu (pe_fld (pv 4) rfl) (pv 2) (pv 3) rfl)
   (pss_one (ps_ret (pe_lst (pa_cons (pv 5) pa_nil)))))))))),?_⟩
 try simp only [Cx.nox,Cx.wish,cxOf]
 have hx:=ho.hx hR
 obtain ⟨dx,hp⟩:=ho.o
 have out1:(keyed a && (goodly q && within n 0 Vbchak.MOST))=false→∀ z,H z=none→Q (.ref z) (upd H z (.lst [.int (-1)])):=fun h z hz=>by
  have e:Vbchak.step s (.limit a q n)=(s,[-1]):=by
   show (if (keyed a && (goodly q && within n 0 Vbchak.MOST))=false then (s,[-1]) else _:State×List Int)=_
   rw [if_pos h]
  rw [e] at k
  exact k.no ho hR (Same.refl _) hz rfl
 walk_at "4"
 cases hk:keyed a with
 | false =>
  refine iteF (iteT ?_)
  walk_at "4"
  exact r_kL (by show 1≤1000; decide) (out1 (by rw [hk]; rfl))
 | true =>
  refine iteT ?_
  walk_at "4"
  cases hq:goodly q with
  | false =>
   refine iteF (iteT ?_)
   walk_at "4"
   exact r_kL (by show 1≤1000; decide) (out1 (by rw [hk,hq]; rfl))
  | true =>
   refine iteT ?_
   walk_at "4"
   cases hn:within n 0 Vbchak.MOST with
   | false =>
    refine iteT ?_
    walk_at "4"
    exact r_kL (by show 1≤1000; decide) (out1 (by rw [hk,hq,hn]; rfl))
   | true =>
    refine iteF ?_
    have hst0:Vbchak.step s (.limit a q n)=Vbchak.onAccount s a fun a=>if hasOf a q.toNat < -n then (s,[-6]) else (Vbchak.setAccount s { a with limits:=a.limits.zipIdx.map fun x=>if x.2 + 1=q.toNat then n.toNat else x.1 },[(Vbchak.limitOf a q.toNat:Int)]):=by
     show (if (keyed a && (goodly q && within n 0 Vbchak.MOST))=false then (s,[-1]) else _:State×List Int)=_
     rw [if_neg (by rw [hk,hq,hn]; decide)]
    obtain ⟨m,rfl,em,_⟩:=keyed_nat hk
    obtain ⟨qq,rfl,eq,hqq⟩:=goodly_nat hq
    walk_at "4"
    refine r_kF hp T.k_House T.n_House_accounts lH_a ?_
    refine r_kDN (j:=(m:Int)) hx.at_.da ?_
    walk_at "4"
    cases ha:accountAt s m with
    | none =>
     rw [da_none hR ha]
     refine iteT ?_
     walk_at "4"
     rw [hst0,onAccount_4 (by rw [Int.toNat_natCast]; exact ha)] at k
     exact r_kL (by show 1≤1000; decide) fun z hz0=>k.no ho hR (Same.refl _) hz0 rfl
    | some x0 =>
     rw [da_there hR ha]
     refine iteF ?_
     rw [hst0,onAccount_a (by rw [Int.toNat_natCast]; exact ha),Int.toNat_natCast] at k
     obtain ⟨hxm0,hxk⟩:=accountAt_some ha
     subst hxk
     obtain ⟨x,hxm,rfl⟩:=lay_acc hR hxm0
     have hO:=ho.as x hxm
     obtain ⟨da,hao⟩:=hO.o
     have h4:=(hR.good.acc x.acc hxm0).h4
     walk_at "4"
     refine r_kF hp T.k_House T.n_House_accounts lH_a ?_
     walk_at "4"
     refine r_kDG (j:=(x.acc.key:Int)) hx.at_.da (da_at hR hxm) ?_
     walk_at "4"
     refine r_kF hao T.k_Account T.n_Account_amounts lA_m ?_
     walk_at "4"
     refine r_kDG (j:=(qq:Int)) (.inl hO.am) (gd_val _ hqq) ?_
     walk_at "4"
     by_cases hs:hasOf x.acc qq < -n
     ·rw [if_pos hs] at k
      refine ite2 (fun _=>?_) (fun hno=>absurd (by rw [decide_eq_true_eq]; exact hs) hno)
      walk_at "4"
      exact r_kL (by show 1≤1000; decide) fun z hz0=>k.no ho hR (Same.refl _) hz0 rfl
     ·rw [if_neg hs] at k
      refine ite2 (fun hyes=>absurd (of_decide_eq_true hyes) hs) (fun _=>?_)
      have l4:=(hR.good.acc x.acc hxm0).l4
      have h0n:0≤n:=by
       unfold Vbchak.within at hn
       rw [Bool.and_eq_true,decide_eq_true_eq,decide_eq_true_eq] at hn
       exact hn.1
      have hlim:putK (gd (lims x.acc)) (kI qq) (.int n)=gd (lims { x.acc with limits:=x.acc.limits.zipIdx.map fun x=>if x.2 + 1=qq then n.toNat else x.1 }):=by
       have hn':n=(n.toNat:Int):=by omega
       rw [hn']
       unfold lims
       obtain ⟨x0,x1,x2,x3,e⟩:=list4 l4
       show putK (gd (x.acc.limits.map fun (n:Nat)=>(n:Int))) _ _=gd ((x.acc.limits.zipIdx.map fun x=>if x.2 + 1=qq then (n.toNat:Int).toNat else x.1).map fun (n:Nat)=>(n:Int))
       rw [e,Int.toNat_natCast]
       rcases goods4 hqq with rfl | rfl | rfl | rfl <;> rfl
      walk_at "4"
      refine r_kF hao T.k_Account T.n_Account_limits lA_l ?_
      walk_at "4"
      refine r_kDG (j:=(qq:Int)) (.inl hO.li) (gd_val _ hqq) ?_
      rw [lims_get l4 hqq]
      walk_at "4"
      refine r_kF hao T.k_Account T.n_Account_limits lA_l ?_
      walk_at "4"
      refine r_kDP (j:=(qq:Int)) hO.li (by show 4 < sizeLine; decide) ?_
      rw [show (Sum.inl (qq:Int):Key)=kI qq from rfl,hlim]
      walk_at "4"
      refine r_kL (by show 1≤1000; decide) fun z hz0=>?_
      obtain ⟨pre,post,eL⟩:=split_at hxm
      have hok:AccOk { x.acc with limits:=x.acc.limits.zipIdx.map fun x=>if x.2 + 1=qq then n.toNat else x.1 }:=by
       have o:=hR.good.acc x.acc hxm0
       refine ⟨o.k1,o.k2,o.h4,by show (x.acc.limits.zipIdx.map _).length=4; rw [List.length_map,List.length_zipIdx,l4],o.nd,fun q' hq'=>?_⟩
       have h1:=o.lim q' hq'
       have h2:Vbchak.limitOf { x.acc with limits:=x.acc.limits.zipIdx.map fun x=>if x.2 + 1=qq then n.toNat else x.1 } q'=if q'=qq then n.toNat else Vbchak.limitOf x.acc q':=by
        unfold Vbchak.limitOf
        obtain ⟨x0,x1,x2,x3,e⟩:=list4 l4
        show (x.acc.limits.zipIdx.map fun x=>if x.2 + 1=qq then n.toNat else x.1).getD (q' - 1) 0=_
        rw [e]
        rcases goods4 hq' with rfl | rfl | rfl | rfl
        ·show (if 1=qq then n.toNat else x0)=_
         rfl
        ·show (if 2=qq then n.toNat else x1)=_
         rfl
        ·show (if 3=qq then n.toNat else x2)=_
         rfl
        ·show (if 4=qq then n.toNat else x3)=_
         rfl
       rw [h2]
       show _≤hasOf x.acc q'
       split
       ·rename_i e
        subst e
        omega
       ·exact h1
      have hRs:=hR.set hxm0 (b:={ x.acc with limits:=x.acc.limits.zipIdx.map fun x=>if x.2 + 1=qq then n.toNat else x.1 }) rfl hok (fun k=>Iff.rfl)
      rw [eL] at ho hR hRs
      have nx:In1 _ x:=ho.in1 x (List.mem_append_right _ (List.mem_cons_self ..))
      have hO':=ho.put (x':=⟨x.a,x.am,x.li,x.ro,{ x.acc with limits:=x.acc.limits.zipIdx.map fun x=>if x.2 + 1=qq then n.toNat else x.1 }⟩) (H':=upd H x.li (.dK (gd (lims { x.acc with limits:=x.acc.limits.zipIdx.map fun x=>if x.2 + 1=qq then n.toNat else x.1 })))) rfl rfl (fun b o e h1 h2 h3 h4=>by rw [upd_ne h3]; exact e)
       ⟨⟨da,by show upd H x.li _ x.a=_; rw [upd_ne (ne_of hao hO.li (by intro z; cases z))]; exact hao⟩,by show upd H x.li _ x.am=_; rw [upd_ne nx.ml]; exact hO.am,upd_same,by show upd H x.li _ x.ro=_; rw [upd_ne (ne_of hO.ro hO.li (by intro z; cases z))]; exact hO.ro⟩ (.inl rfl) (.inl rfl) (.inl rfl) nx.ml
      have hst:=st_put (x':=⟨x.a,x.am,x.li,x.ro,{ x.acc with limits:=x.acc.limits.zipIdx.map fun x=>if x.2 + 1=qq then n.toNat else x.1 }⟩) hR (f:=fun a=>if a.key=x.acc.key then { x.acc with limits:=x.acc.limits.zipIdx.map fun x=>if x.2 + 1=qq then n.toNat else x.1 } else a) (fun a e=>by rw [if_neg e]) (by rw [if_pos rfl])
      rw [eL] at k
      refine k.yes hO' (by rw [hst]; exact hRs) (fun b o e hb=>by rw [upd_ne (fun z=>hb (.inr (.inr (.inl ⟨x,List.mem_append_right _ (List.mem_cons_self ..),.inr (.inr (.inl z))⟩))))]; exact e) (ft_put rfl (.inl rfl) (.inl rfl) (.inl rfl)) (fun b o e=>?_) hz0 rfl
      by_cases hb:b=x.li
      ·exact ⟨_,by rw [hb,upd_same]⟩
      ·exact ⟨o,by rw [upd_ne hb]; exact e⟩
end
theorem O0.addA {c:Cs} {H H1:Hp} {p:Addr} {L:Lay} {x:AccL} (h:O0 c H p L) (s:Same H H1) (hx:AccO c H1 x) (na:H x.a=none) (nm:H x.am=none) (nl:H x.li=none) (nr:H x.ro=none) (ne:x.am≠x.li) :
  O0 c (upd H1 L.pa (.dK (L.da++[(kI x.acc.key,.ref x.a)]))) p ⟨L.pa,L.pg,L.as++[x],L.gs⟩:=by
 have h1:=h.same s
 have kD:∀ b o,H1 b=some o→b≠L.pa→upd H1 L.pa (.dK (L.da++[(kI x.acc.key,.ref x.a)])) b=some o:=fun b o e hb=>by rw [upd_ne hb]; exact e
 have kk:∀ b o,H1 b=some o→(∀ kvs,o ≠ .dK kvs)→upd H1 L.pa (.dK (L.da++[(kI x.acc.key,.ref x.a)])) b=some o:=fun b o e hb=>kD b o e (ne_of e h1.ea (hb _))
 have nin:∀ z C dx fs,(HO.ins z C dx:HO) ≠ .dK fs:=fun _ _ _ _ q=>by cases q
 refine ⟨?_,?_,kD _ _ h1.eg (Ne.symm h.pp),fun y hy=>?_,fun z hz=>?_,?_,fun y hy=>?_,h.gp,h.pp⟩
 ·obtain ⟨dx,e⟩:=h1.o
  exact ⟨dx,kk _ _ e fun _ q=>by cases q⟩
 ·show upd H1 L.pa _ L.pa=some (.dK ((L.as++[x]).map _))
  rw [upd_same,List.map_append]
  rfl
 ·rcases List.mem_append.mp hy with hy | hy
  ·have q:=h1.as y hy
   have i:=h.in1 y hy
   obtain ⟨dx,e⟩:=q.o
   exact ⟨⟨dx,kk _ _ e fun _ q=>by cases q⟩,kD _ _ q.am i.ma,kD _ _ q.li i.la,kk _ _ q.ro fun _ q=>by cases q⟩
  ·rw [List.mem_singleton] at hy
   subst hy
   obtain ⟨dx,e⟩:=hx.o
   exact ⟨⟨dx,kk _ _ e fun _ q=>by cases q⟩,kD _ _ hx.am (Ne.symm (ne_of_none h.ea nm)),kD _ _ hx.li (Ne.symm (ne_of_none h.ea nl)),kk _ _ hx.ro fun _ q=>by cases q⟩
 ·have q:=h1.gs z hz
  obtain ⟨dx,e⟩:=q.o
  exact ⟨⟨dx,kk _ _ e (fun _ q=>by cases q)⟩,kk _ _ q.le (fun _ q=>by cases q),Paired.mapP q.legs fun a l ⟨dl,hl⟩=>⟨dl,kk _ _ hl (fun _ q=>by cases q)⟩⟩
 ·refine List.pairwise_append.mpr ⟨h.ap,List.pairwise_singleton _ _,fun y hy z hz=>?_⟩
  rw [List.mem_singleton] at hz
  subst hz
  have q:=h.as y hy
  obtain ⟨dx,e⟩:=q.o
  exact ⟨ne_of_none e na,ne_of_none q.am nm,ne_of_none q.li nl,ne_of_none q.ro nr,ne_of_none q.am nl,ne_of_none q.li nm⟩
 ·rcases List.mem_append.mp hy with hy | hy
  ·have i:=h.in1 y hy
   exact ⟨i.ml,i.ma,i.mg,i.la,i.lg,i.rl⟩
  ·rw [List.mem_singleton] at hy
   subst hy
   exact ⟨ne,Ne.symm (ne_of_none h.ea nm),Ne.symm (ne_of_none h.eg nm),Ne.symm (ne_of_none h.ea nl),Ne.symm (ne_of_none h.eg nl),fun z hz=>Ne.symm (ne_of_none (h.gs z hz).le nr)⟩
theorem O0.putG {c:Cs} {H H':Hp} {p pa pg:Addr} {as:List AccL} {pre post:List GrpL} {x x':GrpL} (h:O0 c H p ⟨pa,pg,as,pre++x::post⟩) (hk:x'.grp.key=x.grp.key) (hg:x'.g=x.g) (hle:x'.le=x.le) (hxs:x'.xs=x.xs) (hlg:x'.grp.legs=x.grp.legs)
  (keep:∀ b o,H b=some o→b≠x.g→H' b=some o) (ho:∃ dx,H' x.g=some (.ins c.grp dx (fG x.le x'.grp.held))):O0 c H' p ⟨pa,pg,as,pre++x'::post⟩:=by
 have hxm:x∈pre++x::post:=List.mem_append_right _ (List.mem_cons_self ..)
 have hxo:=h.gs x hxm
 obtain ⟨dg,hgo⟩:=hxo.o
 have kI':∀ b o,H b=some o→(∀ C dx fs,o ≠ .ins C dx fs)→H' b=some o:=fun b o e hn=>keep b o e (ne_of e hgo (hn _ _ _))
 have k3:∀ b C dx fs,H b=some (.ins C dx fs)→fs.length≠2→H' b=some (.ins C dx fs):=fun b C dx fs e hn=>keep b _ e (ne_of e hgo fun q=>hn (by rw [(HO.ins.inj q).2.2]; rfl))
 have kl:∀ b leg,(∃ dx,H b=some (.ins c.leg dx (fL leg)))→∃ dx,H' b=some (.ins c.leg dx (fL leg)):=fun b leg ⟨dx,e⟩=>⟨dx,k3 _ _ _ _ e (by show 4≠2; decide)⟩
 obtain ⟨gp1,gp2,gp3⟩:=List.pairwise_append.mp h.gp
 obtain ⟨gp4,gp5⟩:=List.pairwise_cons.mp gp2
 have others:∀ y,y∈pre++x::post→y.g≠x.g→GrpO c H' y:=fun y hy hne=>by
  have q:=h.gs y hy
  obtain ⟨dy,e⟩:=q.o
  exact ⟨⟨dy,keep _ _ e hne⟩,kI' _ _ q.le (fun _ _ _ z=>by cases z),Paired.mapP q.legs fun a l hl=>kl a l hl⟩
 refine ⟨?_,?_,?_,fun y hy=>?_,fun z hz=>?_,h.ap,fun y hy=>?_,?_,h.pp⟩
 ·obtain ⟨dp,hp⟩:=h.o
  refine ⟨dp,keep _ _ hp (ne_of hp hgo fun e=>?_)⟩
  have e2:=congrArg (fun l:List (Str×V)=>l.lookup ("legs":Str)) (HO.ins.inj e).2.2
  have e3:(fH pa pg).lookup ("legs":Str)=(fG x.le x.grp.held).lookup ("legs":Str):=e2
  rw [lG_l] at e3
  have e4:(fH pa pg).lookup ("legs":Str)=none:=(lk2 (by decide +kernel)).trans ((lk2 (by decide +kernel)).trans rfl)
  rw [e4] at e3
  cases e3
 ·exact kI' _ _ h.ea (fun _ _ _ z=>by cases z)
 ·have e:(⟨pa,pg,as,pre++x'::post⟩:Lay).dg=(⟨pa,pg,as,pre++x::post⟩:Lay).dg:=by
   show (pre++x'::post).map _=(pre++x::post).map _
   rw [List.map_append,List.map_append,List.map_cons,List.map_cons,hk,hg]
  rw [e]
  exact kI' _ _ h.eg (fun _ _ _ z=>by cases z)
 ·have q:=h.as y hy
  obtain ⟨dy,e⟩:=q.o
  exact ⟨⟨dy,k3 _ _ _ _ e (by show 3≠2; decide)⟩,kI' _ _ q.am (fun _ _ _ z=>by cases z),kI' _ _ q.li (fun _ _ _ z=>by cases z),kI' _ _ q.ro (fun _ _ _ z=>by cases z)⟩
 ·rcases List.mem_append.mp hz with hz | hz
  ·exact others z (List.mem_append_left _ hz) (gp3 z hz x (List.mem_cons_self ..))
  ·rcases List.mem_cons.mp hz with rfl | hz
   ·refine ⟨by rw [hg,hle]; exact ho,by rw [hle,hxs]; exact kI' _ _ hxo.le (fun _ _ _ z=>by cases z),by rw [hxs,hlg]; exact Paired.mapP hxo.legs fun a l hl=>kl a l hl⟩
   ·exact others z (List.mem_append_right _ (List.mem_cons_of_mem _ hz)) (Ne.symm (gp4 z hz))
 ·have i:=h.in1 y hy
  refine ⟨i.ml,i.ma,i.mg,i.la,i.lg,fun z hz=>?_⟩
  rcases List.mem_append.mp hz with hz | hz
  ·exact i.rl z (List.mem_append_left _ hz)
  ·rcases List.mem_cons.mp hz with rfl | hz
   ·rw [hle]
    exact i.rl x hxm
   ·exact i.rl z (List.mem_append_right _ (List.mem_cons_of_mem _ hz))
 ·refine List.pairwise_append.mpr ⟨gp1,List.pairwise_cons.mpr ⟨fun z hz=>by rw [hg]; exact gp4 z hz,gp5⟩,fun y hy z hz=>?_⟩
  rcases List.mem_cons.mp hz with rfl | hz
  ·rw [hg]
   exact gp3 y hy x (List.mem_cons_self ..)
  ·exact gp3 y hy z (List.mem_cons_of_mem _ hz)
section
variable {P:Program} {w:World} {K:PySem.W.Frag} {mg:Str→Option Value} {base:Heap} {c:Cs}
def spAddA (c:Cs):Sp:=fun vs H Q _=>∃ (p:Addr) (L:Lay) (s:State) (k:Int),vs=[.ref p,.int k]∧O0 c H p L∧R L.st s∧Chg c H p L Q (Vbchak.step s (.account k)).1 (Vbchak.step s (.account k)).2
theorem fn_add_account (T:Txt K mg c):Fn P w K mg base "add_account" 3 ["house","key"] (spAddA c):=by
 refine T.f_add_account.fn sc_add_account (fun vs H Q E h=>?_) (fun f cdv A outer sh H vs Q E hr h=>?_)
 ·obtain ⟨p,L,s,n,rfl,_⟩:=h
  rfl
 obtain ⟨p,L,s,n,rfl,ho,hR,k⟩:=h
 have hu:=hu_of hr
 have nd:=sc_add_account.nd
 refine ⟨_,(pss_cons (ps_if (pt_not (pt_val (pe_fn (fn_is_key T) (hr.mono (by decide)) rfl (pa_cons (pv 1) pa_nil)))) (pss_one (ps_ret (pe_lst (pa_cons (pe_gint T.c_OUT_OF_RANGE) pa_nil)))) pss_nil)
   (pss_cons (ps_if (pt_cmp (pc_din hu (pv 1) (pe_fld (pv 0) rfl)) rfl) (pss_one (ps_ret (pe_lst (pa_cons (pe_gint T.c_KEY_TAKEN) pa_nil)))) pss_nil)
   (pss_cons (ps_if (pt_cmpR op_eq (pe_callB call_lenD rfl T.b_len boot_len (pa_cons (pe_fld (pv 0) rfl) pa_nil)) (pe_gint T.c_MOST_ACCOUNTS) (nomark _)) (pss_one (ps_ret (pe_lst (pa_cons (pe_gint T.c_FULL) pa_nil)))) pss_nil)
   (pss_cons (ps_dput hu (pe_fld (pv 0) rfl) (pv 1) (pe_mk0 (mk_Account T) (hr.mono (by decide)) rfl) rfl)
   (pss_one (ps_ret (pe_lst (pa_cons pe_int pa_nil)))))))),?_⟩
 try simp only [Cx.nox,Cx.wish,cxOf]
 have hx:=ho.hx hR
 obtain ⟨dx,hp⟩:=ho.o
 have hstep:Vbchak.step s (.account n)=if keyed n=false then (s,[-1]) else if (accountAt s n.toNat).isSome=true then (s,[-2]) else if Vbchak.ACCOUNTS≤s.accounts.length then (s,[-9]) else ({ s with accounts:=Vbchak.putAccount ⟨n.toNat,[0,0,0,0],[0,0,0,0],[]⟩ s.accounts },[0]):=rfl
 walk_at "4"
 cases hk:keyed n with
 | false =>
  rw [hstep,if_pos hk] at k
  refine iteT ?_
  walk_at "4"
  exact r_kL (by show 1≤1000; decide) fun z hz0=>k.no ho hR (Same.refl _) hz0 rfl
 | true =>
  rw [if_neg (by rw [hk]; decide)] at hstep
  refine iteF ?_
  obtain ⟨m,rfl,em,hm1,hm2⟩:=keyed_nat hk
  rw [em] at hstep
  walk_at "4"
  refine r_kF hp T.k_House T.n_House_accounts lH_a ?_
  refine r_kDI (j:=(m:Int)) hx.at_.da ?_
  walk_at "4"
  cases ha:accountAt s m with
  | some x0 =>
   rw [da_there hR ha]
   rw [hstep,ha,if_pos (by rfl)] at k
   refine iteT ?_
   walk_at "4"
   exact r_kL (by show 1≤1000; decide) fun z hz0=>k.no ho hR (Same.refl _) hz0 rfl
  | none =>
   rw [da_none hR ha]
   rw [ha,if_neg (by decide)] at hstep
   refine iteF ?_
   walk_at "4"
   refine r_kF hp T.k_House T.n_House_accounts lH_a ?_
   walk_at "4"
   refine ⟨L.pa,_,rfl,ho.ea,?_⟩
   have hlen:L.da.length=s.accounts.length:=by
    unfold Lay.da
    rw [List.length_map,← hR.pa.length_eq]
    exact (List.length_map ..).symm
   walk_at "4"
   rw [hlen]
   have ha8:=hR.good.a8
   by_cases h8:s.accounts.length=8
   ·rw [hstep,if_pos (by rw [h8]; decide)] at k
    refine ite2 (fun _=>?_) (fun hno=>absurd (by rw [decide_eq_true_eq,h8]; rfl) hno)
    walk_at "4"
    exact r_kL (by show 1≤1000; decide) fun z hz0=>k.no ho hR (Same.refl _) hz0 rfl
   ·rw [hstep,if_neg (by show ¬ 8≤s.accounts.length; omega)] at k
    refine ite2 (fun hyes=>absurd (of_decide_eq_true hyes) (by omega)) (fun _=>?_)
    walk_at "4"
    intro xr dr hxr hdr hne
    refine ⟨xr,dr,rfl,upd_same,fun H1 am li ro kp ham hli hro hml hp1 h1 h2 h3=>⟨rfl,?_⟩⟩
    have s1:Same H H1:=Same.made hxr hdr kp
    have s0:Same H (upd (upd H dr (.own xr)) xr (.ins c.acc dr [])):=fun b o e=>by rw [upd_ne (ne_of_none e hxr),upd_ne (ne_of_none e hdr)]; exact e
    have ha1:=ho.same s1
    walk_at "4"
    refine r_kF (s1 _ _ hp) T.k_House T.n_House_accounts lH_a ?_
    walk_at "4"
    have hnk:¬ kI m∈L.da.map (·.1):=fun mm=>by
     rw [da_keys] at mm
     obtain ⟨j,hj,e⟩:=List.mem_map.mp mm
     obtain ⟨y,hy,e2⟩:=List.mem_map.mp hj
     exact accountAt_none ha y.acc (acc_lay hR hy) (by rw [e2]; exact kI_inj e)
    refine r_kDP (j:=(m:Int)) ha1.ea (by rw [hlen]; exact small1000 (by omega)) ?_
    rw [show (Sum.inl (m:Int):Key)=kI m from rfl,putK_new _ (valV_out hnk)]
    walk_at "4"
    refine r_kL (by show 1≤1000; decide) fun z hz0=>?_
    have hO:=ho.addA (x:=⟨xr,am,li,ro,newAcc m⟩) s1 ⟨⟨dr,hp1⟩,h1,h2,h3⟩ hxr (s0.free ham) (s0.free hli) (s0.free hro) hml
    have hRn:=hR.account hm1 hm2 (accountAt_none ha) (by omega)
    refine k.yes hO ?_ (fun b o e hb=>by rw [upd_ne (fun q=>hb (.inl q))]; exact s1 _ _ e) (fun b hb=>?_) (fun b o e=>?_) hz0 rfl
    ·have e:(⟨L.pa,L.pg,L.as++[⟨xr,am,li,ro,newAcc m⟩],L.gs⟩:Lay).st = { L.st with accounts:=L.st.accounts++[newAcc m] }:=by
      show (⟨(L.as++[_]).map _,_⟩:State)=⟨L.as.map _++[newAcc m],_⟩
      rw [List.map_append]
      rfl
     rw [e]
     exact hRn
    ·rcases hb with rfl | rfl | ⟨y,hy,hb⟩ | ⟨z',hz',rfl⟩
     ·exact .inl (.inl rfl)
     ·exact .inl (.inr (.inl rfl))
     ·rcases List.mem_append.mp hy with hy | hy
      ·exact .inl (.inr (.inr (.inl ⟨y,hy,hb⟩)))
      ·rw [List.mem_singleton] at hy
       subst hy
       rcases hb with rfl | rfl | rfl | rfl
       ·exact .inr hxr
       ·exact .inr (s0.free ham)
       ·exact .inr (s0.free hli)
       ·exact .inr (s0.free hro)
     ·exact .inl (.inr (.inr (.inr ⟨z',hz',rfl⟩)))
    ·by_cases hb:b=L.pa
     ·exact ⟨_,by rw [hb,upd_same]⟩
     ·exact ⟨o,by rw [upd_ne hb]; exact s1 _ _ e⟩
def spHold (c:Cs):Sp:=fun vs H Q _=>∃ (p:Addr) (L:Lay) (s:State) (k n:Int),vs=[.ref p,.int k,.int n]∧O0 c H p L∧R L.st s∧Chg c H p L Q (Vbchak.step s (.hold k n)).1 (Vbchak.step s (.hold k n)).2
theorem split_atG {L:Lay} {x:GrpL} (h:x∈L.gs):∃ pre post,L=⟨L.pa,L.pg,L.as,pre++x::post⟩:=by
 obtain ⟨pre,post,e⟩:=List.append_of_mem h
 exact ⟨pre,post,by cases L; cases e; rfl⟩
theorem fn_hold (T:Txt K mg c):Fn P w K mg base "hold" 2 ["house","key","held"] (spHold c):=by
 refine T.f_hold.fn sc_hold (fun vs H Q E h=>?_) (fun f cdv A outer sh H vs Q E hr h=>?_)
 ·obtain ⟨p,L,s,n,m,rfl,_⟩:=h
  rfl
 obtain ⟨p,L,s,n,hl,rfl,ho,hR,k⟩:=h
 have hu:=hu_of hr
 have nd:=sc_hold.nd
 refine ⟨_,(pss_cons (ps_if (PW.pt (pw_or (pt_not (pt_val (pe_fn (fn_is_key T) (hr.mono (by decide)) rfl (pa_cons (pv 1) pa_nil)))) (pw_or1 (pt_not (pt_chain op_le op_le pe_int (pv 2) pe_int))))) (pss_one (ps_ret (pe_lst (pa_cons (pe_gint T.c_OUT_OF_RANGE) pa_nil)))) pss_nil)
   (pss_cons (ps_if (pt_cmp (pc_dnotin hu (pv 1) (pe_fld (pv 0) rfl)) rfl) (pss_one (ps_ret (pe_lst (pa_cons (pe_gint T.c_NOT_THERE) pa_nil)))) pss_nil)
   (pss_cons (ps_set (i:=3) nd rfl (Or.inl rfl) (pe_dget hu (pe_fld (pv 0) rfl) (pv 1) (fun _ _=>rfl)))
   (pss_cons (ps_set (i:=4) nd rfl (Or.inl rfl) (pe_fld (pv 3) rfl))
   (pss_cons (ps_fld (pv 3) (pv 2) rfl)
   (pss_one (ps_ret (pe_lst (pa_cons (pv 4) pa_nil))))))))),?_⟩
 try simp only [Cx.nox,Cx.wish,cxOf]
 have hx:=ho.hx hR
 obtain ⟨dx,hp⟩:=ho.o
 have hstep:Vbchak.step s (.hold n hl)=if (keyed n && within hl 0 1)=false then (s,[-1]) else Vbchak.onGroup s n fun g=>({ s with groups:=s.groups.map fun x=>if x.key=g.key then { x with held:=decide (hl=1) } else x },[if g.held=true then 1 else 0]):=rfl
 walk_at "4"
 cases hk:keyed n with
 | false =>
  rw [hstep,if_pos (by rw [hk]; rfl)] at k
  refine iteT (iteT ?_)
  walk_at "4"
  exact r_kL (by show 1≤1000; decide) fun z hz0=>k.no ho hR (Same.refl _) hz0 rfl
 | true =>
  refine iteF ?_
  walk_at "4"
  refine r_le2 ?_
  walk_at "4"
  have hwi:(decide (0≤hl) && decide (hl≤1))=within hl 0 1:=rfl
  rw [hwi]
  cases hw:within hl 0 1 with
  | false =>
   rw [hstep,if_pos (by rw [hk,hw]; rfl)] at k
   refine iteT ?_
   walk_at "4"
   exact r_kL (by show 1≤1000; decide) fun z hz0=>k.no ho hR (Same.refl _) hz0 rfl
  | true =>
   rw [if_neg (by rw [hk,hw]; decide)] at hstep
   refine iteF ?_
   obtain ⟨m,rfl,em,hm1,hm2⟩:=keyed_nat hk
   have h01:hl=0∨hl=1:=by
    rw [← hwi,Bool.and_eq_true,decide_eq_true_eq,decide_eq_true_eq] at hw
    omega
   walk_at "4"
   refine r_kF hp T.k_House T.n_House_groups lH_g ?_
   refine r_kDN (j:=(m:Int)) hx.at_.dg ?_
   walk_at "4"
   cases hg:groupAt s m with
   | none =>
    rw [dg_none hR hg]
    rw [hstep,onGroup_4 hk (by rw [Int.toNat_natCast]; exact hg)] at k
    refine iteT ?_
    walk_at "4"
    exact r_kL (by show 1≤1000; decide) fun z hz0=>k.no ho hR (Same.refl _) hz0 rfl
   | some g =>
    rw [dg_there hR hg]
    refine iteF ?_
    rw [hstep,onGroup_g hk (by rw [Int.toNat_natCast]; exact hg)] at k
    obtain ⟨hgm,hgk⟩:=groupAt_some hg
    subst hgk
    obtain ⟨x,hxm,rfl⟩:=lay_grp hR hgm
    have hG:=ho.gs x hxm
    obtain ⟨dg,hgo⟩:=hG.o
    walk_at "4"
    refine r_kF hp T.k_House T.n_House_groups lH_g ?_
    walk_at "4"
    refine r_kDG (j:=(x.grp.key:Int)) hx.at_.dg (dg_at hR hxm) ?_
    walk_at "4"
    refine r_kF hgo T.k_Group T.n_Group_held lG_h ?_
    walk_at "4"
    refine r_kSF hgo T.k_Group T.n_Group_held (by show 2 < 1000; decide) ?_
    have hpf:putF "held" (V.int hl) (fG x.le x.grp.held)=fG x.le (decide (hl=1)):=by
     refine ((pf2 (by decide +kernel)).trans (congrArg _ pf1)).trans ?_
     rcases h01 with rfl | rfl <;> rfl
    rw [hpf]
    walk_at "4"
    refine r_kL (by show 1≤1000; decide) fun z hz0=>?_
    obtain ⟨pre,post,eL⟩:=split_atG hxm
    have hRs:=hR.hold x.grp.key (decide (hl=1))
    have nd:=lay_gn hR
    rw [eL] at ho hR hRs k nd
    have hO':=ho.putG (x':=⟨x.g,x.le,x.xs,{ x.grp with held:=decide (hl=1) }⟩) (H':=upd H x.g (.ins c.grp dg (fG x.le (decide (hl=1))))) rfl rfl rfl rfl rfl (fun b o e hb=>by rw [upd_ne hb]; exact e) ⟨dg,upd_same⟩
    refine k.yes hO' ?_ (fun b o e hb=>by rw [upd_ne (fun q=>hb (.inr (.inr (.inr ⟨x,List.mem_append_right _ (List.mem_cons_self ..),q⟩))))]; exact e) (fun b hb=>.inl ?_) (fun b o e=>?_) hz0 ?_
    ·have e:(⟨L.pa,L.pg,L.as,pre++⟨x.g,x.le,x.xs,{ x.grp with held:=decide (hl=1) }⟩::post⟩:Lay).st = { (⟨L.pa,L.pg,L.as,pre++x::post⟩:Lay).st with groups:=(⟨L.pa,L.pg,L.as,pre++x::post⟩:Lay).st.groups.map (heldTo x.grp.key (decide (hl=1))) }:=by
      show (⟨_,(pre++_::post).map (fun y=>y.grp)⟩:State)=⟨_,((pre++x::post).map (fun y=>y.grp)).map _⟩
      congr 1
      have nd':((pre++x::post).map fun x=>x.grp.key).Nodup:=nd
      rw [List.map_append,List.map_cons,List.nodup_append] at nd'
      obtain ⟨n1,n2,n3⟩:=nd'
      have n4:=List.nodup_cons.mp n2
      rw [List.map_map,List.map_append,List.map_append,List.map_cons,List.map_cons]
      congr 1
      ·refine List.map_congr_left fun y hy=>?_
       show y.grp=heldTo x.grp.key _ y.grp
       unfold heldTo
       rw [if_neg (n3 _ (List.mem_map.mpr ⟨y,hy,rfl⟩) _ (List.mem_cons_self ..))]
      ·congr 1
       ·show _=heldTo x.grp.key _ x.grp
        unfold heldTo
        rw [if_pos rfl]
       ·refine List.map_congr_left fun y hy=>?_
        show y.grp=heldTo x.grp.key _ y.grp
        unfold heldTo
        rw [if_neg (fun e=>n4.1 (List.mem_map.mpr ⟨y,hy,e⟩))]
     rw [e]
     exact hRs
    ·rcases hb with rfl | rfl | ⟨y,hy,hb⟩ | ⟨z',hz',rfl⟩
     ·exact .inl rfl
     ·exact .inr (.inl rfl)
     ·exact .inr (.inr (.inl ⟨y,hy,hb⟩))
     ·rcases List.mem_append.mp hz' with hz' | hz'
      ·exact .inr (.inr (.inr ⟨z',List.mem_append_left _ hz',rfl⟩))
      ·rcases List.mem_cons.mp hz' with rfl | hz'
       ·exact .inr (.inr (.inr ⟨x,List.mem_append_right _ (List.mem_cons_self ..),rfl⟩))
       ·exact .inr (.inr (.inr ⟨z',List.mem_append_right _ (List.mem_cons_of_mem _ hz'),rfl⟩))
    ·by_cases hb:b=x.g
     ·exact ⟨_,by rw [hb,upd_same]⟩
     ·exact ⟨o,by rw [upd_ne hb]; exact e⟩
    ·show [V.int (if x.grp.held=true then 1 else 0)]=[V.int (hI x.grp.held)]
     rfl
end
theorem cut_take' {xs:List V} {j:Nat}:cutV xs none (some (j:Int))=xs.take j:=by
 unfold cutV
 show (xs.drop 0).take ((if (j:Int) < 0 then ((j:Int) + (xs.length:Int)).toNat else min ((j:Int)).toNat xs.length) - 0)=_
 rw [if_neg (by omega),Int.toNat_natCast,List.drop_zero,Nat.sub_zero]
 by_cases h:j≤xs.length
 ·rw [Nat.min_eq_left h]
 ·rw [Nat.min_eq_right (by omega),List.take_length,List.take_of_length_le (by omega)]
def notK (k:Nat):V→Bool
 | .int i=>!decide (i=(k:Int))
 | _=>true
theorem notK_map (k:Nat) (row:List Nat):(((row.map vI).filter (notK k)).map fun v=>v)=(row.filter fun j=>j != k).map vI:=by
 rw [List.map_id'' (fun _=>rfl),List.filter_map]
 refine congrArg (List.map vI) (List.filter_congr fun n _=>?_)
 show (!decide ((n:Int)=(k:Int)))=(n != k)
 by_cases e:n=k
 ·subst e
  simp
 ·rw [decide_eq_false (by omega)]
  simp [e]
section
variable {P:Program} {w:World} {K:PySem.W.Frag} {mg:Str→Option Value} {base:Heap} {c:Cs}
theorem fn_place (T:Txt K mg c):Fn P w K mg base "place" 2 ["house","account_key","key","n"] (spChg3 c .place):=by
 refine T.f_place.fn sc_place (fun vs H Q E h=>?_) (fun f cdv A outer sh H vs Q E hr h=>?_)
 ·obtain ⟨p,L,s,a,q,n,rfl,_⟩:=h
  rfl
 obtain ⟨p,L,s,a,g,n,rfl,ho,hR,k⟩:=h
 have hu:=hu_of hr
 have nd:=sc_place.nd
 refine ⟨_,(pss_cons (ps_if (pt_not (PW.pt (pw_and (pt_val (pe_fn (fn_is_key T) (hr.mono (by decide)) rfl (pa_cons (pv 1) pa_nil))) (pw_and (pt_val (pe_fn (fn_is_key T) (hr.mono (by decide)) rfl (pa_cons (pv 2) pa_nil))) (pw_and1 (pt_val (pe_fn (fn_is_place T) (hr.mono (by decide)) rfl (pa_cons (pv 3) pa_nil)))))))) (pss_one (ps_ret (pe_lst (pa_cons (pe_gint T.c_OUT_OF_RANGE) pa_nil)))) pss_nil)
   (pss_cons (ps_if (PW.pt (pw_or (pt_cmp (pc_dnotin hu (pv 1) (pe_fld (pv 0) rfl)) rfl) (pw_or1 (pt_cmp (pc_dnotin hu (pv 2) (pe_fld (pv 0) rfl)) rfl)))) (pss_one (ps_ret (pe_lst (pa_cons (pe_gint T.c_NOT_THERE) pa_nil)))) pss_nil)
   (pss_cons (ps_set (i:=4) nd rfl (Or.inl rfl) (pe_dget hu (pe_fld (pv 0) rfl) (pv 1) (fun _ _=>rfl)))
   (pss_cons (ps_if (pt_cmpR op_notIn_seq (pv 2) (pe_fld (pv 4) rfl) rfl) (pss_one (ps_ret (pe_lst (pa_cons (pe_gint T.c_NOT_TOUCHED) pa_nil)))) pss_nil)
   (pss_cons (ps_set (i:=5) nd rfl (Or.inl rfl) (pe_op op_add (pe_bm PySem.F.plainAttrs_list PySem.F.slot_list_index PySem.F.type_list_index mt_index (pe_fld (pv 4) rfl) (pa_cons (pv 2) pa_nil)) pe_int))
   (pss_cons (ps_setLc (i:=6) rfl nd rfl rfl (sw_true rfl rfl rfl rfl) (pi_list (pe_fld (pv 4) rfl)) (blkOk_by (own:=[("other",7)]) (by simp only [Cx.nox,Cx.wish,cxOf,envOfC]; decide +kernel)) (fun _ _ _ _ _=>pg_name (i:=7) nd rfl (Or.inl rfl)) (fun _ _ _ _ _=>(pts_one (pt_cmpR op_ne (pv 7) (pv 2) (nomark _)))) (fun _ _ _ _ _=>(pv 7)))
   (pss_cons (ps_fld (pv 4) (pe_op op_cat (pe_op op_cat (pe_slice sl_list (pv 6) po_none (po_some (pe_op op_sub (pv 3) pe_int))) (pe_lst (pa_cons (pv 2) pa_nil))) (pe_slice sl_list (pv 6) (po_some (pe_op op_sub (pv 3) pe_int)) po_none)) rfl)
   (pss_one (ps_ret (pe_lst (pa_cons (pv 5) pa_nil))))))))))),?_⟩
 try simp only [Cx.nox,Cx.wish,cxOf]
 have hx:=ho.hx hR
 obtain ⟨dx,hp⟩:=ho.o
 have hstep:Vbchak.step s (.place a g n)=if (keyed a && (keyed g && within n 1 Vbchak.GROUPS))=false then (s,[-1]) else Vbchak.onAccount s a fun a=>Vbchak.onGroup s g fun g=>if a.row.contains g.key=false then (s,[-7]) else (Vbchak.setAccount s { a with row:=Vbchak.putAt g.key (n.toNat - 1) (a.row.filter fun k=>k != g.key) },[(((a.row.takeWhile fun k=>k != g.key).length + 1:Nat):Int)]):=rfl
 have out1:(keyed a && (keyed g && within n 1 Vbchak.GROUPS))=false→∀ z,H z=none→Q (.ref z) (upd H z (.lst [.int (-1)])):=fun h z hz=>by
  rw [hstep,if_pos h] at k
  exact k.no ho hR (Same.refl _) hz rfl
 walk_at "4"
 cases hk:keyed a with
 | false =>
  refine iteF (iteT ?_)
  walk_at "4"
  exact r_kL (by show 1≤1000; decide) (out1 (by rw [hk]; rfl))
 | true =>
  refine iteT ?_
  walk_at "4"
  cases hg:keyed g with
  | false =>
   refine iteF (iteT ?_)
   walk_at "4"
   exact r_kL (by show 1≤1000; decide) (out1 (by rw [hk,hg]; rfl))
  | true =>
   refine iteT ?_
   walk_at "4"
   cases hn:within n 1 Vbchak.GROUPS with
   | false =>
    refine iteT ?_
    walk_at "4"
    exact r_kL (by show 1≤1000; decide) (out1 (by rw [hk,hg,hn]; rfl))
   | true =>
    refine iteF ?_
    rw [if_neg (by rw [hk,hg,hn]; decide)] at hstep
    obtain ⟨m,rfl,em,_⟩:=keyed_nat hk
    obtain ⟨gk,rfl,eg,_⟩:=keyed_nat hg
    obtain ⟨nn,rfl,enn,hnn1,_⟩:=within_nat hn
    walk_at "4"
    refine r_kF hp T.k_House T.n_House_accounts lH_a ?_
    refine r_kDN (j:=(m:Int)) hx.at_.da ?_
    walk_at "4"
    cases ha:accountAt s m with
    | none =>
     rw [da_none hR ha]
     refine iteT (iteT ?_)
     walk_at "4"
     rw [hstep,onAccount_4 (by rw [Int.toNat_natCast]; exact ha)] at k
     exact r_kL (by show 1≤1000; decide) fun z hz0=>k.no ho hR (Same.refl _) hz0 rfl
    | some x0 =>
     rw [da_there hR ha]
     refine iteF ?_
     rw [onAccount_a (by rw [Int.toNat_natCast]; exact ha)] at hstep
     walk_at "4"
     refine r_kF hp T.k_House T.n_House_groups lH_g ?_
     refine r_kDN (j:=(gk:Int)) hx.at_.dg ?_
     walk_at "4"
     cases hgr:groupAt s gk with
     | none =>
      rw [dg_none hR hgr]
      refine iteT ?_
      walk_at "4"
      rw [hstep,onGroup_4 hg (by rw [Int.toNat_natCast]; exact hgr)] at k
      exact r_kL (by show 1≤1000; decide) fun z hz0=>k.no ho hR (Same.refl _) hz0 rfl
     | some y =>
      rw [dg_there hR hgr]
      refine iteF ?_
      rw [onGroup_g hg (by rw [Int.toNat_natCast]; exact hgr),Int.toNat_natCast] at hstep
      obtain ⟨hxm0,hxk⟩:=accountAt_some ha
      obtain ⟨hym,hyk⟩:=groupAt_some hgr
      subst hxk hyk
      obtain ⟨x,hxm,rfl⟩:=lay_acc hR hxm0
      have hO:=ho.as x hxm
      obtain ⟨da,hao⟩:=hO.o
      have hok:=hR.good.acc x.acc hxm0
      have hrl:=row_len hR.good hxm0
      walk_at "4"
      refine r_kF hp T.k_House T.n_House_accounts lH_a ?_
      walk_at "4"
      refine r_kDG (j:=(x.acc.key:Int)) hx.at_.da (da_at hR hxm) ?_
      walk_at "4"
      refine r_kF hao T.k_Account T.n_Account_row lA_r ?_
      refine ⟨_,_,rfl,.inl (.inl (.inl hO.ro)),rfl,flat_map _,?_⟩
      walk_at "4"
      show if (!inV (vI y.key) (x.acc.row.map vI))=true then _ else _
      rw [inV_nat]
      cases hc:x.acc.row.contains y.key with
      | false =>
       rw [hstep,if_pos hc] at k
       refine iteT ?_
       walk_at "4"
       exact r_kL (by show 1≤1000; decide) fun z hz0=>k.no ho hR (Same.refl _) hz0 rfl
      | true =>
       rw [hstep,if_neg (by rw [hc]; decide)] at k
       refine iteF ?_
       have hin:y.key∈x.acc.row:=List.contains_iff_mem.mp hc
       obtain ⟨t1,t2,t3⟩:=tw_idx hin
       walk_at "4"
       refine r_kF hao T.k_Account T.n_Account_row lA_r ?_
       refine r_kBl (.inl (.inl hO.ro)) ?_
       walk_at "4"
       refine ⟨_,_,_,(x.acc.row.takeWhile fun x=>x != y.key).length,vI y.key,rfl,rfl,.inl (.inl hO.ro),rfl,flat_map _,by rw [List.getElem?_map,t1]; rfl,(by show ((y.key:Int) == (y.key:Int))=true; exact beq_self_eq_true _),fun m z hm hz=>?_,?_⟩
       ·obtain ⟨n',hn',rfl⟩:=map_at hz
        have:=t3 m n' hm hn'
        show ((n':Int) == (y.key:Int))=false
        rw [beq_eq_false_iff_ne]
        omega
       walk_at "4"
       refine r_kF hao T.k_Account T.n_Account_row lA_r ?_
       refine r_kLc (i:=7) (xs:=x.acc.row.map vI) (notK y.key) (fun v=>v) (.inl (.inl hO.ro)) (by rw [List.length_map]; omega) (fun v hv H4 Qb s5 qb=>?_) (fun v hv _ H4 Q' s5 qb=>r_var rfl qb) (fun D hD0=>?_)
       ·obtain ⟨n',hn',rfl⟩:=List.mem_map.mp hv
        walk_at "4"
        refine r_neI (a:=(n':Int)) (b:=(y.key:Int)) ?_
        walk_at "4"
        exact qb
       rw [notK_map]
       have hol:(x.acc.row.filter fun j=>j != y.key).length≤24:=Nat.le_trans (List.length_filter_le _ _) hrl
       have e1:(nn:Int) - 1=((nn - 1:Nat):Int):=by omega
       have s1:Same H (upd H D (.lst ((x.acc.row.filter fun j=>j != y.key).map vI))):=same_new hD0
       have hD1:upd H D (.lst ((x.acc.row.filter fun j=>j != y.key).map vI)) D=some (.lst ((x.acc.row.filter fun j=>j != y.key).map vI)):=upd_same
       generalize upd H D (.lst ((x.acc.row.filter fun j=>j != y.key).map vI))=H1 at s1 hD1 ⊢
       walk_at "4"
       rw [e1]
       refine r_kSl (.inl (.inl hD1)) fun z1 hz1=>?_
       rw [cut_take',← List.map_take]
       have s2:=same_new (o:=.lst (((x.acc.row.filter fun j=>j != y.key).take (nn - 1)).map vI)) hz1
       have h21:upd H1 z1 (.lst (((x.acc.row.filter fun j=>j != y.key).take (nn - 1)).map vI)) z1=some (.lst (((x.acc.row.filter fun j=>j != y.key).take (nn - 1)).map vI)):=upd_same
       generalize upd H1 z1 (.lst (((x.acc.row.filter fun j=>j != y.key).take (nn - 1)).map vI))=H2 at s2 h21 ⊢
       walk_at "4"
       refine r_kL (by show 1≤1000; decide) fun z2 hz2=>?_
       have s3:=same_new (o:=.lst [V.int (y.key:Int)]) hz2
       have h32:upd H2 z2 (.lst [V.int (y.key:Int)]) z2=some (.lst [V.int (y.key:Int)]):=upd_same
       generalize upd H2 z2 (.lst [V.int (y.key:Int)])=H3 at s3 h32 ⊢
       have htl:=take_len_le (x.acc.row.filter fun j=>j != y.key) (nn - 1)
       refine ⟨z1,z2,_,_,rfl,rfl,s3 _ _ h21,h32,Nat.le_of_lt (small1000 (by rw [List.length_map]; show _ + 1≤1000; omega)),fun z3 hz3=>?_⟩
       have s4:=same_new (o:=.lst (((x.acc.row.filter fun j=>j != y.key).take (nn - 1)).map vI++[V.int (y.key:Int)])) hz3
       have h43:upd H3 z3 (.lst (((x.acc.row.filter fun j=>j != y.key).take (nn - 1)).map vI++[V.int (y.key:Int)])) z3=some (.lst (((x.acc.row.filter fun j=>j != y.key).take (nn - 1)).map vI++[V.int (y.key:Int)])):=upd_same
       generalize upd H3 z3 (.lst (((x.acc.row.filter fun j=>j != y.key).take (nn - 1)).map vI++[V.int (y.key:Int)]))=H4 at s4 h43 ⊢
       walk_at "4"
       rw [e1]
       refine r_kSl (.inl (.inl (s4 _ _ (s3 _ _ (s2 _ _ hD1))))) fun z4 hz4=>?_
       rw [cut_drop,← List.map_drop]
       have s5:=same_new (o:=.lst (((x.acc.row.filter fun j=>j != y.key).drop (nn - 1)).map vI)) hz4
       have h54:upd H4 z4 (.lst (((x.acc.row.filter fun j=>j != y.key).drop (nn - 1)).map vI)) z4=some (.lst (((x.acc.row.filter fun j=>j != y.key).drop (nn - 1)).map vI)):=upd_same
       generalize upd H4 z4 (.lst (((x.acc.row.filter fun j=>j != y.key).drop (nn - 1)).map vI))=H5 at s5 h54 ⊢
       have hdl:((x.acc.row.filter fun j=>j != y.key).drop (nn - 1)).length≤24:=by rw [List.length_drop]; omega
       refine ⟨z3,z4,_,_,rfl,rfl,s5 _ _ h43,h54,Nat.le_of_lt (small1000 (by rw [List.length_append,List.length_map,List.length_map]; show _ + 1 + _≤1000; omega)),fun z5 hz5=>?_⟩
       have s15:Same H H5:=s1.trans (s2.trans (s3.trans (s4.trans s5)))
       have hlist:((x.acc.row.filter fun j=>j != y.key).take (nn - 1)).map vI++[V.int (y.key:Int)]++((x.acc.row.filter fun j=>j != y.key).drop (nn - 1)).map vI=(Vbchak.putAt y.key (nn - 1) (x.acc.row.filter fun j=>j != y.key)).map vI:=by
        rw [putAt_eq,List.map_append,List.map_append]
        rfl
       rw [hlist]
       have s6:=s15.trans (same_new (o:=.lst ((Vbchak.putAt y.key (nn - 1) (x.acc.row.filter fun j=>j != y.key)).map vI)) hz5)
       have h65:upd H5 z5 (.lst ((Vbchak.putAt y.key (nn - 1) (x.acc.row.filter fun j=>j != y.key)).map vI)) z5=some (.lst ((Vbchak.putAt y.key (nn - 1) (x.acc.row.filter fun j=>j != y.key)).map vI)):=upd_same
       have hz5H:H z5=none:=s15.free hz5
       generalize upd H5 z5 (.lst ((Vbchak.putAt y.key (nn - 1) (x.acc.row.filter fun j=>j != y.key)).map vI))=H6 at s6 h65 ⊢
       walk_at "4"
       refine r_kSF (s6 _ _ hao) T.k_Account T.n_Account_row (by show 3 < 1000; decide) ?_
       have pf3:putF "row" (V.ref z5) (fA x.am x.li x.ro)=fA x.am x.li z5:=(pf2 (by decide +kernel)).trans (congrArg _ ((pf2 (by decide +kernel)).trans (congrArg _ pf1)))
       rw [pf3]
       walk_at "4"
       refine r_kL (by show 1≤1000; decide) fun z hz0=>?_
       obtain ⟨pre,post,eL⟩:=split_at hxm
       have hpl:=place_row hok.nd hin (nn - 1)
       have hRs:=hR.set hxm0 (b:={ x.acc with row:=Vbchak.putAt y.key (nn - 1) (x.acc.row.filter fun j=>j != y.key) }) rfl ⟨hok.k1,hok.k2,hok.h4,hok.l4,hpl.1,hok.lim⟩ hpl.2
       have ho6:=ho.same s6
       rw [eL] at ho ho6 hR hRs k
       have nx:In1 _ x:=ho.in1 x (List.mem_append_right _ (List.mem_cons_self ..))
       have xz5:x.a≠z5:=ne_of_none hao hz5H
       have hO6:=ho6.as x (List.mem_append_right _ (List.mem_cons_self ..))
       have hO':=ho.put (x':=⟨x.a,x.am,x.li,z5,{ x.acc with row:=Vbchak.putAt y.key (nn - 1) (x.acc.row.filter fun j=>j != y.key) }⟩) (H':=upd H6 x.a (.ins c.acc da (fA x.am x.li z5))) rfl rfl (fun b o e h1 h2 h3 h4=>by rw [upd_ne h1]; exact s6 _ _ e)
        ⟨⟨da,upd_same⟩,by show upd H6 x.a _ x.am=_; rw [upd_ne (ne_of hO6.am (s6 _ _ hao) (by intro z; cases z))]; exact hO6.am,by show upd H6 x.a _ x.li=_; rw [upd_ne (ne_of hO6.li (s6 _ _ hao) (by intro z; cases z))]; exact hO6.li,by show upd H6 x.a _ z5=_; rw [upd_ne (Ne.symm xz5)]; exact h65⟩ (.inl rfl) (.inl rfl) (.inr hz5H) nx.ml
       ·have hst:=st_put (x':=⟨x.a,x.am,x.li,z5,{ x.acc with row:=Vbchak.putAt y.key (nn - 1) (x.acc.row.filter fun j=>j != y.key) }⟩) hR (f:=fun a=>if a.key=x.acc.key then { x.acc with row:=Vbchak.putAt y.key (nn - 1) (x.acc.row.filter fun j=>j != y.key) } else a) (fun a e=>by rw [if_neg e]) (by rw [if_pos rfl])
        refine k.yes hO' (by rw [hst]; exact hRs) (fun b o e hb=>by rw [upd_ne (fun z=>hb (.inr (.inr (.inl ⟨x,List.mem_append_right _ (List.mem_cons_self ..),.inl z⟩))))]; exact s6 _ _ e) (ft_put rfl (.inl rfl) (.inl rfl) (.inr hz5H)) (fun b o e=>?_) hz0 rfl
        by_cases hb:b=x.a
        ·exact ⟨_,by rw [hb,upd_same]⟩
        ·exact ⟨o,by rw [upd_ne hb]; exact s6 _ _ e⟩
end
theorem O0.putN {c:Cs} {H H':Hp} {p pa pg:Addr} {pre post:List AccL} {gs:List GrpL} {x x':AccL} (h:O0 c H p ⟨pa,pg,pre++x::post,gs⟩) (hk:x'.acc.key=x.acc.key) (ha:x'.a=x.a)
  (keep:∀ b o,H b=some o→b≠x.a→b≠x.am→b≠x.li→b≠x.ro→H' b=some o) (hx:AccO c H' x') (nam:x'.am=x.am∨¬ Ft ⟨pa,pg,pre++x::post,gs⟩ x'.am) (nli:x'.li=x.li∨¬ Ft ⟨pa,pg,pre++x::post,gs⟩ x'.li) (nro:x'.ro=x.ro∨(¬ Ft ⟨pa,pg,pre++x::post,gs⟩ x'.ro∧∀ z,z∈gs→x'.ro≠z.le)) (ne:x'.am≠x'.li) :
  O0 c H' p ⟨pa,pg,pre++x'::post,gs⟩:=by
 have hxm:x∈pre++x::post:=List.mem_append_right _ (List.mem_cons_self ..)
 have hxo:=h.as x hxm
 have hxi:=h.in1 x hxm
 obtain ⟨dx,hxa⟩:=hxo.o
 obtain ⟨ap1,ap2,ap3⟩:=List.pairwise_append.mp h.ap
 obtain ⟨ap4,ap5⟩:=List.pairwise_cons.mp ap2
 have old:∀ y,y∈pre∨y∈post→y∈pre++x::post:=fun y hy=>by
  rcases hy with hy | hy
  ·exact List.mem_append_left _ hy
  ·exact List.mem_append_right _ (List.mem_cons_of_mem _ hy)
 have apx:∀ y,y∈pre∨y∈post→(y.a≠x.a∧y.am≠x.am∧y.li≠x.li∧y.ro≠x.ro∧y.am≠x.li∧y.li≠x.am):=fun y hy=>by
  rcases hy with hy | hy
  ·have q:=ap3 y hy x (List.mem_cons_self ..)
   exact ⟨q.a,q.am,q.li,q.ro,q.ml,q.lm⟩
  ·have q:=ap4 y hy
   exact ⟨Ne.symm q.a,Ne.symm q.am,Ne.symm q.li,Ne.symm q.ro,Ne.symm q.lm,Ne.symm q.ml⟩
 have kD:∀ b kvs,H b=some (.dK kvs)→b≠x.am→b≠x.li→H' b=some (.dK kvs):=fun b kvs e h1 h2=>keep b _ e (ne_of e hxa (by intro z; cases z)) h1 h2 (ne_of e hxo.ro (by intro z; cases z))
 have kL:∀ b xs,H b=some (.lst xs)→b≠x.ro→H' b=some (.lst xs):=fun b xs e h1=>keep b _ e (ne_of e hxa (by intro z; cases z)) (ne_of e hxo.am (by intro z; cases z)) (ne_of e hxo.li (by intro z; cases z)) h1
 have kI':∀ b C dx fs,H b=some (.ins C dx fs)→b≠x.a→H' b=some (.ins C dx fs):=fun b C dx fs e h1=>keep b _ e h1 (ne_of e hxo.am (by intro z; cases z)) (ne_of e hxo.li (by intro z; cases z)) (ne_of e hxo.ro (by intro z; cases z))
 have others:∀ y,y∈pre∨y∈post→AccO c H' y:=fun y hy=>by
  have q:=h.as y (old y hy)
  obtain ⟨a1,a2,a3,a4,a5,a6⟩:=apx y hy
  obtain ⟨dy,hy'⟩:=q.o
  exact ⟨⟨dy,kI' _ _ _ _ hy' a1⟩,kD _ _ q.am a2 a5,kD _ _ q.li a6 a3,kL _ _ q.ro a4⟩
 have apn:∀ y,y∈pre∨y∈post→Ap y x':=fun y hy=>by
  have q:=h.as y (old y hy)
  obtain ⟨a1,a2,a3,a4,a5,a6⟩:=apx y hy
  refine ⟨by rw [ha]; exact a1,?_,?_,?_,?_,?_⟩
  ·rcases nam with e | e
   ·rw [e]; exact a2
   ·exact fun z=>e (.inr (.inr (.inl ⟨y,old y hy,.inr (.inl z.symm)⟩)))
  ·rcases nli with e | e
   ·rw [e]; exact a3
   ·exact fun z=>e (.inr (.inr (.inl ⟨y,old y hy,.inr (.inr (.inl z.symm))⟩)))
  ·rcases nro with e | e
   ·rw [e]; exact a4
   ·exact fun z=>e.1 (.inr (.inr (.inl ⟨y,old y hy,.inr (.inr (.inr z.symm))⟩)))
  ·rcases nli with e | e
   ·rw [e]; exact a5
   ·exact fun z=>e (.inr (.inr (.inl ⟨y,old y hy,.inr (.inl z.symm)⟩)))
  ·rcases nam with e | e
   ·rw [e]; exact a6
   ·exact fun z=>e (.inr (.inr (.inl ⟨y,old y hy,.inr (.inr (.inl z.symm))⟩)))
 refine ⟨?_,?_,kD _ _ h.eg (Ne.symm hxi.mg) (Ne.symm hxi.lg),fun y hy=>?_,fun z hz=>?_,?_,fun y hy=>?_,h.gp,h.pp⟩
 ·obtain ⟨dp,hp⟩:=h.o
  refine ⟨dp,kI' _ _ _ _ hp (ne_of hp hxa fun e=>?_)⟩
  have e2:2=3:=congrArg List.length (HO.ins.inj e).2.2
  omega
 ·have e:(⟨pa,pg,pre++x'::post,gs⟩:Lay).da=(⟨pa,pg,pre++x::post,gs⟩:Lay).da:=by
   show (pre++x'::post).map _=(pre++x::post).map _
   rw [List.map_append,List.map_append,List.map_cons,List.map_cons,hk,ha]
  rw [e]
  exact kD _ _ h.ea (Ne.symm hxi.ma) (Ne.symm hxi.la)
 ·rcases List.mem_append.mp hy with hy | hy
  ·exact others y (.inl hy)
  ·rcases List.mem_cons.mp hy with rfl | hy
   ·exact hx
   ·exact others y (.inr hy)
 ·have q:=h.gs z hz
  obtain ⟨dz,hz'⟩:=q.o
  refine ⟨⟨dz,kI' _ _ _ _ hz' (ne_of hz' hxa fun e=>?_)⟩,kL _ _ q.le (Ne.symm (hxi.rl z hz)),Paired.mapP q.legs fun a l ⟨dl,hl⟩=>⟨dl,kI' _ _ _ _ hl (ne_of hl hxa fun e=>?_)⟩⟩
  ·have e2:2=3:=congrArg List.length (HO.ins.inj e).2.2
   omega
  ·have e2:4=3:=congrArg List.length (HO.ins.inj e).2.2
   omega
 ·refine List.pairwise_append.mpr ⟨ap1,List.pairwise_cons.mpr ⟨fun z hz=>?_,ap5⟩,fun y hy z hz=>?_⟩
  ·have q:=apn z (.inr hz)
   exact ⟨Ne.symm q.a,Ne.symm q.am,Ne.symm q.li,Ne.symm q.ro,Ne.symm q.lm,Ne.symm q.ml⟩
  ·rcases List.mem_cons.mp hz with rfl | hz
   ·exact apn y (.inl hy)
   ·exact ap3 y hy z (List.mem_cons_of_mem _ hz)
 ·have key:∀ y,y∈pre∨y∈post→In1 ⟨pa,pg,pre++x'::post,gs⟩ y:=fun y hy=>by
   have q:=h.in1 y (old y hy)
   exact ⟨q.ml,q.ma,q.mg,q.la,q.lg,q.rl⟩
  rcases List.mem_append.mp hy with hy | hy
  ·exact key y (.inl hy)
  ·rcases List.mem_cons.mp hy with rfl | hy
   ·refine ⟨ne,?_,?_,?_,?_,fun z hz=>?_⟩
    ·rcases nam with e | e
     ·rw [e]; exact hxi.ma
     ·exact fun z=>e (.inl z)
    ·rcases nam with e | e
     ·rw [e]; exact hxi.mg
     ·exact fun z=>e (.inr (.inl z))
    ·rcases nli with e | e
     ·rw [e]; exact hxi.la
     ·exact fun z=>e (.inl z)
    ·rcases nli with e | e
     ·rw [e]; exact hxi.lg
     ·exact fun z=>e (.inr (.inl z))
    ·rcases nro with e | e
     ·rw [e]; exact hxi.rl z hz
     ·exact e.2 z hz
   ·exact key y (.inr hy)
theorem O0.dropG {c:Cs} {H H':Hp} {p:Addr} {L:Lay} (h:O0 c H p L) (f:GrpL→Bool) (keep:∀ b o,H b=some o→b≠L.pg→H' b=some o) (hg:H' L.pg=some (.dK ((L.gs.filter f).map fun x=>(kI x.grp.key,.ref x.g)))):O0 c H' p ⟨L.pa,L.pg,L.as,L.gs.filter f⟩:=by
 have kk:∀ b o,H b=some o→(∀ kvs,o ≠ .dK kvs)→H' b=some o:=fun b o e hn=>keep b o e (ne_of e h.eg (hn _))
 refine ⟨?_,keep _ _ h.ea h.pp,hg,fun y hy=>?_,fun z hz=>?_,h.ap,fun y hy=>?_,h.gp.sublist List.filter_sublist,h.pp⟩
 ·obtain ⟨dx,e⟩:=h.o
  exact ⟨dx,kk _ _ e (fun _ q=>by cases q)⟩
 ·have q:=h.as y hy
  have i:=h.in1 y hy
  obtain ⟨dx,e⟩:=q.o
  exact ⟨⟨dx,kk _ _ e (fun _ q=>by cases q)⟩,keep _ _ q.am i.mg,keep _ _ q.li i.lg,kk _ _ q.ro (fun _ q=>by cases q)⟩
 ·have q:=h.gs z (List.mem_filter.mp hz).1
  obtain ⟨dx,e⟩:=q.o
  exact ⟨⟨dx,kk _ _ e (fun _ q=>by cases q)⟩,kk _ _ q.le (fun _ q=>by cases q),Paired.mapP q.legs fun a l ⟨dl,hl⟩=>⟨dl,kk _ _ hl (fun _ q=>by cases q)⟩⟩
 ·have i:=h.in1 y hy
  exact ⟨i.ml,i.ma,i.mg,i.la,i.lg,fun z hz=>i.rl z (List.mem_filter.mp hz).1⟩
theorem dropK_map {α:Type} {f:α→Nat} {g:α→V} (k:Nat):∀ l:List α,dropK (l.map fun x=>(kI (f x),g x)) (kI k)=(l.filter fun x=>f x != k).map fun x=>(kI (f x),g x)
 | []=>rfl
 | x::l=>by
  rw [List.map_cons]
  by_cases e:f x=k
  ·rw [dropK_pos (by rw [e]),dropK_map k l,List.filter_cons,if_neg (by simp [e])]
  ·rw [dropK_neg (fun q=>e (kI_inj q)),dropK_map k l,List.filter_cons,if_pos (by simp [e]),List.map_cons]
def strip (ks:List Nat) (a:Account):Account:={ a with row:=a.row.filter fun k=>!ks.contains k }
section
variable {P:Program} {w:World} {K:PySem.W.Frag} {mg:Str→Option Value} {base:Heap} {c:Cs}
def spTake (c:Cs):Sp:=fun vs H Q _=>∃ (p d:Addr) (L:Lay) (ks:List Nat),vs=[.ref p,.ref d]∧O0 c H p L∧SetAt H d ks∧¬ Ft L d∧ks.Nodup∧(L.gs.map fun x=>x.grp.key).Nodup∧(∀ k,k∈ks→∃ y,y∈L.gs∧y.grp.key=k)∧(∀ y,y∈L.as→y.acc.row.length≤1000) ∧
 ∀ H' L',O0 c H' p L'→L'.st=⟨L.st.accounts.map (strip ks),L.st.groups.filter fun g=>!ks.contains g.key⟩→(∀ b o,H b=some o→¬ Ft L b→H' b=some o)→(∀ b,Ft L' b→Ft L b∨H b=none)→(∀ b o,H b=some o→∃ o',H' b=some o')→Q .non H'
theorem fn_take_out (T:Txt K mg c):Fn P w K mg base "take_out" 1 ["house","gone"] (spTake c):=by
 refine T.f_take_out.fn sc_take_out (fun vs H Q E h=>?_) (fun f cdv A outer sh H vs Q E hr h=>?_)
 ·obtain ⟨p,d,L,ks,rfl,_⟩:=h
  rfl
 obtain ⟨p,d,L,ks,rfl,ho,hd,hdf,hkn,hgn,hkg,hrl,k⟩:=h
 have hu:=hu_of hr
 have nd:=sc_take_out.nd
 refine ⟨_,(pss_cons (ps_lock (ps_for PassesOwn.never rfl (pi_keys (pv 1)) (pg_name (i:=2) nd rfl (Or.inl rfl)) (pss_one (ps_expr (pe_dpop1 (pe_fld (pv 0) rfl) (pv 2) ⟨rfl,rfl,rfl,rfl⟩)))))
   (pss_one (ps_lock (ps_for PassesOwn.never rfl (pi_values (pe_fld (pv 0) rfl)) (pg_name (i:=3) nd rfl (Or.inl rfl)) (pss_one (ps_fld (pv 3) (pe_lc rfl nd (pi_list (pe_fld (pv 3) rfl)) (blkOk_by (own:=[("key",2)]) (by simp only [Cx.nox,Cx.wish,cxOf,envOfC]; decide +kernel)) (fun _ _ _ _ _=>pg_name (i:=2) nd rfl (Or.inl rfl)) (fun _ _ _ _ _=>(pts_one (pt_cmp (pc_dnotin hu (pv 2) (pv 1)) rfl))) (fun _ _ _ _ _=>(pv 2))) rfl)))))),?_⟩
 try simp only [Cx.nox,Cx.wish,cxOf]
 obtain ⟨dx,hp⟩:=ho.o
 have dpg:d≠L.pg:=fun e=>hdf (.inr (.inl e))
 have dpa:d≠L.pa:=fun e=>hdf (.inl e)
 walk_at "4"
 refine r_for_keys hd (fun R H' q=>r_var rfl q) (fun od j σ' H'=>∃ v2,σ'=[some (.ref p),some (.ref d),v2,none]∧H' L.pg=some (.dK ((L.gs.filter fun y=>!(ks.take j).contains y.grp.key).map fun x=>(kI x.grp.key,.ref x.g)))∧(∀ b o,upd H d (.frz od (.dK (sdk ks))) b=some o→b≠L.pg→H' b=some o))
  (fun od=>⟨none,rfl,?_,fun b o e _=>e⟩) (fun od j σ' H' ⟨_,_,_,kp⟩=>kp _ _ upd_same dpg) ?_ ?_
 ·rw [upd_ne (Ne.symm dpg),ho.eg]
  show some (HO.dK (L.gs.map _))=_
  have e0:(L.gs.filter fun y=>!(ks.take 0).contains y.grp.key)=L.gs:=List.filter_eq_self.mpr (fun _ _=>rfl)
  rw [e0]
 ·rintro od j k' v' σ' H' D2 hkv ⟨v2,rfl,hg,kp⟩ hD
  obtain ⟨n,hn,rfl⟩:=key_at (sdk_keys ks) hkv
  obtain ⟨y,hy,hyk⟩:=hkg n (List.mem_of_getElem? hn)
  subst hyk
  have hp':=kp _ _ (ins_lock hd hp) (ne_of hp ho.eg (by intro z; cases z))
  have hyf:y∈L.gs.filter fun y=>!(ks.take j).contains y.grp.key:=List.mem_filter.mpr ⟨hy,by
   rw [Bool.not_eq_true',← Bool.not_eq_true,List.contains_iff_mem]
   exact not_taken hkn hn⟩
  walk_at "4"
  refine r_fld (r_var rfl (r_kF hp' T.k_House T.n_House_groups lH_g ⟨L.pg,rfl,.inl ⟨_,.inl hg⟩,?_⟩))
  walk_at "4"
  refine ⟨_,kI y.grp.key,.ref y.g,hg,rfl,valV_map (f:=fun x:GrpL=>x.grp.key) (hgn.sublist (List.filter_sublist.map _)) hyf,?_⟩
  refine hD _ _ ⟨_,rfl,?_,fun b o e hb=>by rw [upd_ne hb]; exact kp b o e hb⟩
  rw [upd_same,dropK_map (f:=fun x:GrpL=>x.grp.key) (g:=fun x:GrpL=>V.ref x.g),List.filter_filter,take_snoc hn]
  congr 3
  refine List.filter_congr fun z _=>?_
  rw [List.contains_append]
  show (z.grp.key != y.grp.key && !(ks.take j).contains z.grp.key) = !((ks.take j).contains z.grp.key || (z.grp.key == y.grp.key || false))
  rw [Bool.not_or,Bool.or_false,Bool.and_comm]
  rfl
 ·rintro od σ' H' ⟨v2,rfl,hg,kp⟩
  rw [show (sdk ks).length=ks.length from sdk_len ks,List.take_length] at hg
  have hpgH1:upd H' d (.dK (sdk ks)) L.pg=some (.dK ((L.gs.filter fun y=>!ks.contains y.grp.key).map fun x=>(kI x.grp.key,.ref x.g))):=by rw [upd_ne (Ne.symm dpg)]; exact hg
  have k1:∀ b o,H b=some o→b≠L.pg→upd H' d (.dK (sdk ks)) b=some o:=fun b o e hb=>by
   by_cases hbd:b=d
   ·subst hbd
    rw [upd_same,← e]
    exact hd.symm
   ·rw [upd_ne hbd]
    exact kp b o (by rw [upd_ne hbd]; exact e) hb
  have t1:∀ b o,upd H' d (.dK (sdk ks)) b=none→H b≠some o:=fun b o e q=>by
   by_cases hb:b=L.pg
   ·rw [hb,hpgH1] at e; cases e
   ·rw [k1 b o q hb] at e; cases e
  generalize upd H' d (.dK (sdk ks))=H1 at hpgH1 k1 t1 ⊢
  have o1:=ho.dropG (fun y=>!ks.contains y.grp.key) k1 hpgH1
  have hd1:=k1 _ _ hd dpg
  obtain ⟨dx1,hp1⟩:=o1.o
  walk_at "4"
  refine r_for_vals o1.ea (fun od R q=>r_fld (r_var rfl (r_kF (ins_lock o1.ea hp1) T.k_House T.n_House_accounts lH_a q)))
   (fun od j σ' H'=>∃ v2 v3 asj,σ'=[some (.ref p),some (.ref d),v2,v3]∧H' L.pa=some (.frz od (.dK L.da))∧O0 c (upd H' L.pa (.dK L.da)) p ⟨L.pa,L.pg,asj++L.as.drop j,L.gs.filter fun y=>!ks.contains y.grp.key⟩∧asj.map (·.acc)=(L.as.take j).map (fun x=>strip ks x.acc) ∧
     (∀ y,y∈asj→(∃ x,x∈L.as∧y.a=x.a∧y.am=x.am∧y.li=x.li)∧H y.ro=none)∧(∀ b o,H1 b=some o→b≠L.pa→(∀ y,y∈L.as→b≠y.a)→H' b=some o)∧(∀ b o,H1 b=some o→∃ o',H' b=some o'))
   (fun od=>⟨_,_,[],rfl,upd_same,?_,rfl,fun y h=>(by cases h),fun b o e hb _=>by rw [upd_ne hb]; exact e,fun b o e=>?_⟩) (fun od j σ' H' ⟨_,_,_,_,h,_⟩=>h) ?_ ?_
  ·rw [upd_upd]
   have e:upd H1 L.pa (.dK L.da)=H1:=by
    funext b
    by_cases hb:b=L.pa
    ·rw [hb,upd_same]; exact o1.ea.symm
    ·rw [upd_ne hb]
   rw [e]
   exact o1
  ·by_cases hb:b=L.pa
   ·exact ⟨_,by rw [hb,upd_same]⟩
   ·exact ⟨o,by rw [upd_ne hb]; exact e⟩
  ·rintro od j k' v' σ' H' D2 hkv ⟨v2',v3',asj,rfl,hpa,hO,hacc,hasj,kp2,th2⟩ hD
   obtain ⟨x,hxj,e⟩:=map_at (f:=fun x:AccL=>(kI x.acc.key,V.ref x.a)) hkv
   cases e
   have hxm:x∈L.as:=List.mem_of_getElem? hxj
   have hdrop:L.as.drop j=x::L.as.drop (j + 1):=by
    have hlt:=(List.getElem?_eq_some_iff.mp hxj)
    obtain ⟨hl,he⟩:=hlt
    rw [List.drop_eq_getElem_cons hl,he]
   rw [hdrop] at hO
   have hxO:=hO.as x (List.mem_append_right _ (List.mem_cons_self ..))
   have unl:∀ b o,upd H' L.pa (.dK L.da) b=some o→b≠L.pa→H' b=some o:=fun b o e hb=>by rw [upd_ne hb] at e; exact e
   obtain ⟨dx2,hxo⟩:=hxO.o
   have hxa2:x.a≠L.pa:=ne_of hxo hO.ea (by intro z; cases z)
   have hxo':=unl _ _ hxo hxa2
   have hro':=unl _ _ hxO.ro (ne_of hxO.ro hO.ea (by intro z; cases z))
   have hd2:H' d=some (.dK (sdk ks)):=kp2 _ _ hd1 dpa (fun y hy e=>hdf (.inr (.inr (.inl ⟨y,hy,.inl e⟩))))
   walk_at "4"
   refine r_kF hxo' T.k_Account T.n_Account_row lA_r ?_
   refine r_kLc (i:=2) (xs:=x.acc.row.map vI) (fun v=>!(valV (sdk ks) (keyV v)).isSome) (fun v=>v) (.inl (.inl hro')) (by rw [List.length_map]; exact hrl x hxm) (fun v hv H4 Qb s5 qb=>?_) (fun v hv _ H4 Q' s5 qb=>r_var rfl qb) (fun D hD0=>?_)
   ·obtain ⟨n',hn',rfl⟩:=List.mem_map.mp hv
    exact r_tB (r_dnin (r_var rfl (r_var rfl (r_kDN (j:=(n':Int)) (.inl (s5 _ _ hd2)) (r_kT qb)))))
   ·have hlist:((x.acc.row.map vI).filter fun v=>!(valV (sdk ks) (keyV v)).isSome).map (fun v=>v)=(x.acc.row.filter fun k=>!ks.contains k).map vI:=by
     rw [List.map_id'' (fun _=>rfl),List.filter_map]
     refine congrArg (List.map vI) (List.filter_congr fun n _=>?_)
     show (!(valV (sdk ks) (kI n)).isSome)=_
     rw [keys_in (sdk_keys ks) n]
    rw [hlist]
    have hDpa:D≠L.pa:=fun e=>by rw [e,hpa] at hD0; cases hD0
    have hDxa:x.a≠D:=ne_of_none hxo' hD0
    walk_at "4"
    refine r_kSF (by rw [upd_ne hDxa]; exact hxo') T.k_Account T.n_Account_row (by show 3 < 1000; decide) ?_
    have pf3:putF "row" (V.ref D) (fA x.am x.li x.ro)=fA x.am x.li D:=(pf2 (by decide +kernel)).trans (congrArg _ ((pf2 (by decide +kernel)).trans (congrArg _ pf1)))
    rw [pf3]
    have hDU:upd H' L.pa (.dK L.da) D=none:=by rw [upd_ne hDpa]; exact hD0
    have hDH:H D=none:=by
     cases e:H D with
     | none=>rfl
     | some o =>
      have:∃ o',H1 D=some o':=by
       by_cases hb:D=L.pg
       ·exact ⟨_,by rw [hb]; exact hpgH1⟩
       ·exact ⟨o,k1 D o e hb⟩
      obtain ⟨o',e'⟩:=this
      obtain ⟨o2,e2⟩:=th2 D o' e'
      rw [hD0] at e2
      cases e2
    have hO':=hO.put (x':=⟨x.a,x.am,x.li,D,strip ks x.acc⟩) (H':=upd (upd (upd H' D (.lst ((x.acc.row.filter fun k=>!ks.contains k).map vI))) x.a (.ins c.acc dx2 (fA x.am x.li D))) L.pa (.dK L.da)) rfl rfl (fun b o e h1 h2 h3 h4=>by
      by_cases hb:b=L.pa
      ·rw [hb,upd_same] at e ⊢; exact e
      ·rw [upd_ne hb] at e ⊢
       rw [upd_ne h1,upd_ne (ne_of_none e hD0)]
       exact e)
     ⟨⟨dx2,by show upd (upd _ x.a _) L.pa _ x.a=_; rw [upd_ne hxa2,upd_same]⟩,
      by
       have i:=hO.in1 x (List.mem_append_right _ (List.mem_cons_self ..))
       have e:=unl _ _ hxO.am i.ma
       show upd (upd _ x.a _) L.pa _ x.am=some (.dK (gd x.acc.has))
       rw [upd_ne i.ma,upd_ne (ne_of e hxo' (by intro z; cases z)),upd_ne (ne_of_none e hD0)]
       exact e,
      by
       have i:=hO.in1 x (List.mem_append_right _ (List.mem_cons_self ..))
       have e:=unl _ _ hxO.li i.la
       show upd (upd _ x.a _) L.pa _ x.li=some (.dK (gd (lims x.acc)))
       rw [upd_ne i.la,upd_ne (ne_of e hxo' (by intro z; cases z)),upd_ne (ne_of_none e hD0)]
       exact e,
      by
       show upd (upd _ x.a _) L.pa _ D=some (.lst ((x.acc.row.filter fun k=>!ks.contains k).map vI))
       rw [upd_ne hDpa,upd_ne (Ne.symm hDxa),upd_same]⟩ (.inl rfl) (.inl rfl) (.inr hDU) (hO.in1 x (List.mem_append_right _ (List.mem_cons_self ..))).ml
    refine hD _ _ ⟨_,_,asj++[⟨x.a,x.am,x.li,D,strip ks x.acc⟩],rfl,?_,?_,?_,?_,?_,?_⟩
    ·rw [upd_ne (Ne.symm hxa2),upd_ne (Ne.symm hDpa)]
     exact hpa
    ·rw [List.append_assoc]
     exact hO'
    ·rw [List.map_append,hacc,take_snoc hxj,List.map_append]
     rfl
    ·intro y hy
     rcases List.mem_append.mp hy with hy | hy
     ·exact hasj y hy
     ·rw [List.mem_singleton] at hy
      subst hy
      exact ⟨⟨x,hxm,rfl,rfl,rfl⟩,hDH⟩
    ·intro b o e hb hba
     have e2:=kp2 b o e hb hba
     rw [upd_ne (hba x hxm),upd_ne (ne_of_none e2 hD0)]
     exact e2
    ·intro b o e
     obtain ⟨o2,e2⟩:=th2 b o e
     by_cases hb:b=x.a
     ·exact ⟨_,by rw [hb,upd_same]⟩
     ·exact ⟨o2,by rw [upd_ne hb,upd_ne (ne_of_none e2 hD0)]; exact e2⟩
  ·rintro od σ' H' ⟨v2',v3',asj,rfl,hpa,hO,hacc,hasj,kp2,th2⟩
   have hl:(⟨L.pa,L.pg,L.as,L.gs.filter fun y=>!ks.contains y.grp.key⟩:Lay).da.length=L.as.length:=List.length_map ..
   rw [hl,List.drop_length,List.append_nil] at hO
   rw [hl,List.take_length] at hacc
   refine k _ _ hO ?_ (fun b o e hb=>?_) (fun b hb=>?_) (fun b o e=>?_)
   ·show (⟨asj.map (·.acc),(L.gs.filter _).map (fun y=>y.grp)⟩:State)=⟨(L.as.map (·.acc)).map (strip ks),(L.gs.map (fun y=>y.grp)).filter _⟩
    rw [hacc,List.map_map,List.filter_map]
    rfl
   ·have hbpa:b≠L.pa:=fun e=>hb (.inl e)
    rw [upd_ne hbpa]
    exact kp2 b o (k1 b o e (fun e=>hb (.inr (.inl e)))) hbpa (fun y hy e=>hb (.inr (.inr (.inl ⟨y,hy,.inl e⟩))))
   ·rcases hb with rfl | rfl | ⟨y,hy,hb⟩ | ⟨z',hz',rfl⟩
    ·exact .inl (.inl rfl)
    ·exact .inl (.inr (.inl rfl))
    ·obtain ⟨⟨x,hx,e1,e2,e3⟩,e4⟩:=hasj y hy
     rcases hb with rfl | rfl | rfl | rfl
     ·exact .inl (.inr (.inr (.inl ⟨x,hx,.inl e1⟩)))
     ·exact .inl (.inr (.inr (.inl ⟨x,hx,.inr (.inl e2)⟩)))
     ·exact .inl (.inr (.inr (.inl ⟨x,hx,.inr (.inr (.inl e3))⟩)))
     ·exact .inr e4
    ·exact .inl (.inr (.inr (.inr ⟨z',(List.mem_filter.mp hz').1,rfl⟩)))
   ·by_cases hb:b=L.pa
    ·exact ⟨_,by rw [hb,upd_same]⟩
    ·rw [upd_ne hb]
     have:∃ o',H1 b=some o':=by
      by_cases hb:b=L.pg
      ·exact ⟨_,by rw [hb]; exact hpgH1⟩
      ·exact ⟨o,k1 b o e hb⟩
     obtain ⟨o',e'⟩:=this
     exact th2 b o' e'
end
theorem not_ft {c:Cs} {H:Hp} {p:Addr} {L:Lay} (h:O0 c H p L) {b:Addr} (hb:H b=none):¬ Ft L b:=fun f=>by
 obtain ⟨o,e⟩:=ft_some h f
 rw [hb] at e
 cases e
theorem Chg.later {c:Cs} {H H1:Hp} {p:Addr} {L:Lay} {Q:VK} {s':State} {ans:List Int} (k:Chg c H p L Q s' ans) (s:Same H H1):Chg c H1 p L Q s' ans:=fun H' L' r h1 h2 h3 h4 h5 h6 h7 =>
 k H' L' r h1 h2 (fun b o e hb=>h3 b o (s b o e) hb) (fun b hb=>by
  rcases h4 b hb with q | q
  ·exact .inl q
  ·exact .inr (s.free q)) (s.free h5) h6 h7
theorem upd_id {H:Hp} {a:Addr} {o:HO} (h:H a=some o):upd H a o=H:=by
 funext b
 by_cases hb:b=a
 ·rw [hb,upd_same]; exact h.symm
 ·rw [upd_ne hb]
theorem one_not (m k:Nat):(!([m].contains k))=(k != m):=by
 show (!(k == m || false))=(k != m)
 rw [Bool.or_false]
 rfl
section
variable {P:Program} {w:World} {K:PySem.W.Frag} {mg:Str→Option Value} {base:Heap} {c:Cs}
def spCancel (c:Cs):Sp:=fun vs H Q _=>∃ (p:Addr) (L:Lay) (s:State) (k:Int),vs=[.ref p,.int k]∧O0 c H p L∧R L.st s∧Chg c H p L Q (Vbchak.step s (.cancel k)).1 (Vbchak.step s (.cancel k)).2
theorem fn_cancel (T:Txt K mg c):Fn P w K mg base "cancel" 2 ["house","key"] (spCancel c):=by
 refine T.f_cancel.fn sc_cancel (fun vs H Q E h=>?_) (fun f cdv A outer sh H vs Q E hr h=>?_)
 ·obtain ⟨p,L,s,n,rfl,_⟩:=h
  rfl
 obtain ⟨p,L,s,n,rfl,ho,hR,k⟩:=h
 have hu:=hu_of hr
 have nd:=sc_cancel.nd
 refine ⟨_,(pss_cons (ps_if (pt_not (pt_val (pe_fn (fn_is_key T) (hr.mono (by decide)) rfl (pa_cons (pv 1) pa_nil)))) (pss_one (ps_ret (pe_lst (pa_cons (pe_gint T.c_OUT_OF_RANGE) pa_nil)))) pss_nil)
   (pss_cons (ps_if (pt_cmp (pc_dnotin hu (pv 1) (pe_fld (pv 0) rfl)) rfl) (pss_one (ps_ret (pe_lst (pa_cons (pe_gint T.c_NOT_THERE) pa_nil)))) pss_nil)
   (pss_cons (ps_expr (pe_fn (fn_take_out T) (hr.mono (by decide)) rfl (pa_cons (pv 0) (pa_cons (pps1 (pv 1) pe_bl) pa_nil))))
   (pss_one (ps_ret (pe_lst (pa_cons pe_int pa_nil))))))),?_⟩
 try simp only [Cx.nox,Cx.wish,cxOf]
 have hx:=ho.hx hR
 obtain ⟨dx,hp⟩:=ho.o
 have hstep:Vbchak.step s (.cancel n)=Vbchak.onGroup s n fun g=>(⟨s.accounts.map fun a=>{ a with row:=a.row.filter fun k=>k != g.key },s.groups.filter fun x=>x.key != g.key⟩,[0]):=rfl
 walk_at "4"
 cases hk:keyed n with
 | false =>
  rw [hstep,onGroup_1 hk] at k
  refine iteT ?_
  walk_at "4"
  exact r_kL (by show 1≤1000; decide) fun z hz0=>k.no ho hR (Same.refl _) hz0 rfl
 | true =>
  refine iteF ?_
  obtain ⟨m,rfl,em,hm1,hm2⟩:=keyed_nat hk
  walk_at "4"
  refine r_kF hp T.k_House T.n_House_groups lH_g ?_
  refine r_kDN (j:=(m:Int)) hx.at_.dg ?_
  walk_at "4"
  cases hg:groupAt s m with
  | none =>
   rw [dg_none hR hg]
   rw [hstep,onGroup_4 hk (by rw [Int.toNat_natCast]; exact hg)] at k
   refine iteT ?_
   walk_at "4"
   exact r_kL (by show 1≤1000; decide) fun z hz0=>k.no ho hR (Same.refl _) hz0 rfl
  | some g =>
   rw [dg_there hR hg]
   refine iteF ?_
   rw [hstep,onGroup_g hk (by rw [Int.toNat_natCast]; exact hg)] at k
   obtain ⟨hgm,hgk⟩:=groupAt_some hg
   subst hgk
   obtain ⟨x,hxm,rfl⟩:=lay_grp hR hgm
   walk_at "4"
   intro n hn
   refine r_pair1 ?_
   walk_at "4"
   refine ⟨upd_same,[(kI x.grp.key,.bl true)],rfl,by show 1≤15; decide,?_⟩
   rw [upd_upd,show mergeK [] [(kI x.grp.key,V.bl true)]=sdk [x.grp.key] from rfl]
   have s1:Same H (upd H n (.dK (sdk [x.grp.key]))):=same_new hn
   have hn1:upd H n (.dK (sdk [x.grp.key])) n=some (.dK (sdk [x.grp.key])):=upd_same
   generalize upd H n (.dK (sdk [x.grp.key]))=H1 at s1 hn1 ⊢
   walk_at "4"
   refine ⟨p,n,L,[x.grp.key],rfl,ho.same s1,hn1,not_ft ho hn,by simp,lay_gn hR,fun k' hk'=>?_,fun y hy=>?_,fun H2 L2 o2 e2 kp2 ft2 th2=>?_⟩
   ·rw [List.mem_singleton] at hk'
    exact ⟨x,hxm,hk'.symm⟩
   ·have:=row_len hR.good (acc_lay hR hy)
    omega
   walk_at "4"
   refine r_kL (by show 1≤1000; decide) fun z hz0=>?_
   refine k.yes o2 ?_ (fun b o e hb=>kp2 b o (s1 b o e) hb) (fun b hb=>?_) (fun b o e=>th2 b o (s1 b o e)) hz0 rfl
   ·rw [e2]
    have:=hR.without [x.grp.key] (fun a=>a.has) fun a ha=>⟨(hR.good.acc a ha).h4,(hR.good.acc a ha).lim⟩
    simp only [one_not] at this
    have e3:strip [x.grp.key]=fun a:Account=>{ a with row:=a.row.filter fun k=>k != x.grp.key }:=by
     funext a
     unfold strip
     simp only [one_not]
    rw [e3]
    simp only [one_not]
    exact this
   ·rcases ft2 b hb with q | q
    ·exact .inl q
    ·exact .inr (s1.free q)
def spLet (c:Cs):Sp:=fun vs H Q _=>∃ (p d:Addr) (L:Lay) (s:State) (ks:List Nat),vs=[.ref p,.ref d]∧O0 c H p L∧R L.st s∧SetAt H d ks∧¬ Ft L d∧ks.Nodup∧(∀ k,k∈ks→∃ g,g∈s.groups∧g.key=k)∧(∀ a,a∈s.accounts→shortOf s ks a=none) ∧
 Chg c H p L Q (Vbchak.gone s ks) [(ks.length:Int)]
def wealth (s:State) (ks:List Nat) (a:Account):Account:={ a with has:=goods.map (wouldHave s ks a) }
theorem fn_let_go (T:Txt K mg c):Fn P w K mg base "let_go" 2 ["house","chosen"] (spLet c):=by
 refine T.f_let_go.fn sc_let_go (fun vs H Q E h=>?_) (fun f cdv A outer sh H vs Q E hr h=>?_)
 ·obtain ⟨p,d,L,s,ks,rfl,_⟩:=h
  rfl
 obtain ⟨p,d,L,s,ks,rfl,ho,hR,hd,hdf,hkn,hkg,hsh,k⟩:=h
 have hu:=hu_of hr
 have nd:=sc_let_go.nd
 refine ⟨_,(pss_cons (ps_set (i:=2) nd rfl (Or.inl rfl) (pe_fn (fn_amounts_after T) (hr.mono (by decide)) rfl (pa_cons (pv 0) (pa_cons (pv 1) pa_nil))))
   (pss_cons (ps_lock (ps_for PassesOwn.never rfl (pi_items (pe_fld (pv 0) rfl)) (pg_tup rfl (pgs_cons (pg_name (i:=3) nd rfl (Or.inl rfl)) (pgs_cons (pg_name (i:=4) nd rfl (Or.inl rfl)) pgs_nil))) (pss_one (ps_fld (pv 4) (pe_dget hu (pv 2) (pv 3) (fun _ _=>rfl)) rfl))))
   (pss_cons (ps_expr (pe_fn (fn_take_out T) (hr.mono (by decide)) rfl (pa_cons (pv 0) (pa_cons (pv 1) pa_nil))))
   (pss_one (ps_ret (pe_lst (pa_cons (pe_callB call_lenD rfl T.b_len boot_len (pa_cons (pv 1) pa_nil)) pa_nil))))))),?_⟩
 try simp only [Cx.nox,Cx.wish,cxOf]
 have hx:=ho.hx hR
 walk_at "4"
 refine ⟨p,d,L,s,ks,rfl,hx,hd.keys,hkn,hkg,fun H1 ra l s1 hra0 hF hA=>?_⟩
 have o1:=ho.same s1
 obtain ⟨dx,hp⟩:=o1.o
 have hd1:=s1 _ _ hd
 walk_at "4"
 refine r_for_items (i:=3) (j:=4) o1.ea (fun od R q=>r_fld (r_var rfl (r_kF (ins_lock o1.ea hp) T.k_House T.n_House_accounts lH_a q)))
  (fun od j σ' H'=>∃ v3 v4 asj,σ'=[some (.ref p),some (.ref d),some (.ref ra),v3,v4]∧H' L.pa=some (.frz od (.dK L.da))∧O0 c (upd H' L.pa (.dK L.da)) p ⟨L.pa,L.pg,asj++L.as.drop j,L.gs⟩∧asj.map (·.acc)=(L.as.take j).map (fun x=>wealth s ks x.acc) ∧
    (∀ y,y∈asj→∃ x z,x∈L.as.take j∧y.a=x.a∧y.li=x.li∧y.ro=x.ro∧z∈l∧z.1=x.acc∧y.am=z.2)∧(∀ b o,H1 b=some o→b≠L.pa→(∀ y,y∈L.as→b≠y.a)→H' b=some o)∧(∀ b o,H1 b=some o→∃ o',H' b=some o'))
  (fun od=>⟨_,_,[],rfl,upd_same,?_,rfl,fun y h=>(by cases h),fun b o e hb _=>by rw [upd_ne hb]; exact e,fun b o e=>?_⟩) (fun od j σ' H' ⟨_,_,_,_,h,_⟩=>h) ?_ ?_
 ·rw [upd_upd,upd_id o1.ea]
  exact o1
 ·by_cases hb:b=L.pa
  ·exact ⟨_,by rw [hb,upd_same]⟩
  ·exact ⟨o,by rw [upd_ne hb]; exact e⟩
 ·rintro od j k' v' T' σ' H' D2 hkv ⟨v3',v4',asj,rfl,hpa,hO,hacc,hasj,kp2,th2⟩ hT hD
  obtain ⟨x,hxj,e⟩:=map_at (f:=fun x:AccL=>(kI x.acc.key,V.ref x.a)) hkv
  cases e
  have hxm:x∈L.as:=List.mem_of_getElem? hxj
  have hdrop:L.as.drop j=x::L.as.drop (j + 1):=by
   obtain ⟨hl,he⟩:=List.getElem?_eq_some_iff.mp hxj
   rw [List.drop_eq_getElem_cons hl,he]
  rw [hdrop] at hO
  have hxi:x∈asj++x::L.as.drop (j + 1):=List.mem_append_right _ (List.mem_cons_self ..)
  have hxO:=hO.as x hxi
  have hxO0:=ho.as x hxm
  have i:=hO.in1 x hxi
  have unl:∀ b o,upd H' L.pa (.dK L.da) b=some o→b≠L.pa→H' b=some o:=fun b o e hb=>by rw [upd_ne hb] at e; exact e
  obtain ⟨dx2,hxo⟩:=hxO.o
  have hxa2:x.a≠L.pa:=ne_of hxo hO.ea (by intro z; cases z)
  have hxo':=unl _ _ hxo hxa2
  obtain ⟨nk,z,hzl,hz1⟩:=after_find hR hF (acc_lay hR hxm)
  obtain ⟨hz0,hzr⟩:=hF.new z hzl
  have hfresh:∀ b o,H b=some o→b≠z.2:=fun b o e q=>by rw [q,hz0] at e; cases e
  have hapa:∀ y,y∈L.as→∃ o,H y.a=some o:=fun y hy=>let ⟨_,q⟩:=(ho.as y hy).o; ⟨_,q⟩
  have hz2:H' z.2=some (.dK (gd (goods.map (wouldHave s ks z.1)))):=kp2 _ _ (hA.2 z hzl) (Ne.symm (hfresh _ _ ho.ea)) (fun y hy=>Ne.symm (let ⟨o,q⟩:=hapa y hy; hfresh _ _ q))
  have hra:H' ra=some (.dK (l.map fun y=>(kI y.1.key,V.ref y.2))):=kp2 _ _ hA.1 (Ne.symm (ne_of_none ho.ea hra0)) (fun y hy=>Ne.symm (let ⟨o,q⟩:=hapa y hy; ne_of_none q hra0))
  have s6:Same H' (upd H' T' (.tup [kV (kI x.acc.key),V.ref x.a])):=same_new hT
  have t6:∀ b,b≠T'→upd H' T' (.tup [kV (kI x.acc.key),V.ref x.a]) b=H' b:=fun b hb=>upd_ne hb
  generalize upd H' T' (.tup [kV (kI x.acc.key),V.ref x.a])=H6 at s6 t6 ⊢
  walk_at "4"
  refine r_kDG (j:=(x.acc.key:Int)) (.inl (s6 _ _ hra)) (by rw [show (Sum.inl (x.acc.key:Int):Key)=kI z.1.key from by rw [hz1]; rfl]; exact after_val nk hzl) ?_
  walk_at "4"
  refine r_kSF (s6 _ _ hxo') T.k_Account T.n_Account_amounts (by show 3 < 1000; decide) ?_
  have pf3:putF "amounts" (V.ref z.2) (fA x.am x.li x.ro)=fA z.2 x.li x.ro:=pf1
  rw [pf3]
  have hza:z.2≠x.a:=Ne.symm (let ⟨o,q⟩:=hapa x hxm; hfresh _ _ q)
  have hzpa:z.2≠L.pa:=Ne.symm (hfresh _ _ ho.ea)
  have hO':=hO.putN (x':=⟨x.a,z.2,x.li,x.ro,wealth s ks x.acc⟩) (H':=upd (upd H6 x.a (.ins c.acc dx2 (fA z.2 x.li x.ro))) L.pa (.dK L.da)) rfl rfl (fun b o e h1 h2 h3 h4=>by
    by_cases hb:b=L.pa
    ·rw [hb,upd_same] at e ⊢; exact e
    ·rw [upd_ne hb] at e ⊢
     rw [upd_ne h1]
     exact s6 _ _ e)
   ⟨⟨dx2,by show upd (upd _ x.a _) L.pa _ x.a=_; rw [upd_ne hxa2,upd_same]⟩,
    by
     show upd (upd _ x.a _) L.pa _ z.2=some (.dK (gd (goods.map (wouldHave s ks x.acc))))
     rw [upd_ne hzpa,upd_ne hza,s6 _ _ hz2,hz1],
    by
     have e:=unl _ _ hxO.li i.la
     show upd (upd _ x.a _) L.pa _ x.li=some (.dK (gd (lims x.acc)))
     rw [upd_ne i.la,upd_ne (ne_of e hxo' (by intro z; cases z))]
     exact s6 _ _ e,
    by
     have e1:x.ro≠L.pa:=ne_of hxO.ro hO.ea (by intro z; cases z)
     have e:=unl _ _ hxO.ro e1
     show upd (upd _ x.a _) L.pa _ x.ro=some (.lst (x.acc.row.map vI))
     rw [upd_ne e1,upd_ne (ne_of e hxo' (by intro z; cases z))]
     exact s6 _ _ e⟩ (.inr ?_) (.inl rfl) (.inl rfl) (Ne.symm (hfresh _ _ hxO0.li))
  ·refine hD _ _ ⟨_,_,asj++[⟨x.a,z.2,x.li,x.ro,wealth s ks x.acc⟩],rfl,?_,?_,?_,?_,?_,?_⟩
   ·rw [upd_ne (Ne.symm hxa2)]
    exact s6 _ _ hpa
   ·rw [List.append_assoc]
    exact hO'
   ·rw [List.map_append,hacc,take_snoc hxj,List.map_append]
    rfl
   ·intro y hy
    rw [take_snoc hxj]
    rcases List.mem_append.mp hy with hy | hy
    ·obtain ⟨x',z',h1,h2,h3,h4,h5,h6,h7⟩:=hasj y hy
     exact ⟨x',z',List.mem_append_left _ h1,h2,h3,h4,h5,h6,h7⟩
    ·rw [List.mem_singleton] at hy
     subst hy
     exact ⟨x,z,List.mem_append_right _ (List.mem_singleton.mpr rfl),rfl,rfl,rfl,hzl,hz1,rfl⟩
   ·intro b o e hb hba
    rw [upd_ne (hba x hxm)]
    exact s6 _ _ (kp2 b o e hb hba)
   ·intro b o e
    obtain ⟨o2,e2⟩:=th2 b o e
    by_cases hb:b=x.a
    ·exact ⟨_,by rw [hb,upd_same]⟩
    ·exact ⟨o2,by rw [upd_ne hb]; exact s6 _ _ e2⟩
  ·have oldA:∀ y,y∈L.as→(y.a≠z.2∧y.am≠z.2∧y.li≠z.2∧y.ro≠z.2):=fun y hy=>by
    have q:=ho.as y hy
    obtain ⟨_,e⟩:=q.o
    exact ⟨hfresh _ _ e,hfresh _ _ q.am,hfresh _ _ q.li,hfresh _ _ q.ro⟩
   rintro (e | e | ⟨y,hy,e⟩ | ⟨g,hg,e⟩)
   ·exact hzpa e
   ·exact hfresh _ _ ho.eg e.symm
   ·rcases List.mem_append.mp hy with hy | hy
    ·obtain ⟨x',z',h1,h2,h3,h4,h5,h6,h7⟩:=hasj y hy
     obtain ⟨o1',o2',o3',o4'⟩:=oldA x' (List.mem_of_mem_take h1)
     rcases e with e | e | e | e
     ·exact o1' (h2 ▸ e.symm)
     ·have e2:z'=z:=key_inj (f:=fun y:Account×Addr=>y.2) hF.nd h5 hzl (h7 ▸ e.symm)
      have hn:=not_taken (l:=L.as.map fun x=>x.acc.key) (j:=j) (x:=x.acc.key) (lay_an hR) (by rw [List.getElem?_map,hxj]; rfl)
      refine hn ?_
      rw [← List.map_take]
      exact List.mem_map.mpr ⟨x',h1,by rw [← h6,e2,hz1]⟩
     ·exact o3' (h3 ▸ e.symm)
     ·exact o4' (h4 ▸ e.symm)
    ·have hy':y∈L.as:=by
      rw [← hdrop] at hy
      exact List.mem_of_mem_drop hy
     obtain ⟨o1',o2',o3',o4'⟩:=oldA y hy'
     rcases e with e | e | e | e
     ·exact o1' e.symm
     ·exact o2' e.symm
     ·exact o3' e.symm
     ·exact o4' e.symm
   ·obtain ⟨_,q⟩:=(ho.gs g hg).o
    exact hfresh _ _ q e.symm
 ·rintro od σ' H' ⟨v3',v4',asj,rfl,hpa,hO,hacc,hasj,kp2,th2⟩
  have hl:L.da.length=L.as.length:=List.length_map ..
  rw [hl,List.drop_length,List.append_nil] at hO
  rw [hl,List.take_length] at hacc hasj
  have kp3:∀ b o,H b=some o→¬ Ft L b→upd H' L.pa (.dK L.da) b=some o:=fun b o e hb=>by
   have hbpa:b≠L.pa:=fun e=>hb (.inl e)
   rw [upd_ne hbpa]
   exact kp2 b o (s1 _ _ e) hbpa (fun y hy e=>hb (.inr (.inr (.inl ⟨y,hy,.inl e⟩))))
  have th3:∀ b o,H b=some o→∃ o',upd H' L.pa (.dK L.da) b=some o':=fun b o e=>by
   by_cases hb:b=L.pa
   ·exact ⟨_,by rw [hb,upd_same]⟩
   ·rw [upd_ne hb]
    exact th2 b o (s1 _ _ e)
  have ft3:∀ b,Ft ⟨L.pa,L.pg,asj,L.gs⟩ b→Ft L b∨H b=none:=fun b hb=>by
   rcases hb with e | e | ⟨y,hy,e⟩ | ⟨g,hg,e⟩
   ·exact .inl (.inl e)
   ·exact .inl (.inr (.inl e))
   ·obtain ⟨x',z',h1,h2,h3,h4,h5,h6,h7⟩:=hasj y hy
    rcases e with e | e | e | e
    ·exact .inl (.inr (.inr (.inl ⟨x',h1,.inl (e.trans h2)⟩)))
    ·exact .inr (by rw [e,h7]; exact (hF.new z' h5).1)
    ·exact .inl (.inr (.inr (.inl ⟨x',h1,.inr (.inr (.inl (e.trans h3)))⟩)))
    ·exact .inl (.inr (.inr (.inl ⟨x',h1,.inr (.inr (.inr (e.trans h4)))⟩)))
   ·exact .inl (.inr (.inr (.inr ⟨g,hg,e⟩)))
  generalize upd H' L.pa (.dK L.da)=H2 at hO kp3 th3 ⊢
  have hd2:=kp3 _ _ hd hdf
  have nft:∀ b o,H b=some o→¬ Ft L b→¬ Ft ⟨L.pa,L.pg,asj,L.gs⟩ b:=fun b o e hb hf=>by
   rcases ft3 b hf with q | q
   ·exact hb q
   ·rw [e] at q; cases q
  walk_at "4"
  refine ⟨p,d,_,ks,rfl,hO,hd2,nft _ _ hd hdf,hkn,(show (L.gs.map fun x=>x.grp.key).Nodup from lay_gn hR),fun k' hk'=>?_,fun y hy=>?_,fun H3 L3 o3 e3 kp4 ft4 th4=>?_⟩
  ·obtain ⟨g,hg,e⟩:=hkg k' hk'
   obtain ⟨y,hy,rfl⟩:=lay_grp hR hg
   exact ⟨y,hy,e⟩
  ·have:y.acc∈asj.map (·.acc):=List.mem_map.mpr ⟨y,hy,rfl⟩
   rw [hacc] at this
   obtain ⟨x,hxm,e⟩:=List.mem_map.mp this
   have h24:=row_len hR.good (acc_lay hR hxm)
   rw [← e]
   show x.acc.row.length≤1000
   omega
  have hd3:=kp4 _ _ hd2 (nft _ _ hd hdf)
  walk_at "4"
  refine ⟨d,_,rfl,hd3,?_⟩
  walk_at "4"
  refine r_kL (by show 1≤1000; decide) fun z hz0=>?_
  refine k.yes o3 ?_ (fun b o e hb=>kp4 b o (kp3 b o e hb) (nft b o e hb)) (fun b hb=>?_) (fun b o e=>?_) hz0 (by rw [sdk_len]; rfl)
  ·rw [e3]
   have:=hR.gone (X:=ks) hsh
   have e4:(⟨(⟨L.pa,L.pg,asj,L.gs⟩:Lay).st.accounts.map (strip ks),(⟨L.pa,L.pg,asj,L.gs⟩:Lay).st.groups.filter fun g=>!ks.contains g.key⟩:State)=Vbchak.gone L.st ks:=by
    show (⟨(asj.map (·.acc)).map (strip ks),_⟩:State)=⟨(L.as.map (·.acc)).map _,_⟩
    rw [hacc,List.map_map,List.map_map]
    refine congrArg (fun l=>(⟨l,_⟩:State)) (List.map_congr_left fun x hx=>?_)
    show strip ks (wealth s ks x.acc) = { x.acc with has:=goods.map (wouldHave L.st ks x.acc),row:=x.acc.row.filter fun k=>!ks.contains k }
    have e5:goods.map (wouldHave L.st ks x.acc)=goods.map (wouldHave s ks x.acc):=List.map_congr_left fun q _=>would_perm hR.pg ks x.acc q
    rw [e5]
    rfl
   rw [e4]
   exact this
  ·rcases ft4 b hb with q | q
   ·exact ft3 b q
   ·refine .inr ?_
    cases e:H b with
    | none=>rfl
    | some o =>
     obtain ⟨o',e'⟩:=th3 b o e
     rw [q] at e'
     cases e'
  ·obtain ⟨o',e'⟩:=th3 b o e
   exact th4 b o' e'
theorem gone_mem {s:State} {X Y:List Nat} (h:∀ k,k∈X↔k∈Y):Vbchak.gone s X=Vbchak.gone s Y:=by
 have hc:∀ k,X.contains k=Y.contains k:=fun k=>by
  rw [Bool.eq_iff_iff,List.contains_iff_mem,List.contains_iff_mem]
  exact h k
 unfold Vbchak.gone
 have e:∀ a,wouldHave s X a=wouldHave s Y a:=fun a=>funext fun q=>would_mem h a q
 simp only [e,hc]
def spSettle (c:Cs):Sp:=fun vs H Q _=>∃ (p:Addr) (L:Lay) (s:State),vs=[.ref p]∧O0 c H p L∧R L.st s∧Chg c H p L Q (Vbchak.step s .settle).1 (Vbchak.step s .settle).2
theorem fn_settle (T:Txt K mg c):Fn P w K mg base "settle" 7 ["house"] (spSettle c):=by
 refine T.f_settle.fn sc_settle (fun vs H Q E h=>?_) (fun f cdv A outer sh H vs Q E hr h=>?_)
 ·obtain ⟨p,L,s,rfl,_⟩:=h
  rfl
 obtain ⟨p,L,s,rfl,ho,hR,k⟩:=h
 have hu:=hu_of hr
 have nd:=sc_settle.nd
 refine ⟨_,(pss_one (ps_ret (pe_fn (fn_let_go T) (hr.mono (by decide)) rfl (pa_cons (pv 0) (pa_cons (pe_fn (fn_greatest_set T) (hr.mono (by decide)) rfl (pa_cons (pv 0) pa_nil)) pa_nil))))),?_⟩
 try simp only [Cx.nox,Cx.wish,cxOf]
 have hx:=ho.hx hR
 walk_at "4"
 refine ⟨p,L,s,rfl,hx,fun H1 r1 gs s1 hr10 hr1 hpm=>?_⟩
 walk_at "4"
 have hm:∀ k,k∈gs↔k∈ready s:=fun k=>hpm.mem_iff
 refine ⟨p,r1,L,s,gs,rfl,ho.same s1,hR,hr1,not_ft ho hr10,hpm.nodup_iff.mpr (ready_nodup hR),mem_groups_ready hpm,fun a ha=>?_,?_⟩
 ·rw [short_mem hm]
  exact (ready_fit hR.good).ok a ha
 ·have k2:=k.later s1
  have e:Vbchak.step s .settle=(Vbchak.gone s (ready s),[((ready s).length:Int)]):=rfl
  rw [e,← gone_mem hm,← hpm.length_eq] at k2
  exact k2
def spGo (K:PySem.W.Frag) (c:Cs):Sp:=fun vs H Q _=>∃ (p a:Addr) (L:Lay) (s:State) (ns:List Int),vs=[.ref p,.ref a]∧O0 c H p L∧R L.st s∧SqL K H a (ns.map V.int)∧ns.length≤40∧Chg c H p L Q (Vbchak.step s (.go ns)).1 (Vbchak.step s (.go ns)).2
theorem fn_go (T:Txt K mg c):Fn P w K mg base "go" 4 ["house","keys"] (spGo K c):=by
 refine T.f_go.fn sc_go (fun vs H Q E h=>?_) (fun f cdv A outer sh H vs Q E hr h=>?_)
 ·obtain ⟨p,a,L,s,ns,rfl,_⟩:=h
  rfl
 obtain ⟨p,a,L,s,ns,rfl,ho,hR,hS,hz,k⟩:=h
 have hu:=hu_of hr
 have nd:=sc_go.nd
 refine ⟨_,(pss_cons (ps_set (i:=2) nd rfl (Or.inl rfl) (pe_fn (fn_list_refusal T) (hr.mono (by decide)) rfl (pa_cons (pv 0) (pa_cons (pv 1) pa_nil))))
   (pss_cons (ps_if (pt_cmpR op_ne (pv 2) pe_int (nomark _)) (pss_one (ps_ret (pe_lst (pa_cons (pv 2) pa_nil)))) pss_nil)
   (pss_cons (ps_set (i:=3) nd rfl (Or.inl rfl) (pe_fn (fn_groups_told T) (hr.mono (by decide)) rfl (pa_cons (pv 1) pa_nil)))
   (pss_cons (ps_if (pt_not (pt_val (pe_fn (fn_can_go T) (hr.mono (by decide)) rfl (pa_cons (pv 0) (pa_cons (pv 3) pa_nil))))) (pss_one (ps_ret (pe_lst (pa_cons (pe_gint T.c_CANNOT_BE) pa_nil)))) pss_nil)
   (pss_one (ps_ret (pe_fn (fn_let_go T) (hr.mono (by decide)) rfl (pa_cons (pv 0) (pa_cons (pv 3) pa_nil))))))))),?_⟩
 try simp only [Cx.nox,Cx.wish,cxOf]
 have hx:=ho.hx hR
 have hst:Vbchak.step s (.go ns)=if listRef s ns=0 then (if canGo s (nats ns)=true then (Vbchak.gone s (nats ns),[((nats ns).length:Int)]) else (s,[-8])) else (s,[listRef s ns]):=by
  have e:Vbchak.step s (.go ns)=Vbchak.onGroups s ns (fun l=>if canGo s l=true then (Vbchak.gone s l,[(l.length:Int)]) else (s,[-8])):=rfl
  rw [e,onGroups_eq]
 walk_at "4"
 refine ⟨p,a,L,s,ns,rfl,hx,hS,hz,fun H1 s1=>?_⟩
 walk_at "4"
 by_cases h0:listRef s ns=0
 ·rw [if_pos h0] at hst
  rw [decide_eq_true h0]
  refine iteF ?_
  obtain ⟨ks,e1,e2,hn,hl,hg⟩:=listRef_zero h0
  rw [e2] at hst
  walk_at "4"
  refine ⟨a,ks,rfl,by rw [← ints_map,← e1]; exact s1.seq hS,hn,by omega,fun H2 r2 s2 hr20 hr2=>?_⟩
  walk_at "4"
  refine ⟨p,r2,L,s,ks,rfl,hx.same (s1.trans s2),hr2,hn,by omega,hg,fun H3 s3=>?_⟩
  walk_at "4"
  have s13:=s1.trans (s2.trans s3)
  cases hc:canGo s ks with
  | true =>
   rw [hc,if_pos rfl] at hst
   refine iteF ?_
   walk_at "4"
   refine ⟨p,r2,L,s,ks,rfl,ho.same s13,hR,s3 _ _ hr2,not_ft ho (s1.free hr20),hn,hg,fun b hb=>?_,?_⟩
   ·unfold Vbchak.canGo at hc
    rw [Bool.and_eq_true,Bool.and_eq_true,List.all_eq_true,List.all_eq_true] at hc
    exact Option.isNone_iff_eq_none.mp (hc.2.2 b hb)
   ·have k2:=k.later s13
    rw [hst] at k2
    exact k2
  | false =>
   rw [hc,if_neg (by decide)] at hst
   refine iteT ?_
   walk_at "4"
   rw [hst] at k
   exact r_kL (by show 1≤1000; decide) fun z hz0=>k.no ho hR s13 hz0 rfl
 ·rw [if_neg h0] at hst
  rw [decide_eq_false h0]
  refine iteT ?_
  walk_at "4"
  rw [hst] at k
  exact r_kL (by show 1≤1000; decide) fun z hz0=>k.no ho hR s1 hz0 rfl
end
structure Q4 where
 a:Int
 b:Int
 q:Int
 n:Int
def quads:List Int→List Q4
 | a::b::q::n::l=>⟨a,b,q,n⟩::quads l
 | _=>[]
def fQ (x:Q4):List (Str×V):=[("giver",.int x.a),("taker",.int x.b),("good",.int x.q),("amount",.int x.n)]
def okQ (x:Q4):Bool:=keyed x.a && (keyed x.b && (goodly x.q && within x.n 1 Vbchak.MOST))
def natQ (x:Q4):Vbchak.Leg:=⟨x.a.toNat,x.b.toNat,x.q.toNat,x.n.toNat⟩
theorem lQ_f {x:Q4}:(fQ x).lookup ("giver":Str)=some (.int x.a):=lk1
theorem lQ_t {x:Q4}:(fQ x).lookup ("taker":Str)=some (.int x.b):=(lk2 (by decide +kernel)).trans lk1
theorem lQ_g {x:Q4}:(fQ x).lookup ("good":Str)=some (.int x.q):=(lk2 (by decide +kernel)).trans ((lk2 (by decide +kernel)).trans lk1)
theorem lQ_a {x:Q4}:(fQ x).lookup ("amount":Str)=some (.int x.n):=(lk2 (by decide +kernel)).trans ((lk2 (by decide +kernel)).trans ((lk2 (by decide +kernel)).trans lk1))
theorem quads_len:∀ (m:Nat) (ns:List Int),ns.length=4 * m→(quads ns).length=m
 | 0,ns,h=>by
  have:ns=[]:=List.length_eq_zero_iff.mp (by omega)
  subst this
  rfl
 | m + 1,ns,h=>by
  match ns,h with
  | a::b::q::n::l,h =>
   show (quads l).length + 1=m + 1
   rw [quads_len m l (by simp only [List.length_cons] at h; omega)]
  | [],h=>simp at h
  | [_],h=>simp only [List.length_cons,List.length_nil] at h; omega
  | [_,_],h=>simp only [List.length_cons,List.length_nil] at h; omega
  | [_,_,_],h=>simp only [List.length_cons,List.length_nil] at h; omega
theorem quad_at:∀ (m:Nat) (ns:List Int),ns.length=4 * m→∀ i,i < m→∃ x:Q4,(quads ns)[i]?=some x∧ns[4 * i]?=some x.a∧ns[4 * i + 1]?=some x.b∧ns[4 * i + 2]?=some x.q∧ns[4 * i + 3]?=some x.n
 | 0,ns,h,i,hi=>by omega
 | m + 1,ns,h,i,hi=>by
  match ns,h with
  | a::b::q::n::l,h =>
   cases i with
   | zero=>exact ⟨⟨a,b,q,n⟩,rfl,rfl,rfl,rfl,rfl⟩
   | succ i =>
    obtain ⟨x,h1,h2,h3,h4,h5⟩:=quad_at m l (by simp only [List.length_cons] at h; omega) i (by omega)
    exact ⟨x,h1,h2,h3,h4,h5⟩
  | [],h=>simp at h
  | [_],h=>simp only [List.length_cons,List.length_nil] at h; omega
  | [_,_],h=>simp only [List.length_cons,List.length_nil] at h; omega
  | [_,_,_],h=>simp only [List.length_cons,List.length_nil] at h; omega
theorem legsOf_quads:∀ (m:Nat) (ns:List Int),ns.length=4 * m→legsOf ns=(quads ns).map natQ
 | 0,ns,h=>by
  have:ns=[]:=List.length_eq_zero_iff.mp (by omega)
  subst this
  rfl
 | m + 1,ns,h=>by
  match ns,h with
  | a::b::q::n::l,h =>
   show _::legsOf l=_::(quads l).map natQ
   rw [legsOf_quads m l (by simp only [List.length_cons] at h; omega)]
   rfl
  | [],h=>simp at h
  | [_],h=>simp only [List.length_cons,List.length_nil] at h; omega
  | [_,_],h=>simp only [List.length_cons,List.length_nil] at h; omega
  | [_,_,_],h=>simp only [List.length_cons,List.length_nil] at h; omega
theorem legsIn_quads:∀ (m:Nat) (ns:List Int),ns.length=4 * m→legsIn ns=(quads ns).all okQ
 | 0,ns,h=>by
  have:ns=[]:=List.length_eq_zero_iff.mp (by omega)
  subst this
  rfl
 | m + 1,ns,h=>by
  match ns,h with
  | a::b::q::n::l,h =>
   show (keyed a && (keyed b && (goodly q && (within n 1 Vbchak.MOST && legsIn l))))=(okQ ⟨a,b,q,n⟩ && (quads l).all okQ)
   rw [legsIn_quads m l (by simp only [List.length_cons] at h; omega)]
   show _=((keyed a && (keyed b && (goodly q && within n 1 Vbchak.MOST))) && (quads l).all okQ)
   rw [Bool.and_assoc,Bool.and_assoc,Bool.and_assoc]
  | [],h=>simp at h
  | [_],h=>simp only [List.length_cons,List.length_nil] at h; omega
  | [_,_],h=>simp only [List.length_cons,List.length_nil] at h; omega
  | [_,_,_],h=>simp only [List.length_cons,List.length_nil] at h; omega
theorem legsIn_four:∀ (f:Nat) (ns:List Int),ns.length≤f→legsIn ns=true→ns.length % 4=0
 | _,[],_,_=>rfl
 | _,[_],_,h=>by cases h
 | _,[_,_],_,h=>by cases h
 | _,[_,_,_],_,h=>by cases h
 | 0,_::_::_::_::_,hf,_=>by simp at hf
 | f + 1,a::b::q::n::l,hf,h=>by
  have h':(keyed a && (keyed b && (goodly q && (within n 1 Vbchak.MOST && legsIn l))))=true:=h
  simp only [Bool.and_eq_true] at h'
  have:=legsIn_four f l (by simp only [List.length_cons] at hf; omega) h'.2.2.2.2
  simp only [List.length_cons]
  omega
def legsFit (ns:List Int):Bool:=decide (1≤ns.length) && (decide (ns.length≤4 * Vbchak.LEGS) && legsIn ns)
theorem rgc4 {n m:Nat} (h:n=4 * m) (hm:m≤10):RgC 0 (n:Int) 4 m:=by
 subst h
 refine ⟨by decide,by decide,?_,?_⟩ <;>
 ·have:m=0∨m=1∨m=2∨m=3∨m=4∨m=5∨m=6∨m=7∨m=8∨m=9∨m=10:=by omega
  rcases this with rfl | rfl | rfl | rfl | rfl | rfl | rfl | rfl | rfl | rfl | rfl <;> decide
def kR3 (g:TG) (tb:TS) (D:Ends) (σ:L2.St):List V→Hp→Prop:=fun vs H1=>∃ (i j c:Int) (n:Nat),vs=[.int i,.int j,.int c]∧RgC i j c n∧∃ W:Nat→Nat→L2.St→Hp→Prop,(∃ m,W 0 m σ H1)∧∀ k m σ H,W k m σ H →
   ((Itc i c n).stop k H∧D.nx σ H)∨((Itc i c n).go k H∧∃ N:L2.St→Hp→Prop,(∀ σ' H',N σ' H'→∃ m',m' < m∧W (k + 1) m' σ' H')∧∀ x H',(Itc i c n).yld k H x H'→g x σ H' fun σ2 H2=>tb { D with nx:=N,ct:=N,bk:=D.nx } σ2 H2)
theorem r_forR3 {ta:TA} {g:TG} {tb:TS} {D:Ends} {σ:L2.St} {H:Hp} (h:ta σ H fun vs H1=>kR3 g tb D σ vs H1):tFor (iRng3 ta) g tb D σ H:=h
section
variable {P:Program} {w:World} {K:PySem.W.Frag} {mg:Str→Option Value} {base:Heap} {c:Cs}
def spIsLeg (c:Cs):Sp:=fun vs H Q _=>∃ (e dx:Addr) (x:Q4),vs=[.ref e]∧H e=some (.ins c.leg dx (fQ x))∧Q (.bl (okQ x)) H
theorem fn_is_leg (T:Txt K mg c):Fn P w K mg base "is_leg" 2 ["leg"] (spIsLeg c):=by
 refine T.f_is_leg.fn sc_is_leg (fun vs H Q E h=>?_) (fun f cdv A outer sh H vs Q E hr h=>?_)
 ·obtain ⟨e,dx,x,rfl,_⟩:=h
  rfl
 obtain ⟨e,dx,x,rfl,he,k⟩:=h
 have hu:=hu_of hr
 have nd:=sc_is_leg.nd
 refine ⟨_,(pss_one (ps_ret (pe_and (pe_fn (fn_is_key T) (hr.mono (by decide)) rfl (pa_cons (pe_fld (pv 0) rfl) pa_nil)) (pe_and (pe_fn (fn_is_key T) (hr.mono (by decide)) rfl (pa_cons (pe_fld (pv 0) rfl) pa_nil)) (pe_and (pe_fn (fn_is_good T) (hr.mono (by decide)) rfl (pa_cons (pe_fld (pv 0) rfl) pa_nil)) (pe_one (pe_fn (fn_is_amount T) (hr.mono (by decide)) rfl (pa_cons (pe_fld (pv 0) rfl) pa_nil)))))))),?_⟩
 try simp only [Cx.nox,Cx.wish,cxOf]
 unfold okQ at k
 walk_at "4"
 refine r_kF he T.k_Leg T.n_Leg_giver lQ_f ?_
 walk_at "4"
 cases h1:keyed x.a with
 | false =>
  rw [h1] at k
  exact iteF k
 | true =>
  rw [h1] at k
  refine iteT ?_
  walk_at "4"
  refine r_kF he T.k_Leg T.n_Leg_taker lQ_t ?_
  walk_at "4"
  cases h2:keyed x.b with
  | false =>
   rw [h2] at k
   exact iteF k
  | true =>
   rw [h2] at k
   refine iteT ?_
   walk_at "4"
   refine r_kF he T.k_Leg T.n_Leg_good lQ_g ?_
   walk_at "4"
   cases h3:goodly x.q with
   | false =>
    rw [h3] at k
    exact iteF k
   | true =>
    rw [h3] at k
    refine iteT ?_
    walk_at "4"
    refine r_kF he T.k_Leg T.n_Leg_amount lQ_a ?_
    walk_at "4"
    exact k
def spCut (K:PySem.W.Frag) (c:Cs):Sp:=fun vs H Q _=>∃ (a:Addr) (ns:List Int) (m:Nat),vs=[.ref a]∧SqL K H a (ns.map V.int)∧ns.length=4 * m∧m≤8 ∧
 ∀ H' r es,Same H H'→H r=none→H' r=some (.lst (es.map V.ref))→Paired (fun e x=>∃ dx,H' e=some (.ins c.leg dx (fQ x))) es (quads ns)→Q (.ref r) H'
theorem fn_cut_legs (T:Txt K mg c):Fn P w K mg base "cut_legs" 3 ["numbers"] (spCut K c):=by
 refine T.f_cut_legs.fn sc_cut_legs (fun vs H Q E h=>?_) (fun f cdv A outer sh H vs Q E hr h=>?_)
 ·obtain ⟨e,ns,m,rfl,_⟩:=h
  rfl
 obtain ⟨a,ns,m,rfl,hS,hl,hm,k⟩:=h
 have hu:=hu_of hr
 have nd:=sc_cut_legs.nd
 refine ⟨_,(pss_cons (ps_set (i:=1) nd rfl (Or.inl rfl) (pe_lst pa_nil))
   (pss_cons (ps_for PassesOwn.never rfl (pi_range3 rfl T.b_range (pa_cons pe_int (pa_cons (pe_callB call_len_seq rfl T.b_len boot_len (pa_cons (pv 0) pa_nil)) (pa_cons (pe_gint T.c_NUMBERS_OF_A_LEG) pa_nil)))) (pg_name (i:=2) nd rfl (Or.inl rfl)) (pss_one (ps_expr (pe_bm PySem.F.plainAttrs_list PySem.F.slot_list_append PySem.F.type_list_append mt_append (pv 1) (pa_cons (pe_mk (mk_Leg T) (hr.mono (by decide)) rfl (pa_cons (pe_ix ix_list (pv 0) (pv 2) (fun _ _=>rfl)) (pa_cons (pe_ix ix_list (pv 0) (pe_op op_add (pv 2) pe_int) (fun _ _=>rfl)) (pa_cons (pe_ix ix_list (pv 0) (pe_op op_add (pv 2) pe_int) (fun _ _=>rfl)) (pa_cons (pe_ix ix_list (pv 0) (pe_op op_add (pv 2) pe_int) (fun _ _=>rfl)) pa_nil))))) pa_nil)))))
   (pss_one (ps_ret (pv 1))))),?_⟩
 try simp only [Cx.nox,Cx.wish,cxOf]
 walk_at "4"
 refine r_kL (by show 0≤1000; decide) fun r hr0=>?_
 have s1:Same H (upd H r (.lst [])):=same_new hr0
 walk_at "4"
 refine r_forR3 ?_
 walk_at "4"
 refine ⟨a,_,rfl,.inl (s1.seq hS),?_⟩
 walk_at "4"
 rw [List.length_map]
 refine ⟨0,(ns.length:Int),4,m,rfl,rgc4 hl (by omega),for_rangeC (fun i σ' H'=>∃ v2 es,σ'=[some (.ref a),some (.ref r),v2]∧Same H H'∧H' r=some (.lst (es.map V.ref))∧Paired (fun e x=>∃ dx,H' e=some (.ins c.leg dx (fQ x))) es ((quads ns).take i))
  ⟨none,[],rfl,s1,upd_same,.nil⟩ ?_ ?_⟩
 ·rintro i σ' H' hi ⟨v2,es,rfl,s2,hr2,hp⟩
  obtain ⟨x,x0,x1,x2,x3,x4⟩:=quad_at m ns hl i hi
  have e0:(0:Int) + (i:Int) * 4=((4 * i:Nat):Int):=by omega
  have at_:∀ (d:Nat) (z:Int),ns[4 * i + d]?=some z→atI (ns.map V.int) (((4 * i:Nat):Int) + (d:Int))=some (.int z):=fun d z hz=>by
   have:((4 * i:Nat):Int) + (d:Int)=((4 * i + d:Nat):Int):=by omega
   rw [this]
   exact atI_nat (by rw [List.getElem?_map,hz]; rfl)
  have elen:es.length=i:=by
   have:=Paired.length hp
   rw [this,List.length_take,quads_len m ns hl]
   omega
  rw [e0]
  walk_at "4"
  refine r_kBl (.inl (.inl hr2)) ?_
  walk_at "4"
  refine r_ixL (s2.seq hS) (v:=.int x.a) (atI_nat (by rw [List.getElem?_map,x1]; rfl)) ?_
  walk_at "4"
  refine r_ixL (s2.seq hS) (v:=.int x.b) (at_ 1 _ x2) ?_
  walk_at "4"
  refine r_ixL (s2.seq hS) (v:=.int x.q) (at_ 2 _ x3) ?_
  walk_at "4"
  refine r_ixL (s2.seq hS) (v:=.int x.n) (at_ 3 _ x4) ?_
  walk_at "4"
  intro e de he0 hde0 hne
  refine ⟨e,de,_,_,_,_,rfl,upd_same,rfl,?_⟩
  rw [upd_upd,show ([("giver",V.int x.a),("taker",V.int x.b),("good",V.int x.q),("amount",V.int x.n)]:List (Str×V))=fQ x from rfl]
  have s3:Same H' (upd (upd H' de (.own e)) e (.ins c.leg de (fQ x))):=fun b o q=>by rw [upd_ne (ne_of_none q he0),upd_ne (ne_of_none q hde0)]; exact q
  have he3:upd (upd H' de (.own e)) e (.ins c.leg de (fQ x)) e=some (.ins c.leg de (fQ x)):=upd_same
  generalize upd (upd H' de (.own e)) e (.ins c.leg de (fQ x))=H3 at s3 he3 ⊢
  refine ⟨r,es.map V.ref,.ref e,rfl,rfl,s3 _ _ hr2,by rw [List.length_map]; exact small1000 (by omega),?_⟩
  refine ⟨_,es++[e],rfl,same_upd (s2.trans s3) hr0,by rw [upd_same,List.map_append]; rfl,?_⟩
  have kp:∀ b C d fs,H3 b=some (.ins C d fs)→upd H3 r (.lst (es.map V.ref++[V.ref e])) b=some (.ins C d fs):=fun b C d fs q=>by rw [upd_ne (ne_of q (s3 _ _ hr2) (by intro z; cases z))]; exact q
  rw [take_snoc x0]
  exact Paired_append (Paired.mapP hp fun b y ⟨d,q⟩=>⟨d,kp _ _ _ _ (s3 _ _ q)⟩) (.cons ⟨de,kp _ _ _ _ he3⟩ .nil)
 ·rintro σ' H' ⟨v2,es,rfl,s2,hr2,hp⟩
  rw [← quads_len m ns hl,List.take_length] at hp
  walk_at "4"
  exact k _ _ _ s2 hr0 hr2 hp
def okV (H:Hp):V→V
 | .ref e=>match H e with
  | some (.ins _ _ [(_,.int a),(_,.int b),(_,.int q),(_,.int n)])=>.bl (okQ ⟨a,b,q,n⟩)
  | _=>.non
 | _=>.non
theorem okV_at {H:Hp} {c:Cs} {e dl:Addr} {x:Q4} (h:H e=some (.ins c.leg dl (fQ x))):okV H (.ref e)=.bl (okQ x):=by
 show (match H e with | some (.ins _ _ [(_,.int a),(_,.int b),(_,.int q),(_,.int n)])=>V.bl (okQ ⟨a,b,q,n⟩) | _=>V.non)=_
 rw [h]
 rfl
theorem okV_map {H:Hp} {c:Cs}:∀ {es:List Addr} {l:List Q4},Paired (fun e x=>∃ dx,H e=some (.ins c.leg dx (fQ x))) es l→(es.map V.ref).map (okV H)=(l.map okQ).map V.bl
 | _,_,.nil=>rfl
 | _,_,.cons ⟨dx,h⟩ t=>by
  rw [List.map_cons,List.map_cons,List.map_cons,List.map_cons,okV_at h,okV_map t]
def spAre (K:PySem.W.Frag):Sp:=fun vs H Q _=>∃ (a:Addr) (ns:List Int),vs=[.ref a]∧SqL K H a (ns.map V.int)∧ns.length≤40∧∀ H',Same H H'→Q (.bl (legsFit ns)) H'
theorem fn_are_legs (T:Txt K mg c):Fn P w K mg base "are_legs" 4 ["numbers"] (spAre K):=by
 refine T.f_are_legs.fn sc_are_legs (fun vs H Q E h=>?_) (fun f cdv A outer sh H vs Q E hr h=>?_)
 ·obtain ⟨e,ns,rfl,_⟩:=h
  rfl
 obtain ⟨a,ns,rfl,hS,hz,k⟩:=h
 have hu:=hu_of hr
 have nd:=sc_are_legs.nd
 refine ⟨_,(pss_cons (ps_if (PW.pt (pw_or (pt_cmpR op_ne (pe_op op_mod (pe_callB call_len_seq rfl T.b_len boot_len (pa_cons (pv 0) pa_nil)) (pe_gint T.c_NUMBERS_OF_A_LEG)) pe_int (nomark _)) (pw_or1 (pt_not (pt_chain op_le op_le pe_int (pe_op op_fdiv (pe_callB call_len_seq rfl T.b_len boot_len (pa_cons (pv 0) pa_nil)) (pe_gint T.c_NUMBERS_OF_A_LEG)) (pe_gint T.c_MOST_LEGS)))))) (pss_one (ps_ret pe_bl)) pss_nil)
   (pss_one (ps_ret (pe_callB (cr_all rfl) rfl T.b_all L2.boot_all (pa_cons (pe_lc rfl nd (pi_list (pe_fn (fn_cut_legs T) (hr.mono (by decide)) rfl (pa_cons (pv 0) pa_nil))) (blkOk_by (own:=[("leg",1)]) (by simp only [Cx.nox,Cx.wish,cxOf,envOfC]; decide +kernel)) (fun _ _ _ _ _=>pg_name (i:=1) nd rfl (Or.inl rfl)) (fun _ _ _ _ _=>pts_nil) (fun _ _ _ _ _=>(pe_fn (fn_is_leg T) (hr.mono (by decide)) rfl (pa_cons (pv 1) pa_nil)))) pa_nil))))),?_⟩
 try simp only [Cx.nox,Cx.wish,cxOf]
 have no:(ns.length % 4≠0∨ns.length / 4 < 1∨8 < ns.length / 4)→legsFit ns=false:=fun h=>by
  cases e:legsFit ns with
  | false=>rfl
  | true =>
   unfold legsFit at e
   simp only [Bool.and_eq_true,decide_eq_true_eq] at e
   have h4:=legsIn_four _ _ (Nat.le_refl _) e.2.2
   have e2:ns.length≤4 * 8:=e.2.1
   omega
 walk_at "4"
 refine ⟨a,_,rfl,.inl hS,?_⟩
 walk_at "4"
 rw [List.length_map]
 refine r_I (by decide) ?_
 walk_at "4"
 by_cases h4:ns.length % 4=0
 ·refine ite2 (fun h=>?_) (fun _=>?_)
  ·rw [Bool.not_eq_true',decide_eq_false_iff_not] at h
   omega
  walk_at "4"
  refine ⟨a,_,rfl,.inl hS,?_⟩
  walk_at "4"
  rw [List.length_map]
  refine r_I ⟨by decide,by decide⟩ ?_
  walk_at "4"
  refine r_le2 ?_
  walk_at "4"
  by_cases h8:1≤ns.length / 4∧ns.length / 4≤8
  ·have hb:(decide ((1:Int)≤(ns.length:Int) / 4) && decide ((ns.length:Int) / 4≤8))=true:=by
    rw [Bool.and_eq_true,decide_eq_true_eq,decide_eq_true_eq]
    omega
   rw [hb]
   refine iteF ?_
   walk_at "4"
   have hl:ns.length=4 * (ns.length / 4):=by omega
   refine ⟨a,ns,ns.length / 4,rfl,hS,hl,h8.2,fun H1 r es s1 hr0 hr1 hp=>?_⟩
   have elen:es.length≤8:=by rw [Paired.length hp,quads_len _ _ hl]; exact h8.2
   refine r_kLc (i:=1) (xs:=es.map V.ref) (fun _=>true) (okV H1) (.inl (.inl hr1)) (by rw [List.length_map]; omega) (fun v hv H4 Qb s5 qq=>qq) (fun v hv _ H4 Q' s5 qq=>?_) (fun D hD0=>?_)
   ·obtain ⟨e,he,rfl⟩:=List.mem_map.mp hv
    obtain ⟨i,hi⟩:=List.getElem?_of_mem he
    obtain ⟨x,_,dl,hx⟩:=paired_get hp hi
    rw [okV_at hx] at qq
    walk_at "4"
    exact ⟨e,dl,x,rfl,s5 _ _ hx,qq⟩
   ·rw [List.filter_eq_self.mpr (fun _ _=>rfl),okV_map hp]
    have s2:=s1.trans (same_new (o:=.lst (((quads ns).map okQ).map V.bl)) hD0)
    refine ⟨D,_,rfl,.inl (.inl upd_same),?_⟩
    have e:legsFit ns=((quads ns).map okQ).all id:=by
     unfold legsFit
     rw [decide_eq_true (by omega),decide_eq_true (by show ns.length≤4 * 8; omega),legsIn_quads _ _ hl,List.all_map]
     rfl
    have:=k _ s2
    rw [e] at this
    exact this
  ·have hb:(decide ((1:Int)≤(ns.length:Int) / 4) && decide ((ns.length:Int) / 4≤8))=false:=by
    rw [Bool.and_eq_false_iff,decide_eq_false_iff_not,decide_eq_false_iff_not]
    omega
   rw [hb]
   refine iteT ?_
   walk_at "4"
   have:=k _ (Same.refl H)
   rw [no (by omega)] at this
   exact this
 ·refine ite2 (fun _=>?_) (fun h=>?_)
  ·refine iteT ?_
   walk_at "4"
   have:=k _ (Same.refl H)
   rw [no (by omega)] at this
   exact this
  ·rw [Bool.not_eq_true',decide_eq_false_iff_not] at h
   omega
end
def addk (ks:List Nat) (k:Nat):List Nat:=if k∈ks then ks else ks++[k]
theorem addk_put (ks:List Nat) (k:Nat):putK (sdk ks) (kI k) (.bl true)=sdk (addk ks k):=by
 unfold addk
 by_cases h:k∈ks
 ·rw [if_pos h,sdk_old h]
 ·rw [if_neg h,sdk_new h]
theorem addk_nodup {ks:List Nat} (h:ks.Nodup) (k:Nat):(addk ks k).Nodup:=by
 unfold addk
 by_cases e:k∈ks
 ·rw [if_pos e]; exact h
 ·rw [if_neg e,List.nodup_append]
  refine ⟨h,by simp,fun a ha b hb q=>?_⟩
  rw [List.mem_singleton] at hb
  exact e (hb ▸ q ▸ ha)
theorem addk_mem {ks:List Nat} {k j:Nat}:j∈addk ks k↔j∈ks∨j=k:=by
 unfold addk
 by_cases e:k∈ks
 ·rw [if_pos e]
  exact ⟨.inl,fun h=>h.elim id fun q=>q ▸ e⟩
 ·rw [if_neg e,List.mem_append,List.mem_singleton]
theorem addk_len (ks:List Nat) (k:Nat):(addk ks k).length≤ks.length + 1:=by
 unfold addk
 by_cases e:k∈ks
 ·rw [if_pos e]; omega
 ·rw [if_neg e,List.length_append]
  exact Nat.le_refl _
theorem O0.addG {c:Cs} {H H1:Hp} {p:Addr} {L:Lay} {x:GrpL} (h:O0 c H p L) (s:Same H H1) (hx:GrpO c H1 x) (ng:H x.g=none) (nl:H x.le=none) :
  O0 c (upd H1 L.pg (.dK (L.dg++[(kI x.grp.key,.ref x.g)]))) p ⟨L.pa,L.pg,L.as,L.gs++[x]⟩:=by
 have h1:=h.same s
 have kD:∀ b o,H1 b=some o→b≠L.pg→upd H1 L.pg (.dK (L.dg++[(kI x.grp.key,.ref x.g)])) b=some o:=fun b o e hb=>by rw [upd_ne hb]; exact e
 have kk:∀ b o,H1 b=some o→(∀ kvs,o ≠ .dK kvs)→upd H1 L.pg (.dK (L.dg++[(kI x.grp.key,.ref x.g)])) b=some o:=fun b o e hb=>kD b o e (ne_of e h1.eg (hb _))
 have kg:∀ z,GrpO c H1 z→GrpO c (upd H1 L.pg (.dK (L.dg++[(kI x.grp.key,.ref x.g)]))) z:=fun z q=>by
  obtain ⟨dx,e⟩:=q.o
  exact ⟨⟨dx,kk _ _ e (fun _ q=>by cases q)⟩,kk _ _ q.le (fun _ q=>by cases q),Paired.mapP q.legs fun a l ⟨dl,hl⟩=>⟨dl,kk _ _ hl (fun _ q=>by cases q)⟩⟩
 refine ⟨?_,kD _ _ h1.ea h.pp,?_,fun y hy=>?_,fun z hz=>?_,h.ap,fun y hy=>?_,?_,h.pp⟩
 ·obtain ⟨dx,e⟩:=h1.o
  exact ⟨dx,kk _ _ e fun _ q=>by cases q⟩
 ·show upd H1 L.pg _ L.pg=some (.dK ((L.gs++[x]).map _))
  rw [upd_same,List.map_append]
  rfl
 ·have q:=h1.as y hy
  have i:=h.in1 y hy
  obtain ⟨dx,e⟩:=q.o
  exact ⟨⟨dx,kk _ _ e fun _ q=>by cases q⟩,kD _ _ q.am i.mg,kD _ _ q.li i.lg,kk _ _ q.ro fun _ q=>by cases q⟩
 ·rcases List.mem_append.mp hz with hz | hz
  ·exact kg z (h1.gs z hz)
  ·rw [List.mem_singleton] at hz
   subst hz
   exact kg _ hx
 ·have i:=h.in1 y hy
  refine ⟨i.ml,i.ma,i.mg,i.la,i.lg,fun z hz=>?_⟩
  rcases List.mem_append.mp hz with hz | hz
  ·exact i.rl z hz
  ·rw [List.mem_singleton] at hz
   subst hz
   exact ne_of_none (h.as y hy).ro nl
 ·refine List.pairwise_append.mpr ⟨h.gp,List.pairwise_singleton _ _,fun y hy z hz=>?_⟩
  rw [List.mem_singleton] at hz
  subst hz
  obtain ⟨dx,e⟩:=(h.gs y hy).o
  exact ne_of_none e ng
theorem okQ_nat {x:Q4} (h:okQ x=true):fQ x=fL (natQ x)∧1≤(natQ x).good∧(natQ x).good≤4:=by
 unfold okQ at h
 simp only [Bool.and_eq_true] at h
 obtain ⟨h1,h2,h3,h4⟩:=h
 obtain ⟨a,ea,ea',_⟩:=keyed_nat h1
 obtain ⟨b,eb,eb',_⟩:=keyed_nat h2
 obtain ⟨q,eq,eq',hq⟩:=goodly_nat h3
 obtain ⟨n,en,en',_⟩:=within_nat h4
 have hg:=goods4 hq
 constructor
 ·unfold fQ fL natQ vI
  simp only []
  rw [ea',eb',eq',en',ea,eb,eq,en]
 ·show 1≤x.q.toNat∧x.q.toNat≤4
  rw [eq']
  omega
theorem paired_nat {c:Cs} {H:Hp}:∀ {es:List Addr} {l:List Q4},Paired (fun e x=>∃ dx,H e=some (.ins c.leg dx (fQ x))) es l→l.all okQ=true→Paired (fun e x=>∃ dx,H e=some (.ins c.leg dx (fL x))) es (l.map natQ)
 | _,_,.nil,_=>.nil
 | _,_,.cons ⟨dx,h⟩ t,hk=>by
  rw [List.all_cons,Bool.and_eq_true] at hk
  rw [List.map_cons]
  exact .cons ⟨dx,by rw [← (okQ_nat hk.1).1]; exact h⟩ (paired_nat t hk.2)
def selfV (H:Hp):V→V
 | .ref e=>match H e with
  | some (.ins _ _ [(_,.int a),(_,.int b),_,_])=>.bl (decide (a=b))
  | _=>.non
 | _=>.non
theorem selfV_at {H:Hp} {c:Cs} {e dl:Addr} {x:Vbchak.Leg} (h:H e=some (.ins c.leg dl (fL x))):selfV H (.ref e)=.bl (decide ((x.from_:Int)=(x.to:Int))):=by
 show (match H e with | some (.ins _ _ [(_,.int a),(_,.int b),_,_])=>V.bl (decide (a=b)) | _=>V.non)=_
 rw [h]
 rfl
theorem selfV_map {H:Hp} {c:Cs}:∀ {es:List Addr} {l:List Vbchak.Leg},Paired (fun e x=>∃ dx,H e=some (.ins c.leg dx (fL x))) es l→(es.map V.ref).map (selfV H)=(l.map fun x=>x.from_ == x.to).map V.bl
 | _,_,.nil=>rfl
 | _,_,.cons (b:=b) ⟨dx,h⟩ t=>by
  rw [List.map_cons,List.map_cons,List.map_cons,List.map_cons,selfV_at h,selfV_map t]
  congr 2
  by_cases e:b.from_=b.to
  ·rw [e]; simp
  ·rw [decide_eq_false (by omega)]
   simp [e]
def bump (m:Nat) (js:List Nat) (y:AccL):AccL:=if js.contains y.acc.key=true then ⟨y.a,y.am,y.li,y.ro,{ y.acc with row:=y.acc.row++[m] }⟩ else y
theorem bump_in {m:Nat} {js:List Nat} {y:AccL} (h:y.acc.key∈js):bump m js y=⟨y.a,y.am,y.li,y.ro,{ y.acc with row:=y.acc.row++[m] }⟩:=by
 unfold bump
 rw [if_pos (List.contains_iff_mem.mpr h)]
theorem bump_out {m:Nat} {js:List Nat} {y:AccL} (h:¬ y.acc.key∈js):bump m js y=y:=by
 unfold bump
 rw [if_neg (fun e=>h (List.contains_iff_mem.mp e))]
theorem bump_ad (m:Nat) (js:List Nat) (y:AccL):(bump m js y).a=y.a∧(bump m js y).am=y.am∧(bump m js y).li=y.li∧(bump m js y).ro=y.ro∧(bump m js y).acc.key=y.acc.key:=by
 by_cases h:y.acc.key∈js
 ·rw [bump_in h]; exact ⟨rfl,rfl,rfl,rfl,rfl⟩
 ·rw [bump_out h]; exact ⟨rfl,rfl,rfl,rfl,rfl⟩
theorem bump_da (m:Nat) (js:List Nat) (L:Lay) (gs:List GrpL):(⟨L.pa,L.pg,L.as.map (bump m js),gs⟩:Lay).da=L.da:=by
 show (L.as.map (bump m js)).map _=L.as.map _
 rw [List.map_map]
 refine List.map_congr_left fun y _=>?_
 obtain ⟨h1,_,_,_,h5⟩:=bump_ad m js y
 show (kI (bump m js y).acc.key,V.ref (bump m js y).a)=_
 rw [h1,h5]
section
variable {P:Program} {w:World} {K:PySem.W.Frag} {mg:Str→Option Value} {base:Heap} {c:Cs}
def spTch (K:PySem.W.Frag) (c:Cs):Sp:=fun vs H Q _=>∃ (a:Addr) (es:List Addr) (ls:List Vbchak.Leg),vs=[.ref a]∧SqL K H a (es.map V.ref)∧Paired (fun e x=>∃ dx,H e=some (.ins c.leg dx (fL x))) es ls∧ls.length≤8 ∧
 ∀ (H':Hp) (r:Addr) (ks:List Nat),Same H H'→H r=none→H' r=some (.lst (ks.map vI))→ks.Nodup→(∀ k,k∈ks↔∃ x,x∈ls∧(x.from_=k∨x.to=k))→Q (.ref r) H'
theorem fn_touched_accounts (T:Txt K mg c):Fn P w K mg base "touched_accounts" 1 ["legs"] (spTch K c):=by
 refine T.f_touched_accounts.fn sc_touched_accounts (fun vs H Q E h=>?_) (fun f cdv A outer sh H vs Q E hr h=>?_)
 ·obtain ⟨e,ns,m,rfl,_⟩:=h
  rfl
 obtain ⟨a,es,ls,rfl,hS,hp,h8,k⟩:=h
 have hu:=hu_of hr
 have nd:=sc_touched_accounts.nd
 refine ⟨_,(pss_cons (ps_set (i:=1) nd rfl (Or.inl rfl) pe_dnewK)
   (pss_cons (ps_for PassesOwn.never rfl (pi_list (pv 0)) (pg_name (i:=2) nd rfl (Or.inl rfl)) (pss_cons (ps_dput hu (pv 1) (pe_fld (pv 2) rfl) pe_bl rfl)
   (pss_one (ps_dput hu (pv 1) (pe_fld (pv 2) rfl) pe_bl rfl))))
   (pss_one (ps_ret (pe_callTy (call_listD rfl) rfl T.b_list L2.boot_list (pa_cons (pv 1) pa_nil)))))),?_⟩
 try simp only [Cx.nox,Cx.wish,cxOf]
 walk_at "4"
 intro d hd0
 have s1:Same H (upd H d (.dK [])):=same_new hd0
 walk_at "4"
 refine r_kFor (K:=K) (a:=a) (xs:=es.map V.ref) (fun j σ' H'=>∃ v2 ks,σ'=[some (.ref a),some (.ref d),v2]∧Same H H'∧SetAt H' d ks∧ks.Nodup∧ks.length≤2 * j∧j≤es.length∧∀ k,k∈ks↔∃ x,x∈ls.take j∧(x.from_=k∨x.to=k))
  ⟨none,[],rfl,s1,upd_same,List.nodup_nil,Nat.le_refl _,Nat.zero_le _,fun k=>⟨fun h=>(by cases h),fun ⟨x,h,_⟩=>(by simp at h)⟩⟩ (fun j σ' H' ⟨_,_,_,s2,_⟩=>s2.seq hS) ?_ ?_
 ·rintro j v σ' H' D2 hv ⟨v2,ks,rfl,s2,hd,hn,hl,hj,hm⟩ hD
  obtain ⟨e,hej,rfl⟩:=map_at hv
  obtain ⟨x,hxj,dx,hx⟩:=paired_get hp hej
  have hjl:j < es.length:=(List.getElem?_eq_some_iff.mp hej).1
  have hle:=Paired.length hp
  walk_at "4"
  refine r_kF (s2 _ _ hx) T.k_Leg T.n_Leg_giver lL_f ?_
  refine r_kDP (j:=(x.from_:Int)) hd (by rw [sdk_len]; exact small1000 (by omega)) ?_
  rw [show (Sum.inl (x.from_:Int):Key)=kI x.from_ from rfl,addk_put]
  have s3:Same H (upd H' d (.dK (sdk (addk ks x.from_)))):=same_upd s2 hd0
  have hd3:upd H' d (.dK (sdk (addk ks x.from_))) d=some (.dK (sdk (addk ks x.from_))):=upd_same
  generalize upd H' d (.dK (sdk (addk ks x.from_)))=H3 at s3 hd3 ⊢
  have hl3:=addk_len ks x.from_
  walk_at "4"
  refine r_kF (s3 _ _ hx) T.k_Leg T.n_Leg_taker lL_t ?_
  refine r_kDP (j:=(x.to:Int)) hd3 (by rw [sdk_len]; exact small1000 (by omega)) ?_
  rw [show (Sum.inl (x.to:Int):Key)=kI x.to from rfl,addk_put]
  have hl4:=addk_len (addk ks x.from_) x.to
  refine hD _ _ ⟨_,addk (addk ks x.from_) x.to,rfl,same_upd s3 hd0,upd_same,addk_nodup (addk_nodup hn _) _,by omega,hjl,fun k=>?_⟩
  rw [addk_mem,addk_mem,hm,take_snoc hxj]
  constructor
  ·rintro ((⟨y,hy,h⟩ | h) | h)
   ·exact ⟨y,List.mem_append_left _ hy,h⟩
   ·exact ⟨x,List.mem_append_right _ (List.mem_singleton.mpr rfl),.inl h.symm⟩
   ·exact ⟨x,List.mem_append_right _ (List.mem_singleton.mpr rfl),.inr h.symm⟩
  ·rintro ⟨y,hy,h⟩
   rcases List.mem_append.mp hy with hy | hy
   ·exact .inl (.inl ⟨y,hy,h⟩)
   ·rw [List.mem_singleton] at hy
    subst hy
    rcases h with h | h
    ·exact .inl (.inr h.symm)
    ·exact .inr h.symm
 ·rintro σ' H' ⟨v2,ks,rfl,s2,hd,hn,hl,hj,hm⟩
  walk_at "4"
  refine ⟨d,_,rfl,.inl hd,fun r hr0=>?_⟩
  have e:(sdk ks).map (fun kv=>kV kv.1)=ks.map vI:=by
   unfold sdk
   rw [List.map_map]
   rfl
  rw [e]
  refine k _ r ks (s2.trans (same_new hr0)) (s2.free hr0) upd_same hn fun k=>?_
  rw [hm,List.length_map,Paired.length hp,List.take_length]
def absV (L:Lay):V→V
 | .int i=>.bl (!(valV L.da (Sum.inl i)).isSome)
 | _=>.non
def spAddG (K:PySem.W.Frag) (c:Cs):Sp:=fun vs H Q _=>∃ (p a:Addr) (L:Lay) (s:State) (k:Int) (ns:List Int),vs=[.ref p,.int k,.ref a]∧O0 c H p L∧R L.st s∧SqL K H a (ns.map V.int)∧ns.length≤40∧Chg c H p L Q (Vbchak.step s (.group k ns)).1 (Vbchak.step s (.group k ns)).2
theorem fn_add_group (T:Txt K mg c):Fn P w K mg base "add_group" 5 ["house","key","numbers"] (spAddG K c):=by
 refine T.f_add_group.fn sc_add_group (fun vs H Q E h=>?_) (fun f cdv A outer sh H vs Q E hr h=>?_)
 ·obtain ⟨p,a,L,s,n,ns,rfl,_⟩:=h
  rfl
 obtain ⟨p,a,L,s,n,ns,rfl,ho,hR,hS,hz,k⟩:=h
 have hu:=hu_of hr
 have nd:=sc_add_group.nd
 refine ⟨_,(pss_cons (ps_if (pt_not (PW.pt (pw_and (pt_val (pe_fn (fn_is_key T) (hr.mono (by decide)) rfl (pa_cons (pv 1) pa_nil))) (pw_and1 (pt_val (pe_fn (fn_are_legs T) (hr.mono (by decide)) rfl (pa_cons (pv 2) pa_nil))))))) (pss_one (ps_ret (pe_lst (pa_cons (pe_gint T.c_OUT_OF_RANGE) pa_nil)))) pss_nil)
   (pss_cons (ps_set (i:=3) nd rfl (Or.inl rfl) (pe_fn (fn_cut_legs T) (hr.mono (by decide)) rfl (pa_cons (pv 2) pa_nil)))
   (pss_cons (ps_if (pt_val (pe_callB (cr_any rfl) rfl T.b_any L2.boot_any (pa_cons (pe_lc rfl nd (pi_list (pv 3)) (blkOk_by (own:=[("leg",6)]) (by simp only [Cx.nox,Cx.wish,cxOf,envOfC]; decide +kernel)) (fun _ _ _ _ _=>pg_name (i:=6) nd rfl (Or.inl rfl)) (fun _ _ _ _ _=>pts_nil) (fun _ _ _ _ _=>(pe_cmpR op_eq (pe_fldK (K:=K) rfl (pv 6) rfl) (pe_fldK (K:=K) rfl (pv 6) rfl) (nomark _)))) pa_nil))) (pss_one (ps_ret (pe_lst (pa_cons (pe_gint T.c_TWICE) pa_nil)))) pss_nil)
   (pss_cons (ps_if (pt_cmp (pc_din hu (pv 1) (pe_fld (pv 0) rfl)) rfl) (pss_one (ps_ret (pe_lst (pa_cons (pe_gint T.c_KEY_TAKEN) pa_nil)))) pss_nil)
   (pss_cons (ps_set (i:=4) nd rfl (Or.inl rfl) (pe_fn (fn_touched_accounts T) (hr.mono (by decide)) rfl (pa_cons (pv 3) pa_nil)))
   (pss_cons (ps_if (pt_val (pe_callB (cr_any rfl) rfl T.b_any L2.boot_any (pa_cons (pe_lc rfl nd (pi_list (pv 4)) (blkOk_by (own:=[("account_key",5)]) (by simp only [Cx.nox,Cx.wish,cxOf,envOfC]; decide +kernel)) (fun _ _ _ _ _=>pg_name (i:=5) nd rfl (Or.inl rfl)) (fun _ _ _ _ _=>pts_nil) (fun _ _ _ _ _=>(pe_cmp (pc_dnotin hu (pv 5) (pe_fldK (K:=K) rfl (pv 0) rfl)) rfl))) pa_nil))) (pss_one (ps_ret (pe_lst (pa_cons (pe_gint T.c_NOT_THERE) pa_nil)))) pss_nil)
   (pss_cons (ps_if (pt_cmpR op_eq (pe_callB call_lenD rfl T.b_len boot_len (pa_cons (pe_fld (pv 0) rfl) pa_nil)) (pe_gint T.c_MOST_GROUPS) (nomark _)) (pss_one (ps_ret (pe_lst (pa_cons (pe_gint T.c_FULL) pa_nil)))) pss_nil)
   (pss_cons (ps_dput hu (pe_fld (pv 0) rfl) (pv 1) (pe_mk (mk_Group T) (hr.mono (by decide)) rfl (pa_cons (pv 3) pa_nil)) rfl)
   (pss_cons (ps_for PassesOwn.never rfl (pi_list (pv 4)) (pg_name (i:=5) nd rfl (Or.inl rfl)) (pss_one (ps_expr (pe_bm PySem.F.plainAttrs_list PySem.F.slot_list_append PySem.F.type_list_append mt_append (pe_fld (pe_dget hu (pe_fld (pv 0) rfl) (pv 5) (fun _ _=>rfl)) rfl) (pa_cons (pv 1) pa_nil)))))
   (pss_one (ps_ret (pe_lst (pa_cons pe_int pa_nil))))))))))))),?_⟩
 try simp only [Cx.nox,Cx.wish,cxOf]
 have hx:=ho.hx hR
 obtain ⟨dx,hp⟩:=ho.o
 have hstep:Vbchak.step s (.group n ns)=if (keyed n && legsFit ns)=false then (s,[-1]) else if ((legsOf ns).any fun x=>x.from_ == x.to)=true then (s,[-3]) else if (groupAt s n.toNat).isSome=true then (s,[-2]) else if ((legsOf ns).all fun x=>(accountAt s x.from_).isSome && (accountAt s x.to).isSome)=false then (s,[-4]) else if Vbchak.GROUPS≤s.groups.length then (s,[-9]) else (⟨s.accounts.map (rowPlus ⟨n.toNat,false,legsOf ns⟩),Vbchak.putGroup ⟨n.toNat,false,legsOf ns⟩ s.groups⟩,[0]):=rfl
 walk_at "4"
 cases hk:keyed n with
 | false =>
  rw [hstep,if_pos (by rw [hk]; rfl)] at k
  refine iteF (iteT ?_)
  walk_at "4"
  exact r_kL (by show 1≤1000; decide) fun z hz0=>k.no ho hR (Same.refl _) hz0 rfl
 | true =>
  refine iteT ?_
  walk_at "4"
  refine ⟨a,ns,rfl,hS,hz,fun H1 s1=>?_⟩
  walk_at "4"
  cases hf:legsFit ns with
  | false =>
   rw [hstep,if_pos (by rw [hk,hf]; rfl)] at k
   refine iteT ?_
   walk_at "4"
   exact r_kL (by show 1≤1000; decide) fun z hz0=>k.no ho hR s1 hz0 rfl
  | true =>
   rw [if_neg (by rw [hk,hf]; decide)] at hstep
   refine iteF ?_
   obtain ⟨m,rfl,em,hm1,hm2⟩:=keyed_nat hk
   rw [em] at hstep
   have hf':=hf
   unfold legsFit at hf'
   simp only [Bool.and_eq_true,decide_eq_true_eq] at hf'
   obtain ⟨hf1,hf2,hf3⟩:=hf'
   have h4:=legsIn_four _ _ (Nat.le_refl _) hf3
   have hf2':ns.length≤4 * 8:=hf2
   have hl:ns.length=4 * (ns.length / 4):=by omega
   have hok:(quads ns).all okQ=true:=by rw [← legsIn_quads _ _ hl]; exact hf3
   walk_at "4"
   refine ⟨a,ns,ns.length / 4,rfl,s1.seq hS,hl,by omega,fun H2 r2 es s2 hr20 hr2 hpq=>?_⟩
   have hpn:=paired_nat hpq hok
   rw [← legsOf_quads _ _ hl] at hpn
   have hlen8:(legsOf ns).length≤8:=by rw [legsOf_quads _ _ hl,List.length_map,quads_len _ _ hl]; omega
   have hes:es.length≤8:=by rw [Paired.length hpn]; exact hlen8
   have hgood:∀ x,x∈legsOf ns→1≤x.good∧x.good≤4:=fun x hx'=>by
    rw [legsOf_quads _ _ hl] at hx'
    obtain ⟨y,hy,rfl⟩:=List.mem_map.mp hx'
    exact (okQ_nat (List.all_eq_true.mp hok y hy)).2
   have s12:=s1.trans s2
   walk_at "4"
   refine r_kLc (i:=6) (xs:=es.map V.ref) (fun _=>true) (selfV H2) (.inl (.inl hr2)) (by rw [List.length_map]; omega) (fun v hv H4 Qb s5 qq=>qq) (fun v hv _ H4 Q' s5 qq=>?_) (fun D hD0=>?_)
   ·obtain ⟨e,he,rfl⟩:=List.mem_map.mp hv
    obtain ⟨i,hi⟩:=List.getElem?_of_mem he
    obtain ⟨x,_,dl,hxo⟩:=paired_get hpn hi
    rw [selfV_at hxo] at qq
    walk_at "4"
    refine r_kF (s5 _ _ hxo) T.k_Leg T.n_Leg_giver lL_f ?_
    walk_at "4"
    refine r_kF (s5 _ _ hxo) T.k_Leg T.n_Leg_taker lL_t ?_
    walk_at "4"
    exact r_eqI (a:=(x.from_:Int)) (b:=(x.to:Int)) qq
   rw [List.filter_eq_self.mpr (fun _ _=>rfl),selfV_map hpn]
   have s3:=same_new (o:=.lst (((legsOf ns).map fun x=>x.from_ == x.to).map V.bl)) hD0
   have hD3:upd H2 D (.lst (((legsOf ns).map fun x=>x.from_ == x.to).map V.bl)) D=some (.lst (((legsOf ns).map fun x=>x.from_ == x.to).map V.bl)):=upd_same
   generalize upd H2 D (.lst (((legsOf ns).map fun x=>x.from_ == x.to).map V.bl))=H3 at s3 hD3 ⊢
   have s13:=s12.trans s3
   walk_at "4"
   refine ⟨D,_,rfl,.inl (.inl hD3),?_⟩
   walk_at "4"
   rw [List.any_map,show (id∘fun x:Vbchak.Leg=>x.from_ == x.to)=fun x=>x.from_ == x.to from rfl]
   cases hself:(legsOf ns).any fun x=>x.from_ == x.to with
   | true =>
    rw [hstep,if_pos hself] at k
    refine iteT ?_
    walk_at "4"
    exact r_kL (by show 1≤1000; decide) fun z hz0=>k.no ho hR s13 hz0 rfl
   | false =>
    rw [if_neg (by rw [hself]; decide)] at hstep
    refine iteF ?_
    have hx3:=hx.same s13
    have hp3:=s13 _ _ hp
    walk_at "4"
    refine r_kF hp3 T.k_House T.n_House_groups lH_g ?_
    refine r_kDI (j:=(m:Int)) hx3.at_.dg ?_
    walk_at "4"
    cases hg:groupAt s m with
    | some g =>
     rw [dg_there hR hg]
     rw [hstep,if_pos (by rw [hg]; rfl)] at k
     refine iteT ?_
     walk_at "4"
     exact r_kL (by show 1≤1000; decide) fun z hz0=>k.no ho hR s13 hz0 rfl
    | none =>
     rw [dg_none hR hg]
     rw [hg,if_neg (by decide)] at hstep
     refine iteF ?_
     have hpn3:Paired (fun e x=>∃ dx,H3 e=some (.ins c.leg dx (fL x))) es (legsOf ns):=Paired.mapP hpn fun e x ⟨d,q⟩=>⟨d,s3 _ _ q⟩
     walk_at "4"
     refine ⟨r2,es,legsOf ns,rfl,.inl (.inl (s3 _ _ hr2)),hpn3,hlen8,fun H4 r4 ks s4 hr40 hr4 hkn hkm=>?_⟩
     have s14:=s13.trans s4
     have hx4:=hx.same s14
     have hp4:=s14 _ _ hp
     have hks:ks.length≤16:=by
      have hsub:ks.length≤((legsOf ns).map (·.from_)++(legsOf ns).map (·.to)).length:=by
       refine hkn.length_le_of_subset fun j hj=>?_
       obtain ⟨x,hx',e⟩:=(hkm j).mp hj
       rcases e with e | e
       ·exact List.mem_append_left _ (List.mem_map.mpr ⟨x,hx',e⟩)
       ·exact List.mem_append_right _ (List.mem_map.mpr ⟨x,hx',e⟩)
      rw [List.length_append,List.length_map,List.length_map] at hsub
      omega
     walk_at "4"
     refine r_kLc (i:=5) (xs:=ks.map vI) (fun _=>true) (absV L) (.inl (.inl hr4)) (by rw [List.length_map]; omega) (fun v hv H4 Qb s5 qq=>qq) (fun v hv _ H4 Q' s5 qq=>?_) (fun D2 hD20=>?_)
     ·obtain ⟨j,hj,rfl⟩:=List.mem_map.mp hv
      have hx5:=hx4.same s5
      walk_at "4"
      refine r_kF (s5 _ _ hp4) T.k_House T.n_House_accounts lH_a ?_
      exact r_kDN (j:=(j:Int)) hx5.at_.da qq
     have hlist:((ks.map vI).filter fun _=>true).map (absV L)=(ks.map fun j=>!(accountAt s j).isSome).map V.bl:=by
      rw [List.filter_eq_self.mpr (fun _ _=>rfl),List.map_map,List.map_map]
      refine List.map_congr_left fun j _=>?_
      show V.bl (!(valV L.da (kI j)).isSome)=V.bl (!(accountAt s j).isSome)
      rw [da_some hR]
     rw [hlist]
     have s5:=same_new (o:=.lst ((ks.map fun j=>!(accountAt s j).isSome).map V.bl)) hD20
     have hD5:upd H4 D2 (.lst ((ks.map fun j=>!(accountAt s j).isSome).map V.bl)) D2=some (.lst ((ks.map fun j=>!(accountAt s j).isSome).map V.bl)):=upd_same
     generalize upd H4 D2 (.lst ((ks.map fun j=>!(accountAt s j).isSome).map V.bl))=H5 at s5 hD5 ⊢
     have s15:=s14.trans s5
     have hx5:=hx.same s15
     have hp5:=s15 _ _ hp
     walk_at "4"
     refine ⟨D2,_,rfl,.inl (.inl hD5),?_⟩
     walk_at "4"
     have hany:((ks.map fun j=>!(accountAt s j).isSome).any id) = !((legsOf ns).all fun x=>(accountAt s x.from_).isSome && (accountAt s x.to).isSome):=by
      rw [Bool.eq_iff_iff,Bool.not_eq_true',← Bool.not_eq_true,List.any_eq_true,List.all_eq_true]
      constructor
      ·rintro ⟨b,hb,e⟩ h
       obtain ⟨j,hj,rfl⟩:=List.mem_map.mp hb
       obtain ⟨x,hx',e'⟩:=(hkm j).mp hj
       have h2:=h x hx'
       rw [Bool.and_eq_true] at h2
       have e2:(!(accountAt s j).isSome)=true:=e
       rcases e' with rfl | rfl
       ·rw [h2.1] at e2; cases e2
       ·rw [h2.2] at e2; cases e2
      ·intro h
       refine Classical.byContradiction fun hno=>h fun x hx'=>?_
       have h1:∀ j,j∈ks→(accountAt s j).isSome=true:=fun j hj=>by
        cases e:(accountAt s j).isSome with
        | true=>rfl
        | false=>exact absurd ⟨_,List.mem_map.mpr ⟨j,hj,rfl⟩,by rw [e]; rfl⟩ hno
       rw [Bool.and_eq_true]
       exact ⟨h1 _ ((hkm _).mpr ⟨x,hx',.inl rfl⟩),h1 _ ((hkm _).mpr ⟨x,hx',.inr rfl⟩)⟩
     rw [hany]
     cases hall:(legsOf ns).all fun x=>(accountAt s x.from_).isSome && (accountAt s x.to).isSome with
     | false =>
      rw [hstep,if_pos hall] at k
      refine iteT ?_
      walk_at "4"
      exact r_kL (by show 1≤1000; decide) fun z hz0=>k.no ho hR s15 hz0 rfl
     | true =>
      rw [if_neg (by rw [hall]; decide)] at hstep
      refine iteF ?_
      walk_at "4"
      refine r_kF hp5 T.k_House T.n_House_groups lH_g ?_
      walk_at "4"
      refine ⟨L.pg,_,rfl,hx5.eg,?_⟩
      have hlen:L.dg.length=s.groups.length:=by
       unfold Lay.dg
       rw [List.length_map,← hR.pg.length_eq]
       exact (List.length_map ..).symm
      walk_at "4"
      rw [hlen]
      have hg24:=hR.good.g24
      by_cases h24:s.groups.length=24
      ·rw [hstep,if_pos (by rw [h24]; decide)] at k
       refine ite2 (fun _=>?_) (fun hno=>absurd (by rw [decide_eq_true_eq,h24]; rfl) hno)
       walk_at "4"
       exact r_kL (by show 1≤1000; decide) fun z hz0=>k.no ho hR s15 hz0 rfl
      rw [hstep,if_neg (by show ¬ 24≤s.groups.length; omega)] at k
      refine ite2 (fun hyes=>absurd (of_decide_eq_true hyes) (by omega)) (fun _=>?_)
      walk_at "4"
      intro xg dgx hxg hdgx hne
      refine ⟨xg,dgx,_,rfl,upd_same,rfl,?_⟩
      rw [upd_upd,show ([("legs",V.ref r2),("held",V.int 0)]:List (Str×V))=fG r2 false from rfl]
      have s6:Same H5 (upd (upd H5 dgx (.own xg)) xg (.ins c.grp dgx (fG r2 false))):=fun b o q=>by rw [upd_ne (ne_of_none q hxg),upd_ne (ne_of_none q hdgx)]; exact q
      have hg6:upd (upd H5 dgx (.own xg)) xg (.ins c.grp dgx (fG r2 false)) xg=some (.ins c.grp dgx (fG r2 false)):=upd_same
      generalize upd (upd H5 dgx (.own xg)) xg (.ins c.grp dgx (fG r2 false))=H6 at s6 hg6 ⊢
      have s16:=s15.trans s6
      have ho6:=ho.same s16
      walk_at "4"
      refine r_kF (s16 _ _ hp) T.k_House T.n_House_groups lH_g ?_
      walk_at "4"
      have hnk:¬ kI m∈L.dg.map (·.1):=fun mm=>by
       rw [dg_keys] at mm
       obtain ⟨j,hj,e⟩:=List.mem_map.mp mm
       obtain ⟨y,hy,e2⟩:=List.mem_map.mp hj
       exact groupAt_none hg y.grp (grp_lay hR hy) (by rw [e2]; exact kI_inj e)
      refine r_kDP (j:=(m:Int)) ho6.eg (by rw [hlen]; exact small1000 (by omega)) ?_
      rw [show (Sum.inl (m:Int):Key)=kI m from rfl,putK_new _ (valV_out hnk)]
      have s46:=s4.trans (s5.trans s6)
      have hO:=ho.addG (x:=⟨xg,r2,es,⟨m,false,legsOf ns⟩⟩) s16 ⟨⟨dgx,hg6⟩,s46 _ _ (s3 _ _ hr2),Paired.mapP hpn3 fun e x ⟨d,q⟩=>⟨d,s46 _ _ q⟩⟩ (s15.free hxg) (s1.free hr20)
      have k7:∀ b o,H6 b=some o→b≠L.pg→upd H6 L.pg (.dK (L.dg++[(kI m,.ref xg)])) b=some o:=fun b o e hb=>by rw [upd_ne hb]; exact e
      have t7:∀ b o,H6 b=some o→∃ o',upd H6 L.pg (.dK (L.dg++[(kI m,.ref xg)])) b=some o':=fun b o e=>by
       by_cases hb:b=L.pg
       ·exact ⟨_,by rw [hb,upd_same]⟩
       ·exact ⟨o,k7 b o e hb⟩
      have hr46:=s6 _ _ (s5 _ _ hr4)
      have hr47:=k7 _ _ hr46 (ne_of hr46 ho6.eg (by intro z; cases z))
      change O0 c (upd H6 L.pg (.dK (L.dg++[(kI m,.ref xg)]))) p _ at hO
      generalize upd H6 L.pg (.dK (L.dg++[(kI m,.ref xg)]))=H7 at hO k7 t7 hr47 ⊢
      have hr4H:H r4=none:=s13.free hr40
      have hr4ro:∀ y,y∈L.as→r4≠y.ro:=fun y hy=>Ne.symm (ne_of_none (ho.as y hy).ro hr4H)
      walk_at "4"
      refine r_kFor (K:=K) (a:=r4) (xs:=ks.map vI) (fun j σ' H'=>∃ v5 v6,σ'=[some (.ref p),some (.int (m:Int)),some (.ref a),some (.ref r2),some (.ref r4),v5,v6]∧O0 c H' p ⟨L.pa,L.pg,L.as.map (bump m (ks.take j)),L.gs++[⟨xg,r2,es,⟨m,false,legsOf ns⟩⟩]⟩∧(∀ b o,H7 b=some o→(∀ y,y∈L.as→b≠y.ro)→H' b=some o)∧(∀ b o,H7 b=some o→∃ o',H' b=some o'))
       ⟨_,_,rfl,?_,fun b o e _=>e,fun b o e=>⟨o,e⟩⟩ (fun j σ' H' ⟨_,_,_,_,kp,_⟩=>.inl (.inl (kp _ _ hr47 hr4ro))) ?_ ?_
      ·have e:L.as.map (bump m (ks.take 0))=L.as:=(List.map_congr_left fun y _=>bump_out (by simp)).trans (List.map_id' _)
       rw [e]
       exact hO
      ·rintro j v σ' H' D' hv ⟨v5,v6,rfl,hO',kp,th⟩ hD
       obtain ⟨kk,hkj,rfl⟩:=map_at hv
       have hkks:kk∈ks:=List.mem_of_getElem? hkj
       obtain ⟨x,hx',ex⟩:=(hkm kk).mp hkks
       have h2:=List.all_eq_true.mp hall x hx'
       rw [Bool.and_eq_true] at h2
       have hsome:(accountAt s kk).isSome=true:=by
        rcases ex with rfl | rfl
        ·exact h2.1
        ·exact h2.2
       obtain ⟨acc,hacc⟩:=Option.isSome_iff_exists.mp hsome
       obtain ⟨hm0,hmk⟩:=accountAt_some hacc
       obtain ⟨y,hy,rfl⟩:=lay_acc hR hm0
       subst hmk
       have hnt:¬ y.acc.key∈ks.take j:=not_taken hkn hkj
       have hby:bump m (ks.take j) y=y:=bump_out hnt
       have hyb:y∈L.as.map (bump m (ks.take j)):=List.mem_map.mpr ⟨y,hy,hby⟩
       have hyO:=hO'.as y hyb
       obtain ⟨dy,hyo⟩:=hyO.o
       obtain ⟨dp,hp'⟩:=hO'.o
       have hea:=hO'.ea
       rw [bump_da] at hea
       have hrl:=row_len hR.good hm0
       walk_at "4"
       refine r_kF hp' T.k_House T.n_House_accounts lH_a ?_
       walk_at "4"
       refine r_kDG (j:=(y.acc.key:Int)) (.inl hea) (da_at hR hy) ?_
       refine r_kF hyo T.k_Account T.n_Account_row lA_r ?_
       refine r_kBl (.inl (.inl hyO.ro)) ?_
       walk_at "4"
       refine ⟨y.ro,_,_,rfl,rfl,hyO.ro,by rw [List.length_map]; exact small1000 (by omega),?_⟩
       obtain ⟨pre,post,eL⟩:=List.append_of_mem hy
       have nk:=lay_an hR
       rw [eL,List.map_append,List.map_cons,List.nodup_append] at nk
       obtain ⟨n1,n2,n3⟩:=nk
       have n4:=(List.nodup_cons.mp n2).1
       have oth:∀ z,z∈pre∨z∈post→bump m (ks.take (j + 1)) z=bump m (ks.take j) z:=fun z hz'=>by
        have hne':z.acc.key≠y.acc.key:=by
         rcases hz' with hz' | hz'
         ·exact n3 _ (List.mem_map.mpr ⟨z,hz',rfl⟩) _ (List.mem_cons_self ..)
         ·exact fun e=>n4 (List.mem_map.mpr ⟨z,hz',e⟩)
        rw [take_snoc hkj]
        by_cases hin:z.acc.key∈ks.take j
        ·rw [bump_in hin,bump_in (List.mem_append_left _ hin)]
        ·rw [bump_out hin,bump_out (fun q=>by
          rcases List.mem_append.mp q with q | q
          ·exact hin q
          ·exact hne' (List.mem_singleton.mp q))]
       have eb:L.as.map (bump m (ks.take j))=pre.map (bump m (ks.take j))++y::post.map (bump m (ks.take j)):=by
        rw [eL,List.map_append,List.map_cons,hby]
       have eb2:L.as.map (bump m (ks.take (j + 1)))=pre.map (bump m (ks.take j))++⟨y.a,y.am,y.li,y.ro,{ y.acc with row:=y.acc.row++[m] }⟩::post.map (bump m (ks.take j)):=by
        rw [eL,List.map_append,List.map_cons,bump_in (by rw [take_snoc hkj]; exact List.mem_append_right _ (List.mem_singleton.mpr rfl)),List.map_congr_left fun z hz'=>oth z (.inl hz'),List.map_congr_left fun z hz'=>oth z (.inr hz')]
       rw [eb] at hO'
       have hmid:y∈pre.map (bump m (ks.take j))++y::post.map (bump m (ks.take j)):=List.mem_append_right _ (List.mem_cons_self ..)
       have hO2:=hO'.put (x':=⟨y.a,y.am,y.li,y.ro,{ y.acc with row:=y.acc.row++[m] }⟩) (H':=upd H' y.ro (.lst (y.acc.row.map vI++[V.int (m:Int)]))) rfl rfl (fun b o e h1 h2 h3 h4=>by rw [upd_ne h4]; exact e)
        ⟨⟨dy,by show upd H' y.ro _ y.a=_; rw [upd_ne (ne_of hyo hyO.ro (by intro z; cases z))]; exact hyo⟩,
         by show upd H' y.ro _ y.am=_; rw [upd_ne (ne_of hyO.am hyO.ro (by intro z; cases z))]; exact hyO.am,
         by show upd H' y.ro _ y.li=_; rw [upd_ne (ne_of hyO.li hyO.ro (by intro z; cases z))]; exact hyO.li,
         by show upd H' y.ro _ y.ro=some (.lst ((y.acc.row++[m]).map vI)); rw [upd_same,List.map_append]; rfl⟩ (.inl rfl) (.inl rfl) (.inl rfl) (hO'.in1 y hmid).ml
       refine hD _ _ ⟨_,_,rfl,?_,fun b o e hb=>by rw [upd_ne (hb y hy)]; exact kp b o e hb,fun b o e=>?_⟩
       ·rw [eb2]
        exact hO2
       ·obtain ⟨o',e'⟩:=th b o e
        by_cases hb:b=y.ro
        ·exact ⟨_,by rw [hb,upd_same]⟩
        ·exact ⟨o',by rw [upd_ne hb]; exact e'⟩
      ·rintro σ' H' ⟨v5,v6,rfl,hO',kp,th⟩
       rw [List.length_map,List.take_length] at hO'
       walk_at "4"
       refine r_kL (by show 1≤1000; decide) fun z hz0=>?_
       have hRg:=hR.group (g:=⟨m,false,legsOf ns⟩) hm1 hm2 hlen8 (fun x hx'=>?_) (groupAt_none hg) (by omega)
       ·refine k.yes hO' ?_ (fun b o e hb=>kp b o (k7 b o (s16 b o e) (fun q=>hb (.inr (.inl q)))) (fun y hy q=>hb (.inr (.inr (.inl ⟨y,hy,.inr (.inr (.inr q))⟩))))) (fun b hb=>?_) (fun b o e=>?_) hz0 rfl
        ·have e:(⟨L.pa,L.pg,L.as.map (bump m ks),L.gs++[⟨xg,r2,es,⟨m,false,legsOf ns⟩⟩]⟩:Lay).st=⟨L.st.accounts.map (rowPlus ⟨m,false,legsOf ns⟩),L.st.groups++[⟨m,false,legsOf ns⟩]⟩:=by
          show (⟨(L.as.map (bump m ks)).map (·.acc),(L.gs++[_]).map (fun y:GrpL=>y.grp)⟩:State)=⟨(L.as.map (·.acc)).map _,L.gs.map _++_⟩
          rw [List.map_append,List.map_map,List.map_map]
          congr 1
          refine List.map_congr_left fun y hy=>?_
          show (bump m ks y).acc=rowPlus ⟨m,false,legsOf ns⟩ y.acc
          have ht:touches ⟨m,false,legsOf ns⟩ y.acc.key=true↔y.acc.key∈ks:=by
           rw [hkm]
           unfold Vbchak.touches
           rw [List.any_eq_true]
           constructor
           ·rintro ⟨x,hx',q⟩
            rw [Bool.or_eq_true,beq_iff_eq,beq_iff_eq] at q
            exact ⟨x,hx',q⟩
           ·rintro ⟨x,hx',q⟩
            exact ⟨x,hx',by rw [Bool.or_eq_true,beq_iff_eq,beq_iff_eq]; exact q⟩
          unfold rowPlus
          by_cases hin:y.acc.key∈ks
          ·rw [bump_in hin,if_pos (ht.mpr hin)]
          ·rw [bump_out hin,if_neg (fun q=>hin (ht.mp q))]
         rw [e]
         exact hRg
        ·rcases hb with q | q | ⟨y,hy,q⟩ | ⟨z',hz',q⟩
         ·exact .inl (.inl q)
         ·exact .inl (.inr (.inl q))
         ·obtain ⟨y0,hy0,rfl⟩:=List.mem_map.mp hy
          obtain ⟨b1,b2,b3,b4,_⟩:=bump_ad m ks y0
          rw [b1,b2,b3,b4] at q
          exact .inl (.inr (.inr (.inl ⟨y0,hy0,q⟩)))
         ·rcases List.mem_append.mp hz' with hz' | hz'
          ·exact .inl (.inr (.inr (.inr ⟨z',hz',q⟩)))
          ·rw [List.mem_singleton] at hz'
           subst hz'
           exact .inr (by rw [q]; exact s15.free hxg)
        ·obtain ⟨o',e'⟩:=t7 b o (s16 b o e)
         exact th b o' e'
       ·have h2:=List.all_eq_true.mp hall x hx'
        rw [Bool.and_eq_true] at h2
        obtain ⟨a1,e1⟩:=Option.isSome_iff_exists.mp h2.1
        obtain ⟨a2,e2⟩:=Option.isSome_iff_exists.mp h2.2
        exact ⟨⟨a1,(accountAt_some e1).1,(accountAt_some e1).2⟩,⟨a2,(accountAt_some e2).1,(accountAt_some e2).2⟩,(hgood x hx').1,(hgood x hx').2⟩
end
inductive Asks:Int→List Int→List Int→Vbchak.Call→Prop
 | account (x0:Int) (ls:List Int):Asks 0 [x0] ls (.account x0)
 | deposit (x0 x1 x2:Int) (ls:List Int):Asks 1 [x0,x1,x2] ls (.deposit x0 x1 x2)
 | withdraw (x0 x1 x2:Int) (ls:List Int):Asks 2 [x0,x1,x2] ls (.withdraw x0 x1 x2)
 | limit (x0 x1 x2:Int) (ls:List Int):Asks 3 [x0,x1,x2] ls (.limit x0 x1 x2)
 | group (x0:Int) (ls:List Int):Asks 4 [x0] ls (.group x0 ls)
 | cancel (x0:Int) (ls:List Int):Asks 5 [x0] ls (.cancel x0)
 | hold (x0 x1:Int) (ls:List Int):Asks 6 [x0,x1] ls (.hold x0 x1)
 | place (x0 x1 x2:Int) (ls:List Int):Asks 7 [x0,x1,x2] ls (.place x0 x1 x2)
 | settle (ls:List Int):Asks 8 [] ls .settle
 | go (ls:List Int):Asks 9 [] ls (.go ls)
 | ready (ls:List Int):Asks 10 [] ls .ready
 | can (ls:List Int):Asks 11 [] ls (.can ls)
 | why (x0:Int) (ls:List Int):Asks 12 [x0] ls (.why x0)
 | has (x0 x1:Int) (ls:List Int):Asks 13 [x0,x1] ls (.has x0 x1)
 | then_ (x0 x1:Int) (ls:List Int):Asks 14 [x0,x1] ls (.then_ x0 x1)
 | all_ (x0 x1:Int) (ls:List Int):Asks 15 [x0,x1] ls (.all_ x0 x1)
 | need (x0 x1 x2:Int) (ls:List Int):Asks 16 [x0,x1,x2] ls (.need x0 x1 x2)
 | more (x0 x1 x2:Int) (ls:List Int):Asks 17 [x0,x1,x2] ls (.more x0 x1 x2)
 | row (x0:Int) (ls:List Int):Asks 18 [x0] ls (.row x0)
 | legs (x0:Int) (ls:List Int):Asks 19 [x0] ls (.legs x0)
 | waiting (ls:List Int):Asks 20 [] ls .waiting
 | moved (x0:Int) (ls:List Int):Asks 21 [x0] ls (.moved x0)
theorem iteNo {b:Bool} {A B:Prop} (h:b=false) (k:B):(if b=true then A else B):=by
 subst h
 exact iteF k
theorem iteYes {b:Bool} {A B:Prop} (h:b=true) (k:A):(if b=true then A else B):=by
 subst h
 exact iteT k
theorem onG_fst {s:State} {k:Int} {f:Group→State×List Int} (h:∀ g,(f g).1=s):(Vbchak.onGroup s k f).1=s:=by
 unfold Vbchak.onGroup
 split
 ·rfl
 ·split
  ·rfl
  ·exact h _
theorem onA_fst {s:State} {k:Int} {f:Account→State×List Int} (h:∀ g,(f g).1=s):(Vbchak.onAccount s k f).1=s:=by
 unfold Vbchak.onAccount
 split
 ·rfl
 ·exact h _
theorem onL_fst {s:State} {l:List Int} {f:List Nat→State×List Int} (h:∀ g,(f g).1=s):(Vbchak.onGroups s l f).1=s:=by
 unfold Vbchak.onGroups
 split
 ·rfl
 ·split
  ·rfl
  ·split
   ·rfl
   ·exact h _
theorem ite_fst {p:Prop} [Decidable p] {s:State} {a b:State×List Int} (h1:a.1=s) (h2:b.1=s):(if p then a else b).1=s:=by
 split
 ·exact h1
 ·exact h2
theorem step_q {n:Int} {xs ls:List Int} {call:Vbchak.Call} (h:Asks n xs ls call) (hn:10≤n) (s:State):(Vbchak.step s call).1=s:=by
 cases h with
 | account=>exact absurd hn (by decide)
 | deposit=>exact absurd hn (by decide)
 | withdraw=>exact absurd hn (by decide)
 | limit=>exact absurd hn (by decide)
 | group=>exact absurd hn (by decide)
 | cancel=>exact absurd hn (by decide)
 | hold=>exact absurd hn (by decide)
 | place=>exact absurd hn (by decide)
 | settle=>exact absurd hn (by decide)
 | go=>exact absurd hn (by decide)
 | ready=>exact rfl
 | can=>exact onL_fst fun _=>rfl
 | why=>exact onG_fst fun _=>ite_fst rfl rfl
 | has=>exact ite_fst rfl (onA_fst fun _=>rfl)
 | then_=>exact ite_fst rfl (onA_fst fun _=>rfl)
 | all_=>exact ite_fst rfl (onA_fst fun _=>rfl)
 | need=>exact ite_fst rfl (onA_fst fun _=>onG_fst fun _=>ite_fst rfl rfl)
 | more=>exact ite_fst rfl (onA_fst fun _=>rfl)
 | row=>exact ite_fst rfl (onA_fst fun _=>rfl)
 | legs=>exact onG_fst fun _=>rfl
 | waiting=>exact rfl
 | moved=>exact ite_fst rfl rfl
section
variable {P:Program} {w:World} {K:PySem.W.Frag} {mg:Str→Option Value} {base:Heap} {c:Cs}
def spAC (K:PySem.W.Frag) (c:Cs):Sp:=fun vs H Q _=>∃ (p t l:Addr) (L:Lay) (s:State) (n:Int) (xs ls:List Int) (call:Vbchak.Call),vs=[.ref p,.int n,.ref t,.ref l]∧O0 c H p L∧R L.st s∧SqL K H t (xs.map V.int)∧SqL K H l (ls.map V.int)∧ls.length≤40∧Asks n xs ls call∧n < 10∧Chg c H p L Q (Vbchak.step s call).1 (Vbchak.step s call).2
def spAQ (K:PySem.W.Frag) (c:Cs):Sp:=fun vs H Q _=>∃ (p t l:Addr) (L:Lay) (s:State) (n:Int) (xs ls:List Int) (call:Vbchak.Call),vs=[.ref p,.int n,.ref t,.ref l]∧O0 c H p L∧R L.st s∧SqL K H t (xs.map V.int)∧SqL K H l (ls.map V.int)∧ls.length≤40∧Asks n xs ls call∧10≤n∧Ans H Q (Vbchak.step s call).2
def spA1 (K:PySem.W.Frag) (c:Cs):Sp:=fun vs H Q _=>∃ (p t l:Addr) (L:Lay) (s:State) (n:Int) (xs ls:List Int) (call:Vbchak.Call),vs=[.ref p,.int n,.ref t,.ref l]∧O0 c H p L∧R L.st s∧SqL K H t (xs.map V.int)∧SqL K H l (ls.map V.int)∧ls.length≤40∧Asks n xs ls call∧Chg c H p L Q (Vbchak.step s call).1 (Vbchak.step s call).2
theorem fn_answer_change (T:Txt K mg c):Fn P w K mg base "answer_change" 8 ["house","number","told","listed"] (spAC K c):=by
 refine T.f_answer_change.fn sc_answer_change (fun vs H Q E h=>?_) (fun f cdv A outer sh H vs Q E hr h=>?_)
 ·obtain ⟨p,t,l,L,s,n,xs,ls,call,rfl,_⟩:=h
  rfl
 obtain ⟨p,t,l,L,s,n,xs,ls,call,rfl,ho,hR,hT,hS,hz,hq,hn,k⟩:=h
 have hu:=hu_of hr
 have nd:=sc_answer_change.nd
 refine ⟨_,(pss_cons (ps_if (pt_cmpR op_eq (pv 1) pe_int (nomark _)) (pss_one (ps_ret (pe_fn (fn_add_account T) (hr.mono (by decide)) rfl (pa_cons (pv 0) (pa_cons (pe_ix ix_list (pv 2) pe_int (fun _ _=>rfl)) pa_nil))))) pss_nil)
   (pss_cons (ps_if (pt_cmpR op_eq (pv 1) pe_int (nomark _)) (pss_one (ps_ret (pe_fn (fn_deposit T) (hr.mono (by decide)) rfl (pa_cons (pv 0) (pa_cons (pe_ix ix_list (pv 2) pe_int (fun _ _=>rfl)) (pa_cons (pe_ix ix_list (pv 2) pe_int (fun _ _=>rfl)) (pa_cons (pe_ix ix_list (pv 2) pe_int (fun _ _=>rfl)) pa_nil))))))) pss_nil)
   (pss_cons (ps_if (pt_cmpR op_eq (pv 1) pe_int (nomark _)) (pss_one (ps_ret (pe_fn (fn_withdraw T) (hr.mono (by decide)) rfl (pa_cons (pv 0) (pa_cons (pe_ix ix_list (pv 2) pe_int (fun _ _=>rfl)) (pa_cons (pe_ix ix_list (pv 2) pe_int (fun _ _=>rfl)) (pa_cons (pe_ix ix_list (pv 2) pe_int (fun _ _=>rfl)) pa_nil))))))) pss_nil)
   (pss_cons (ps_if (pt_cmpR op_eq (pv 1) pe_int (nomark _)) (pss_one (ps_ret (pe_fn (fn_set_limit T) (hr.mono (by decide)) rfl (pa_cons (pv 0) (pa_cons (pe_ix ix_list (pv 2) pe_int (fun _ _=>rfl)) (pa_cons (pe_ix ix_list (pv 2) pe_int (fun _ _=>rfl)) (pa_cons (pe_ix ix_list (pv 2) pe_int (fun _ _=>rfl)) pa_nil))))))) pss_nil)
   (pss_cons (ps_if (pt_cmpR op_eq (pv 1) pe_int (nomark _)) (pss_one (ps_ret (pe_fn (fn_add_group T) (hr.mono (by decide)) rfl (pa_cons (pv 0) (pa_cons (pe_ix ix_list (pv 2) pe_int (fun _ _=>rfl)) (pa_cons (pv 3) pa_nil)))))) pss_nil)
   (pss_cons (ps_if (pt_cmpR op_eq (pv 1) pe_int (nomark _)) (pss_one (ps_ret (pe_fn (fn_cancel T) (hr.mono (by decide)) rfl (pa_cons (pv 0) (pa_cons (pe_ix ix_list (pv 2) pe_int (fun _ _=>rfl)) pa_nil))))) pss_nil)
   (pss_cons (ps_if (pt_cmpR op_eq (pv 1) pe_int (nomark _)) (pss_one (ps_ret (pe_fn (fn_hold T) (hr.mono (by decide)) rfl (pa_cons (pv 0) (pa_cons (pe_ix ix_list (pv 2) pe_int (fun _ _=>rfl)) (pa_cons (pe_ix ix_list (pv 2) pe_int (fun _ _=>rfl)) pa_nil)))))) pss_nil)
   (pss_cons (ps_if (pt_cmpR op_eq (pv 1) pe_int (nomark _)) (pss_one (ps_ret (pe_fn (fn_place T) (hr.mono (by decide)) rfl (pa_cons (pv 0) (pa_cons (pe_ix ix_list (pv 2) pe_int (fun _ _=>rfl)) (pa_cons (pe_ix ix_list (pv 2) pe_int (fun _ _=>rfl)) (pa_cons (pe_ix ix_list (pv 2) pe_int (fun _ _=>rfl)) pa_nil))))))) pss_nil)
   (pss_cons (ps_if (pt_cmpR op_eq (pv 1) pe_int (nomark _)) (pss_one (ps_ret (pe_fn (fn_settle T) (hr.mono (by decide)) rfl (pa_cons (pv 0) pa_nil)))) pss_nil)
   (pss_one (ps_ret (pe_fn (fn_go T) (hr.mono (by decide)) rfl (pa_cons (pv 0) (pa_cons (pv 3) pa_nil)))))))))))))),?_⟩
 try simp only [Cx.nox,Cx.wish,cxOf]
 have hx:=ho.hx hR
 walk_at "4"
 cases hq with
 | account x0 ls =>
  refine iteYes (by decide) ?_
  walk_at "4"
  refine r_ixL hT (v:=.int x0) rfl ?_
  walk_at "4"
  exact ⟨p,L,s,x0,rfl,ho,hR,k⟩
 | deposit x0 x1 x2 ls =>
  refine iteNo (by decide) ?_
  walk_at "4"
  refine iteYes (by decide) ?_
  walk_at "4"
  refine r_ixL hT (v:=.int x0) rfl ?_
  walk_at "4"
  refine r_ixL hT (v:=.int x1) rfl ?_
  walk_at "4"
  refine r_ixL hT (v:=.int x2) rfl ?_
  walk_at "4"
  exact ⟨p,L,s,x0,x1,x2,rfl,ho,hR,k⟩
 | withdraw x0 x1 x2 ls =>
  refine iteNo (by decide) ?_
  walk_at "4"
  refine iteNo (by decide) ?_
  walk_at "4"
  refine iteYes (by decide) ?_
  walk_at "4"
  refine r_ixL hT (v:=.int x0) rfl ?_
  walk_at "4"
  refine r_ixL hT (v:=.int x1) rfl ?_
  walk_at "4"
  refine r_ixL hT (v:=.int x2) rfl ?_
  walk_at "4"
  exact ⟨p,L,s,x0,x1,x2,rfl,ho,hR,k⟩
 | limit x0 x1 x2 ls =>
  refine iteNo (by decide) ?_
  walk_at "4"
  refine iteNo (by decide) ?_
  walk_at "4"
  refine iteNo (by decide) ?_
  walk_at "4"
  refine iteYes (by decide) ?_
  walk_at "4"
  refine r_ixL hT (v:=.int x0) rfl ?_
  walk_at "4"
  refine r_ixL hT (v:=.int x1) rfl ?_
  walk_at "4"
  refine r_ixL hT (v:=.int x2) rfl ?_
  walk_at "4"
  exact ⟨p,L,s,x0,x1,x2,rfl,ho,hR,k⟩
 | group x0 ls =>
  refine iteNo (by decide) ?_
  walk_at "4"
  refine iteNo (by decide) ?_
  walk_at "4"
  refine iteNo (by decide) ?_
  walk_at "4"
  refine iteNo (by decide) ?_
  walk_at "4"
  refine iteYes (by decide) ?_
  walk_at "4"
  refine r_ixL hT (v:=.int x0) rfl ?_
  walk_at "4"
  exact ⟨p,l,L,s,x0,ls,rfl,ho,hR,hS,hz,k⟩
 | cancel x0 ls =>
  refine iteNo (by decide) ?_
  walk_at "4"
  refine iteNo (by decide) ?_
  walk_at "4"
  refine iteNo (by decide) ?_
  walk_at "4"
  refine iteNo (by decide) ?_
  walk_at "4"
  refine iteNo (by decide) ?_
  walk_at "4"
  refine iteYes (by decide) ?_
  walk_at "4"
  refine r_ixL hT (v:=.int x0) rfl ?_
  walk_at "4"
  exact ⟨p,L,s,x0,rfl,ho,hR,k⟩
 | hold x0 x1 ls =>
  refine iteNo (by decide) ?_
  walk_at "4"
  refine iteNo (by decide) ?_
  walk_at "4"
  refine iteNo (by decide) ?_
  walk_at "4"
  refine iteNo (by decide) ?_
  walk_at "4"
  refine iteNo (by decide) ?_
  walk_at "4"
  refine iteNo (by decide) ?_
  walk_at "4"
  refine iteYes (by decide) ?_
  walk_at "4"
  refine r_ixL hT (v:=.int x0) rfl ?_
  walk_at "4"
  refine r_ixL hT (v:=.int x1) rfl ?_
  walk_at "4"
  exact ⟨p,L,s,x0,x1,rfl,ho,hR,k⟩
 | place x0 x1 x2 ls =>
  refine iteNo (by decide) ?_
  walk_at "4"
  refine iteNo (by decide) ?_
  walk_at "4"
  refine iteNo (by decide) ?_
  walk_at "4"
  refine iteNo (by decide) ?_
  walk_at "4"
  refine iteNo (by decide) ?_
  walk_at "4"
  refine iteNo (by decide) ?_
  walk_at "4"
  refine iteNo (by decide) ?_
  walk_at "4"
  refine iteYes (by decide) ?_
  walk_at "4"
  refine r_ixL hT (v:=.int x0) rfl ?_
  walk_at "4"
  refine r_ixL hT (v:=.int x1) rfl ?_
  walk_at "4"
  refine r_ixL hT (v:=.int x2) rfl ?_
  walk_at "4"
  exact ⟨p,L,s,x0,x1,x2,rfl,ho,hR,k⟩
 | settle ls =>
  refine iteNo (by decide) ?_
  walk_at "4"
  refine iteNo (by decide) ?_
  walk_at "4"
  refine iteNo (by decide) ?_
  walk_at "4"
  refine iteNo (by decide) ?_
  walk_at "4"
  refine iteNo (by decide) ?_
  walk_at "4"
  refine iteNo (by decide) ?_
  walk_at "4"
  refine iteNo (by decide) ?_
  walk_at "4"
  refine iteNo (by decide) ?_
  walk_at "4"
  refine iteYes (by decide) ?_
  walk_at "4"
  exact ⟨p,L,s,rfl,ho,hR,k⟩
 | go ls =>
  refine iteNo (by decide) ?_
  walk_at "4"
  refine iteNo (by decide) ?_
  walk_at "4"
  refine iteNo (by decide) ?_
  walk_at "4"
  refine iteNo (by decide) ?_
  walk_at "4"
  refine iteNo (by decide) ?_
  walk_at "4"
  refine iteNo (by decide) ?_
  walk_at "4"
  refine iteNo (by decide) ?_
  walk_at "4"
  refine iteNo (by decide) ?_
  walk_at "4"
  refine iteNo (by decide) ?_
  walk_at "4"
  exact ⟨p,l,L,s,ls,rfl,ho,hR,hS,hz,k⟩
 | ready=>exact absurd hn (by decide)
 | can=>exact absurd hn (by decide)
 | why=>exact absurd hn (by decide)
 | has=>exact absurd hn (by decide)
 | then_=>exact absurd hn (by decide)
 | all_=>exact absurd hn (by decide)
 | need=>exact absurd hn (by decide)
 | more=>exact absurd hn (by decide)
 | row=>exact absurd hn (by decide)
 | legs=>exact absurd hn (by decide)
 | waiting=>exact absurd hn (by decide)
 | moved=>exact absurd hn (by decide)
theorem fn_answer_question (T:Txt K mg c):Fn P w K mg base "answer_question" 9 ["house","number","told","listed"] (spAQ K c):=by
 refine T.f_answer_question.fn sc_answer_question (fun vs H Q E h=>?_) (fun f cdv A outer sh H vs Q E hr h=>?_)
 ·obtain ⟨p,t,l,L,s,n,xs,ls,call,rfl,_⟩:=h
  rfl
 obtain ⟨p,t,l,L,s,n,xs,ls,call,rfl,ho,hR,hT,hS,hz,hq,hn,k⟩:=h
 have hu:=hu_of hr
 have nd:=sc_answer_question.nd
 refine ⟨_,(pss_cons (ps_if (pt_cmpR op_eq (pv 1) pe_int (nomark _)) (pss_one (ps_ret (pe_fn (fn_ready T) (hr.mono (by decide)) rfl (pa_cons (pv 0) pa_nil)))) pss_nil)
   (pss_cons (ps_if (pt_cmpR op_eq (pv 1) pe_int (nomark _)) (pss_one (ps_ret (pe_fn (fn_can T) (hr.mono (by decide)) rfl (pa_cons (pv 0) (pa_cons (pv 3) pa_nil))))) pss_nil)
   (pss_cons (ps_if (pt_cmpR op_eq (pv 1) pe_int (nomark _)) (pss_one (ps_ret (pe_fn (fn_why T) (hr.mono (by decide)) rfl (pa_cons (pv 0) (pa_cons (pe_ix ix_list (pv 2) pe_int (fun _ _=>rfl)) pa_nil))))) pss_nil)
   (pss_cons (ps_if (pt_cmpR op_eq (pv 1) pe_int (nomark _)) (pss_one (ps_ret (pe_fn (fn_has T) (hr.mono (by decide)) rfl (pa_cons (pv 0) (pa_cons (pe_ix ix_list (pv 2) pe_int (fun _ _=>rfl)) (pa_cons (pe_ix ix_list (pv 2) pe_int (fun _ _=>rfl)) pa_nil)))))) pss_nil)
   (pss_cons (ps_if (pt_cmpR op_eq (pv 1) pe_int (nomark _)) (pss_one (ps_ret (pe_fn (fn_then T) (hr.mono (by decide)) rfl (pa_cons (pv 0) (pa_cons (pe_ix ix_list (pv 2) pe_int (fun _ _=>rfl)) (pa_cons (pe_ix ix_list (pv 2) pe_int (fun _ _=>rfl)) pa_nil)))))) pss_nil)
   (pss_cons (ps_if (pt_cmpR op_eq (pv 1) pe_int (nomark _)) (pss_one (ps_ret (pe_fn (fn_with_all T) (hr.mono (by decide)) rfl (pa_cons (pv 0) (pa_cons (pe_ix ix_list (pv 2) pe_int (fun _ _=>rfl)) (pa_cons (pe_ix ix_list (pv 2) pe_int (fun _ _=>rfl)) pa_nil)))))) pss_nil)
   (pss_cons (ps_if (pt_cmpR op_eq (pv 1) pe_int (nomark _)) (pss_one (ps_ret (pe_fn (fn_need T) (hr.mono (by decide)) rfl (pa_cons (pv 0) (pa_cons (pe_ix ix_list (pv 2) pe_int (fun _ _=>rfl)) (pa_cons (pe_ix ix_list (pv 2) pe_int (fun _ _=>rfl)) (pa_cons (pe_ix ix_list (pv 2) pe_int (fun _ _=>rfl)) pa_nil))))))) pss_nil)
   (pss_cons (ps_if (pt_cmpR op_eq (pv 1) pe_int (nomark _)) (pss_one (ps_ret (pe_fn (fn_more T) (hr.mono (by decide)) rfl (pa_cons (pv 0) (pa_cons (pe_ix ix_list (pv 2) pe_int (fun _ _=>rfl)) (pa_cons (pe_ix ix_list (pv 2) pe_int (fun _ _=>rfl)) (pa_cons (pe_ix ix_list (pv 2) pe_int (fun _ _=>rfl)) pa_nil))))))) pss_nil)
   (pss_cons (ps_if (pt_cmpR op_eq (pv 1) pe_int (nomark _)) (pss_one (ps_ret (pe_fn (fn_row T) (hr.mono (by decide)) rfl (pa_cons (pv 0) (pa_cons (pe_ix ix_list (pv 2) pe_int (fun _ _=>rfl)) pa_nil))))) pss_nil)
   (pss_cons (ps_if (pt_cmpR op_eq (pv 1) pe_int (nomark _)) (pss_one (ps_ret (pe_fn (fn_legs T) (hr.mono (by decide)) rfl (pa_cons (pv 0) (pa_cons (pe_ix ix_list (pv 2) pe_int (fun _ _=>rfl)) pa_nil))))) pss_nil)
   (pss_cons (ps_if (pt_cmpR op_eq (pv 1) pe_int (nomark _)) (pss_one (ps_ret (pe_fn (fn_waiting T) (hr.mono (by decide)) rfl (pa_cons (pv 0) pa_nil)))) pss_nil)
   (pss_one (ps_ret (pe_fn (fn_moved T) (hr.mono (by decide)) rfl (pa_cons (pv 0) (pa_cons (pe_ix ix_list (pv 2) pe_int (fun _ _=>rfl)) pa_nil)))))))))))))))),?_⟩
 try simp only [Cx.nox,Cx.wish,cxOf]
 have hx:=ho.hx hR
 walk_at "4"
 cases hq with
 | account=>exact absurd hn (by decide)
 | deposit=>exact absurd hn (by decide)
 | withdraw=>exact absurd hn (by decide)
 | limit=>exact absurd hn (by decide)
 | group=>exact absurd hn (by decide)
 | cancel=>exact absurd hn (by decide)
 | hold=>exact absurd hn (by decide)
 | place=>exact absurd hn (by decide)
 | settle=>exact absurd hn (by decide)
 | go=>exact absurd hn (by decide)
 | ready ls =>
  refine iteYes (by decide) ?_
  walk_at "4"
  exact ⟨p,L,s,rfl,hx,k⟩
 | can ls =>
  refine iteNo (by decide) ?_
  walk_at "4"
  refine iteYes (by decide) ?_
  walk_at "4"
  exact ⟨p,l,L,s,ls,rfl,hx,hS,hz,k⟩
 | why x0 ls =>
  refine iteNo (by decide) ?_
  walk_at "4"
  refine iteNo (by decide) ?_
  walk_at "4"
  refine iteYes (by decide) ?_
  walk_at "4"
  refine r_ixL hT (v:=.int x0) rfl ?_
  walk_at "4"
  exact ⟨p,L,s,x0,rfl,hx,k⟩
 | has x0 x1 ls =>
  refine iteNo (by decide) ?_
  walk_at "4"
  refine iteNo (by decide) ?_
  walk_at "4"
  refine iteNo (by decide) ?_
  walk_at "4"
  refine iteYes (by decide) ?_
  walk_at "4"
  refine r_ixL hT (v:=.int x0) rfl ?_
  walk_at "4"
  refine r_ixL hT (v:=.int x1) rfl ?_
  walk_at "4"
  exact ⟨p,L,s,x0,x1,rfl,hx,k⟩
 | then_ x0 x1 ls =>
  refine iteNo (by decide) ?_
  walk_at "4"
  refine iteNo (by decide) ?_
  walk_at "4"
  refine iteNo (by decide) ?_
  walk_at "4"
  refine iteNo (by decide) ?_
  walk_at "4"
  refine iteYes (by decide) ?_
  walk_at "4"
  refine r_ixL hT (v:=.int x0) rfl ?_
  walk_at "4"
  refine r_ixL hT (v:=.int x1) rfl ?_
  walk_at "4"
  exact ⟨p,L,s,x0,x1,rfl,hx,k⟩
 | all_ x0 x1 ls =>
  refine iteNo (by decide) ?_
  walk_at "4"
  refine iteNo (by decide) ?_
  walk_at "4"
  refine iteNo (by decide) ?_
  walk_at "4"
  refine iteNo (by decide) ?_
  walk_at "4"
  refine iteNo (by decide) ?_
  walk_at "4"
  refine iteYes (by decide) ?_
  walk_at "4"
  refine r_ixL hT (v:=.int x0) rfl ?_
  walk_at "4"
  refine r_ixL hT (v:=.int x1) rfl ?_
  walk_at "4"
  exact ⟨p,L,s,x0,x1,rfl,hx,k⟩
 | need x0 x1 x2 ls =>
  refine iteNo (by decide) ?_
  walk_at "4"
  refine iteNo (by decide) ?_
  walk_at "4"
  refine iteNo (by decide) ?_
  walk_at "4"
  refine iteNo (by decide) ?_
  walk_at "4"
  refine iteNo (by decide) ?_
  walk_at "4"
  refine iteNo (by decide) ?_
  walk_at "4"
  refine iteYes (by decide) ?_
  walk_at "4"
  refine r_ixL hT (v:=.int x0) rfl ?_
  walk_at "4"
  refine r_ixL hT (v:=.int x1) rfl ?_
  walk_at "4"
  refine r_ixL hT (v:=.int x2) rfl ?_
  walk_at "4"
  exact ⟨p,L,s,x0,x1,x2,rfl,hx,k⟩
 | more x0 x1 x2 ls =>
  refine iteNo (by decide) ?_
  walk_at "4"
  refine iteNo (by decide) ?_
  walk_at "4"
  refine iteNo (by decide) ?_
  walk_at "4"
  refine iteNo (by decide) ?_
  walk_at "4"
  refine iteNo (by decide) ?_
  walk_at "4"
  refine iteNo (by decide) ?_
  walk_at "4"
  refine iteNo (by decide) ?_
  walk_at "4"
  refine iteYes (by decide) ?_
  walk_at "4"
  refine r_ixL hT (v:=.int x0) rfl ?_
  walk_at "4"
  refine r_ixL hT (v:=.int x1) rfl ?_
  walk_at "4"
  refine r_ixL hT (v:=.int x2) rfl ?_
  walk_at "4"
  exact ⟨p,L,s,x0,x1,x2,rfl,hx,k⟩
 | row x0 ls =>
  refine iteNo (by decide) ?_
  walk_at "4"
  refine iteNo (by decide) ?_
  walk_at "4"
  refine iteNo (by decide) ?_
  walk_at "4"
  refine iteNo (by decide) ?_
  walk_at "4"
  refine iteNo (by decide) ?_
  walk_at "4"
  refine iteNo (by decide) ?_
  walk_at "4"
  refine iteNo (by decide) ?_
  walk_at "4"
  refine iteNo (by decide) ?_
  walk_at "4"
  refine iteYes (by decide) ?_
  walk_at "4"
  refine r_ixL hT (v:=.int x0) rfl ?_
  walk_at "4"
  exact ⟨p,L,s,x0,rfl,hx,(fun y hy=>(ho.as y hy).ro),k⟩
 | legs x0 ls =>
  refine iteNo (by decide) ?_
  walk_at "4"
  refine iteNo (by decide) ?_
  walk_at "4"
  refine iteNo (by decide) ?_
  walk_at "4"
  refine iteNo (by decide) ?_
  walk_at "4"
  refine iteNo (by decide) ?_
  walk_at "4"
  refine iteNo (by decide) ?_
  walk_at "4"
  refine iteNo (by decide) ?_
  walk_at "4"
  refine iteNo (by decide) ?_
  walk_at "4"
  refine iteNo (by decide) ?_
  walk_at "4"
  refine iteYes (by decide) ?_
  walk_at "4"
  refine r_ixL hT (v:=.int x0) rfl ?_
  walk_at "4"
  exact ⟨p,L,s,x0,rfl,hx,k⟩
 | waiting ls =>
  refine iteNo (by decide) ?_
  walk_at "4"
  refine iteNo (by decide) ?_
  walk_at "4"
  refine iteNo (by decide) ?_
  walk_at "4"
  refine iteNo (by decide) ?_
  walk_at "4"
  refine iteNo (by decide) ?_
  walk_at "4"
  refine iteNo (by decide) ?_
  walk_at "4"
  refine iteNo (by decide) ?_
  walk_at "4"
  refine iteNo (by decide) ?_
  walk_at "4"
  refine iteNo (by decide) ?_
  walk_at "4"
  refine iteNo (by decide) ?_
  walk_at "4"
  refine iteYes (by decide) ?_
  walk_at "4"
  exact ⟨p,L,s,rfl,hx,k⟩
 | moved x0 ls =>
  refine iteNo (by decide) ?_
  walk_at "4"
  refine iteNo (by decide) ?_
  walk_at "4"
  refine iteNo (by decide) ?_
  walk_at "4"
  refine iteNo (by decide) ?_
  walk_at "4"
  refine iteNo (by decide) ?_
  walk_at "4"
  refine iteNo (by decide) ?_
  walk_at "4"
  refine iteNo (by decide) ?_
  walk_at "4"
  refine iteNo (by decide) ?_
  walk_at "4"
  refine iteNo (by decide) ?_
  walk_at "4"
  refine iteNo (by decide) ?_
  walk_at "4"
  refine iteNo (by decide) ?_
  walk_at "4"
  refine r_ixL hT (v:=.int x0) rfl ?_
  walk_at "4"
  exact ⟨p,L,s,x0,rfl,hx,k⟩
theorem fn_answer (T:Txt K mg c):Fn P w K mg base "answer" 10 ["house","number","told","listed"] (spA1 K c):=by
 refine T.f_answer.fn sc_answer (fun vs H Q E h=>?_) (fun f cdv A outer sh H vs Q E hr h=>?_)
 ·obtain ⟨p,t,l,L,s,n,xs,ls,call,rfl,_⟩:=h
  rfl
 obtain ⟨p,t,l,L,s,n,xs,ls,call,rfl,ho,hR,hT,hS,hz,hq,k⟩:=h
 have hu:=hu_of hr
 have nd:=sc_answer.nd
 refine ⟨_,(pss_cons (ps_if (pt_cmpR op_lt (pv 1) (pe_gint T.c_FIRST_QUESTION) (nomark _)) (pss_one (ps_ret (pe_fn (fn_answer_change T) (hr.mono (by decide)) rfl (pa_cons (pv 0) (pa_cons (pv 1) (pa_cons (pv 2) (pa_cons (pv 3) pa_nil))))))) pss_nil)
   (pss_one (ps_ret (pe_fn (fn_answer_question T) (hr.mono (by decide)) rfl (pa_cons (pv 0) (pa_cons (pv 1) (pa_cons (pv 2) (pa_cons (pv 3) pa_nil)))))))),?_⟩
 try simp only [Cx.nox,Cx.wish,cxOf]
 walk_at "4"
 by_cases hn:n < 10
 ·refine iteYes (decide_eq_true hn) ?_
  walk_at "4"
  exact ⟨p,t,l,L,s,n,xs,ls,call,rfl,ho,hR,hT,hS,hz,hq,hn,k⟩
 ·refine iteNo (decide_eq_false hn) ?_
  walk_at "4"
  have h10:10≤n:=by omega
  refine ⟨p,t,l,L,s,n,xs,ls,call,rfl,ho,hR,hT,hS,hz,hq,h10,fun H' r s1 hr0 hr1=>?_⟩
  rw [step_q hq h10 s] at k
  exact k H' L r (ho.same s1) hR (fun b o e _=>s1 _ _ e) (fun b hb=>.inl hb) hr0 (not_ft ho hr0) hr1
end
def tbl:List (Int×Nat×Nat):=[(0,1,0),(1,3,0),(2,3,0),(3,3,0),(4,1,1),(5,1,0),(6,2,0),(7,3,0),(8,0,0),(9,0,1),(10,0,0),(11,0,1),(12,1,0),(13,2,0),(14,2,0),(15,2,0),(16,3,0),(17,3,0),(18,1,0),(19,1,0),(20,0,0),(21,1,0)]
theorem shape_tbl {p:Int} {n k:Nat} (h:PyVbchak.shape p=some (n,k)):(p,n,k)∈tbl:=by
 unfold PyVbchak.shape at h
 by_cases e:p=0
 ·rw [if_pos e] at h; cases h; subst e; decide
 rw [if_neg e] at h; clear e
 by_cases e:p=1
 ·rw [if_pos e] at h; cases h; subst e; decide
 rw [if_neg e] at h; clear e
 by_cases e:p=2
 ·rw [if_pos e] at h; cases h; subst e; decide
 rw [if_neg e] at h; clear e
 by_cases e:p=3
 ·rw [if_pos e] at h; cases h; subst e; decide
 rw [if_neg e] at h; clear e
 by_cases e:p=4
 ·rw [if_pos e] at h; cases h; subst e; decide
 rw [if_neg e] at h; clear e
 by_cases e:p=5
 ·rw [if_pos e] at h; cases h; subst e; decide
 rw [if_neg e] at h; clear e
 by_cases e:p=6
 ·rw [if_pos e] at h; cases h; subst e; decide
 rw [if_neg e] at h; clear e
 by_cases e:p=7
 ·rw [if_pos e] at h; cases h; subst e; decide
 rw [if_neg e] at h; clear e
 by_cases e:p=8
 ·rw [if_pos e] at h; cases h; subst e; decide
 rw [if_neg e] at h; clear e
 by_cases e:p=9
 ·rw [if_pos e] at h; cases h; subst e; decide
 rw [if_neg e] at h; clear e
 by_cases e:p=10
 ·rw [if_pos e] at h; cases h; subst e; decide
 rw [if_neg e] at h; clear e
 by_cases e:p=11
 ·rw [if_pos e] at h; cases h; subst e; decide
 rw [if_neg e] at h; clear e
 by_cases e:p=12
 ·rw [if_pos e] at h; cases h; subst e; decide
 rw [if_neg e] at h; clear e
 by_cases e:p=13
 ·rw [if_pos e] at h; cases h; subst e; decide
 rw [if_neg e] at h; clear e
 by_cases e:p=14
 ·rw [if_pos e] at h; cases h; subst e; decide
 rw [if_neg e] at h; clear e
 by_cases e:p=15
 ·rw [if_pos e] at h; cases h; subst e; decide
 rw [if_neg e] at h; clear e
 by_cases e:p=16
 ·rw [if_pos e] at h; cases h; subst e; decide
 rw [if_neg e] at h; clear e
 by_cases e:p=17
 ·rw [if_pos e] at h; cases h; subst e; decide
 rw [if_neg e] at h; clear e
 by_cases e:p=18
 ·rw [if_pos e] at h; cases h; subst e; decide
 rw [if_neg e] at h; clear e
 by_cases e:p=19
 ·rw [if_pos e] at h; cases h; subst e; decide
 rw [if_neg e] at h; clear e
 by_cases e:p=20
 ·rw [if_pos e] at h; cases h; subst e; decide
 rw [if_neg e] at h; clear e
 by_cases e:p=21
 ·rw [if_pos e] at h; cases h; subst e; decide
 rw [if_neg e] at h; clear e
 cases h
theorem tbl_all {p:Int} {n k:Nat} (h:(p,n,k)∈tbl):(p=0∧n=1∧k=0)∨(p=1∧n=3∧k=0)∨(p=2∧n=3∧k=0)∨(p=3∧n=3∧k=0)∨(p=4∧n=1∧k=1)∨(p=5∧n=1∧k=0)∨(p=6∧n=2∧k=0)∨(p=7∧n=3∧k=0)∨(p=8∧n=0∧k=0)∨(p=9∧n=0∧k=1)∨(p=10∧n=0∧k=0)∨(p=11∧n=0∧k=1)∨(p=12∧n=1∧k=0)∨(p=13∧n=2∧k=0)∨(p=14∧n=2∧k=0)∨(p=15∧n=2∧k=0)∨(p=16∧n=3∧k=0)∨(p=17∧n=3∧k=0)∨(p=18∧n=1∧k=0)∨(p=19∧n=1∧k=0)∨(p=20∧n=0∧k=0)∨(p=21∧n=1∧k=0):=by
 simpa [tbl] using h
def wholeN:List V:=[.int 1,.int 3,.int 3,.int 3,.int 1,.int 1,.int 2,.int 3,.int 0,.int 0,.int 0,.int 0,.int 1,.int 2,.int 2,.int 2,.int 3,.int 3,.int 1,.int 1,.int 0,.int 1]
theorem tbl_whole {p:Int} {n k:Nat} (h:(p,n,k)∈tbl):atI wholeN p=some (.int (n:Int)):=by
 rcases tbl_all h with h | h | h | h | h | h | h | h | h | h | h | h | h | h | h | h | h | h | h | h | h | h <;> (obtain ⟨rfl,rfl,rfl⟩:=h; rfl)
theorem tbl_list {p:Int} {n k:Nat} (h:(p,n,k)∈tbl):inV (.int p) [.int 4,.int 9,.int 11]=decide (k=1):=by
 rcases tbl_all h with h | h | h | h | h | h | h | h | h | h | h | h | h | h | h | h | h | h | h | h | h | h <;> (obtain ⟨rfl,rfl,rfl⟩:=h; decide)
theorem len0 {xs:List Int} (h:xs.length=0):xs=[]:=List.length_eq_zero_iff.mp h
theorem len1 {xs:List Int} (h:xs.length=1):∃ a,xs=[a]:=List.length_eq_one_iff.mp h
theorem len2 {xs:List Int} (h:xs.length=2):∃ a b,xs=[a,b]:=by
 match xs,h with
 | [a,b],_=>exact ⟨a,b,rfl⟩
theorem len3 {xs:List Int} (h:xs.length=3):∃ a b d,xs=[a,b,d]:=by
 match xs,h with
 | [a,b,d],_=>exact ⟨a,b,d,rfl⟩
theorem ask0 {p:Int} {n:Nat} {xs:List Int} (h:(p,n,0)∈tbl) (hl:xs.length=n):∃ call,Asks p xs [] call∧∀ s,VbchakNeutral.step s (PyVbchak.whole [p::xs])=Vbchak.step s call:=by
 rcases tbl_all h with h | h | h | h | h | h | h | h | h | h | h | h | h | h | h | h | h | h | h | h | h | h <;> obtain ⟨rfl,rfl,e⟩:=h
 ·obtain ⟨a,rfl⟩:=len1 hl; exact ⟨_,.account a [],fun s=>rfl⟩
 ·obtain ⟨a,b,d,rfl⟩:=len3 hl; exact ⟨_,.deposit a b d [],fun s=>rfl⟩
 ·obtain ⟨a,b,d,rfl⟩:=len3 hl; exact ⟨_,.withdraw a b d [],fun s=>rfl⟩
 ·obtain ⟨a,b,d,rfl⟩:=len3 hl; exact ⟨_,.limit a b d [],fun s=>rfl⟩
 ·cases e
 ·obtain ⟨a,rfl⟩:=len1 hl; exact ⟨_,.cancel a [],fun s=>rfl⟩
 ·obtain ⟨a,b,rfl⟩:=len2 hl; exact ⟨_,.hold a b [],fun s=>rfl⟩
 ·obtain ⟨a,b,d,rfl⟩:=len3 hl; exact ⟨_,.place a b d [],fun s=>rfl⟩
 ·obtain rfl:=len0 hl; exact ⟨_,.settle [],fun s=>rfl⟩
 ·cases e
 ·obtain rfl:=len0 hl; exact ⟨_,.ready [],fun s=>rfl⟩
 ·cases e
 ·obtain ⟨a,rfl⟩:=len1 hl; exact ⟨_,.why a [],fun s=>rfl⟩
 ·obtain ⟨a,b,rfl⟩:=len2 hl; exact ⟨_,.has a b [],fun s=>rfl⟩
 ·obtain ⟨a,b,rfl⟩:=len2 hl; exact ⟨_,.then_ a b [],fun s=>rfl⟩
 ·obtain ⟨a,b,rfl⟩:=len2 hl; exact ⟨_,.all_ a b [],fun s=>rfl⟩
 ·obtain ⟨a,b,d,rfl⟩:=len3 hl; exact ⟨_,.need a b d [],fun s=>rfl⟩
 ·obtain ⟨a,b,d,rfl⟩:=len3 hl; exact ⟨_,.more a b d [],fun s=>rfl⟩
 ·obtain ⟨a,rfl⟩:=len1 hl; exact ⟨_,.row a [],fun s=>rfl⟩
 ·obtain ⟨a,rfl⟩:=len1 hl; exact ⟨_,.legs a [],fun s=>rfl⟩
 ·obtain rfl:=len0 hl; exact ⟨_,.waiting [],fun s=>rfl⟩
 ·obtain ⟨a,rfl⟩:=len1 hl; exact ⟨_,.moved a [],fun s=>rfl⟩
theorem ask1 {p:Int} {n:Nat} {xs ls:List Int} (h:(p,n,1)∈tbl) (hl:xs.length=n) (ha:VbchakNeutral.asked1 (PyVbchak.whole [p::xs,ls])=true):ls.length≤40∧∃ call,Asks p xs ls call∧∀ s,VbchakNeutral.step s (PyVbchak.whole [p::xs,ls])=Vbchak.step s call:=by
 rcases tbl_all h with h | h | h | h | h | h | h | h | h | h | h | h | h | h | h | h | h | h | h | h | h | h <;> obtain ⟨rfl,rfl,e⟩:=h <;> first | (cases e; done) | skip
 ·obtain ⟨a,rfl⟩:=len1 hl
  have ha':(VbchakNeutral.whole60 a && ls.all (fun (z:Int)=>VbchakNeutral.whole60 z) && decide (ls.length≤40))=true:=ha
  rw [Bool.and_eq_true,decide_eq_true_eq] at ha'
  exact ⟨ha'.2,_,.group a ls,fun s=>rfl⟩
 ·obtain rfl:=len0 hl
  have ha':(ls.all (fun (z:Int)=>VbchakNeutral.whole60 z) && decide (ls.length≤40))=true:=ha
  rw [Bool.and_eq_true,decide_eq_true_eq] at ha'
  exact ⟨ha'.2,_,.go ls,fun s=>rfl⟩
 ·obtain rfl:=len0 hl
  have ha':(ls.all (fun (z:Int)=>VbchakNeutral.whole60 z) && decide (ls.length≤40))=true:=ha
  rw [Bool.and_eq_true,decide_eq_true_eq] at ha'
  exact ⟨ha'.2,_,.can ls,fun s=>rfl⟩
theorem call_cut {p:Int} {r t:List Int} {c0:List (List Int)} (h:PyFlat.call PyVbchak.shape (p::r)=some (c0,t)):∃ n,n≤r.length∧(((p,n,0)∈tbl∧c0=[p::r.take n]∧t=r.drop n) ∨
  ((p,n,1)∈tbl∧∃ q r',r.drop n=q::r'∧0≤q∧q.toNat≤r'.length∧c0=[p::r.take n,r'.take q.toNat]∧t=r'.drop q.toNat)):=by
 have h:(match PyVbchak.shape p with | none=>none | some (n,k)=>if r.length < n then none else match PyFlat.rows k (r.drop n) with | none=>none | some (xs,t)=>some ((p::r.take n)::xs,t))=some (c0,t):=h
 cases e:PyVbchak.shape p with
 | none=>rw [e] at h; cases h
 | some nk =>
  obtain ⟨n,k⟩:=nk
  rw [e] at h
  have ht:=shape_tbl e
  have h':(if r.length < n then none else match PyFlat.rows k (r.drop n) with | none=>none | some (xs,t)=>some ((p::r.take n)::xs,t))=some (c0,t):=h
  split at h'
  ·cases h'
  ·rename_i hlt
   refine ⟨n,by omega,?_⟩
   have hk:k=0∨k=1:=by
    rcases tbl_all ht with h | h | h | h | h | h | h | h | h | h | h | h | h | h | h | h | h | h | h | h | h | h <;> omega
   rcases hk with rfl | rfl
   ·have h2:some ((p::r.take n)::[],r.drop n)=some (c0,t):=h'
    cases h2
    exact .inl ⟨ht,rfl,rfl⟩
   ·refine .inr ⟨ht,?_⟩
    unfold PyFlat.rows at h'
    cases er:PyFlat.row (r.drop n) with
    | none=>rw [er] at h'; cases h'
    | some xs =>
     obtain ⟨x,s⟩:=xs
     rw [er] at h'
     have h2:some ((p::r.take n)::[x],s)=some (c0,t):=h'
     cases h2
     cases ed:r.drop n with
     | nil=>rw [ed] at er; cases er
     | cons q r' =>
      rw [ed] at er
      have h3:(if 0≤q∧q.toNat≤r'.length then some (r'.take q.toNat,r'.drop q.toNat) else none)=some (x,_):=er
      split at h3
      ·rename_i hc
       cases h3
       exact ⟨q,r',rfl,hc.1,hc.2,rfl,rfl⟩
      ·cases h3
theorem calls_cut {f:Nat} {p:Int} {r:List Int} {cs:List (List (List Int))} (h:PyFlat.calls PyVbchak.shape f (p::r)=some cs):∃ f' c0 t cs',PyFlat.call PyVbchak.shape (p::r)=some (c0,t)∧PyFlat.calls PyVbchak.shape f' t=some cs'∧cs=c0::cs':=by
 cases f with
 | zero=>cases h
 | succ f =>
  have h':(match PyFlat.call PyVbchak.shape (p::r) with | none=>none | some (c,t)=>match PyFlat.calls PyVbchak.shape f t with | none=>none | some cs=>some (c::cs))=some cs:=h
  cases e:PyFlat.call PyVbchak.shape (p::r) with
  | none=>rw [e] at h'; cases h'
  | some ct =>
   obtain ⟨c0,t⟩:=ct
   rw [e] at h'
   have h2:(match PyFlat.calls PyVbchak.shape f t with | none=>none | some cs=>some (c0::cs))=some cs:=h'
   cases e2:PyFlat.calls PyVbchak.shape f t with
   | none=>rw [e2] at h2; cases h2
   | some cs' =>
    rw [e2] at h2
    have h3:some (c0::cs')=some cs:=h2
    cases h3
    exact ⟨f,c0,t,cs',rfl,e2,rfl⟩
theorem calls_nil {f:Nat} {cs:List (List (List Int))} (h:PyFlat.calls PyVbchak.shape f []=some cs):cs=[]:=by
 cases f <;> (have h':some []=some cs:=h; cases h'; rfl)
def NE (s:State):Prop:=∀ g,g∈s.groups→g.legs≠[]
theorem onG_ne {s:State} {k:Int} {f:Group→State×List Int} (hs:NE s) (h:∀ g,NE (f g).1):NE (Vbchak.onGroup s k f).1:=by
 unfold Vbchak.onGroup
 split
 ·exact hs
 ·split
  ·exact hs
  ·exact h _
theorem onA_ne {s:State} {k:Int} {f:Account→State×List Int} (hs:NE s) (h:∀ g,NE (f g).1):NE (Vbchak.onAccount s k f).1:=by
 unfold Vbchak.onAccount
 split
 ·exact hs
 ·exact h _
theorem onL_ne {s:State} {l:List Int} {f:List Nat→State×List Int} (hs:NE s) (h:∀ g,NE (f g).1):NE (Vbchak.onGroups s l f).1:=by
 unfold Vbchak.onGroups
 split
 ·exact hs
 ·split
  ·exact hs
  ·split
   ·exact hs
   ·exact h _
theorem ite_ne {p:Prop} [Decidable p] {a b:State×List Int} (h1:p→NE a.1) (h2:¬ p→NE b.1):NE (if p then a else b).1:=by
 split
 ·exact h1 ‹_›
 ·exact h2 ‹_›
theorem filter_ne {s:State} {as:List Account} {f:Group→Bool} (hs:NE s):NE ⟨as,s.groups.filter f⟩:=fun g hg=>hs g (List.mem_filter.mp hg).1
theorem mem_putG {g x:Group}:∀ {l:List Group},x∈Vbchak.putGroup g l→x=g∨x∈l
 | [],h=>by
  rw [Vbchak.putGroup,List.mem_singleton] at h
  exact .inl h
 | y::l,h=>by
  rw [Vbchak.putGroup] at h
  split at h
  ·rcases List.mem_cons.mp h with h | h
   ·exact .inl h
   ·exact .inr h
  ·rcases List.mem_cons.mp h with h | h
   ·exact .inr (h ▸ List.mem_cons_self ..)
   ·rcases mem_putG h with h | h
    ·exact .inl h
    ·exact .inr (List.mem_cons_of_mem _ h)
theorem step_ne {n:Int} {xs ls:List Int} {call:Vbchak.Call} (h:Asks n xs ls call) {s:State} (hs:NE s):NE (Vbchak.step s call).1:=by
 by_cases hn:10≤n
 ·rw [step_q h hn]
  exact hs
 ·cases h with
  | account=>exact ite_ne (fun _=>hs) fun _=>ite_ne (fun _=>hs) fun _=>ite_ne (fun _=>hs) fun _=>hs
  | deposit=>exact ite_ne (fun _=>hs) fun _=>onA_ne hs fun _=>ite_ne (fun _=>hs) fun _=>hs
  | withdraw=>exact ite_ne (fun _=>hs) fun _=>onA_ne hs fun _=>ite_ne (fun _=>hs) fun _=>hs
  | limit=>exact ite_ne (fun _=>hs) fun _=>onA_ne hs fun _=>ite_ne (fun _=>hs) fun _=>hs
  | group k ls =>
   refine ite_ne (fun _=>hs) fun h1=>ite_ne (fun _=>hs) fun _=>ite_ne (fun _=>hs) fun _=>ite_ne (fun _=>hs) fun _=>ite_ne (fun _=>hs) fun _=>?_
   intro g hg
   rcases mem_putG hg with rfl | hg
   ·show legsOf ls≠[]
    rw [Bool.not_eq_false] at h1
    simp only [Bool.and_eq_true,decide_eq_true_eq] at h1
    obtain ⟨_,h2,_,h3⟩:=h1
    match ls,h2,h3 with
    | a::b::q::n::l,_,_=>intro e; cases e
    | [_],_,h3=>cases h3
    | [_,_],_,h3=>cases h3
    | [_,_,_],_,h3=>cases h3
   ·exact hs g hg
  | cancel=>exact onG_ne hs fun _=>filter_ne hs
  | hold =>
   refine ite_ne (fun _=>hs) fun _=>onG_ne hs fun g=>?_
   intro g' hg'
   obtain ⟨y,hy,rfl⟩:=List.mem_map.mp hg'
   split
   ·exact hs y hy
   ·exact hs y hy
  | place=>exact ite_ne (fun _=>hs) fun _=>onA_ne hs fun _=>onG_ne hs fun _=>ite_ne (fun _=>hs) fun _=>hs
  | settle=>exact filter_ne hs
  | go=>exact onL_ne hs fun _=>ite_ne (fun _=>filter_ne hs) fun _=>hs
  | _=>exact absurd (by decide) hn
theorem told_cons (a:List Int) (l:List (List Int)):PyFlat.told (a::l)=((a.length:Int)::a)++PyFlat.told l:=rfl
theorem R_start:R ⟨[],[]⟩ Vbchak.start:=⟨.refl _,.refl _,.nil,.nil,⟨fun _ h=>(by cases h),fun _ h=>(by cases h),List.nodup_nil,List.nodup_nil,Nat.zero_le _,Nat.zero_le _,fun _ h=>(by cases h)⟩⟩
theorem O0.wr {c:Cs} {H:Hp} {p g:Addr} {L:Lay} {xs ys:List V} (h:O0 c H p L) (hg:H g=some (.lst xs)) (nf:¬ Ft L g) (nl:∀ z,z∈L.gs→z.le≠g):O0 c (upd H g (.lst ys)) p L:=by
 have kk:∀ b o,H b=some o→(∀ l,o ≠ .lst l)→upd H g (.lst ys) b=some o:=fun b o e hb=>by rw [upd_ne (ne_of e hg (hb _))]; exact e
 refine ⟨?_,kk _ _ h.ea (fun _ q=>by cases q),kk _ _ h.eg (fun _ q=>by cases q),fun y hy=>?_,fun z hz=>?_,h.ap,h.in1,h.gp,h.pp⟩
 ·obtain ⟨dx,e⟩:=h.o
  exact ⟨dx,kk _ _ e fun _ q=>by cases q⟩
 ·have q:=h.as y hy
  obtain ⟨dx,e⟩:=q.o
  exact ⟨⟨dx,kk _ _ e fun _ q=>by cases q⟩,kk _ _ q.am (fun _ q=>by cases q),kk _ _ q.li (fun _ q=>by cases q),by rw [upd_ne (fun e=>nf (.inr (.inr (.inl ⟨y,hy,.inr (.inr (.inr e.symm))⟩))))]; exact q.ro⟩
 ·have q:=h.gs z hz
  obtain ⟨dx,e⟩:=q.o
  exact ⟨⟨dx,kk _ _ e (fun _ q=>by cases q)⟩,by rw [upd_ne (nl z hz)]; exact q.le,Paired.mapP q.legs fun a l ⟨dl,hl⟩=>⟨dl,kk _ _ hl (fun _ q=>by cases q)⟩⟩
theorem le_ne {c:Cs} {H:Hp} {p g:Addr} {L:Lay} {s:State} {gv:List Int} (h:O0 c H p L) (r:R L.st s) (ne:NE s) (hg:H g=some (.lst (gv.map V.int))):∀ z,z∈L.gs→z.le≠g:=fun z hz e=>by
 have q:=h.gs z hz
 have hle:=q.le
 rw [e,hg] at hle
 have e2:=HO.lst.inj (Option.some.inj hle)
 have hne:=ne z.grp (grp_lay r hz)
 have hlen:=Paired.length q.legs
 cases hx:z.xs with
 | nil =>
  rw [hx] at hlen
  exact hne (List.length_eq_zero_iff.mp hlen.symm)
 | cons x xs =>
  rw [hx] at e2
  cases gv with
  | nil=>cases e2
  | cons y ys =>
   rw [List.map_cons,List.map_cons] at e2
   cases (List.cons.inj e2).1
section
variable {P:Program} {w:World} {K:PySem.W.Frag} {mg:Str→Option Value} {base:Heap} {c:Cs}
def spAns (K:PySem.W.Frag):Sp:=fun vs H Q _=>∃ (a:Addr) (ns:List Int),vs=[.ref a]∧SqL K H a (ns.map V.int)∧ns.length≤17000∧PyVbchak.answers_asked ns=true∧∀ (H':Hp) (p:Addr),H' p=some (.lst ((PyVbchak.answers ns).map V.int))→Q (.ref p) H'
theorem asked_parts {ns:List Int} (h:PyVbchak.answers_asked ns=true):∃ cs,PyFlat.calls PyVbchak.shape ns.length ns=some cs∧(cs.map PyVbchak.whole).all VbchakNeutral.asked1=true∧PyVbchak.answers ns=PyFlat.told (PyFlat.played VbchakNeutral.step Vbchak.start (cs.map PyVbchak.whole))∧(PyVbchak.answers ns).length≤10000000:=by
 unfold PyVbchak.answers_asked at h
 cases e:PyFlat.calls PyVbchak.shape ns.length ns with
 | none=>rw [e] at h; cases h
 | some raw =>
  rw [e] at h
  have h':(!raw.isEmpty && PyFlat.atMost 400 raw && PyInside.calls PyVbchak.bound raw && VbchakNeutral.asked (raw.map PyVbchak.whole) && PyFlat.short 10000000 (PyVbchak.answers ns))=true:=h
  rw [Bool.and_eq_true,Bool.and_eq_true] at h'
  obtain ⟨⟨_,h1⟩,h2⟩:=h'
  refine ⟨raw,rfl,?_,?_,?_⟩
  ·unfold VbchakNeutral.asked at h1
   rw [Bool.and_eq_true] at h1
   exact h1.1
  ·unfold PyVbchak.answers PyVbchak.calls
   rw [e]
   rfl
  ·unfold PyFlat.short at h2
   exact of_decide_eq_true h2
def tTail (K:PySem.W.Frag) (c:Cs):TS :=
 tSeq (tAsg (tCall (spA1 K c) [] E0 (tCons (tVar 1) (tCons (tVar 4) (tCons (tVar 6) (tCons (tVar 7) tNil))))) (gName 8))
  (tSeq (tDrop (tBM K "list" rAppend (tVar 2) (tCons (tCB (fun xs H Q=>∃ p ys,xs=[V.ref p]∧(SqL K H p ys∨SqT K H p ys)∧Q (V.int (ys.length:Nat)) H) (tCons (tVar 8) tNil)) tNil)))
   (tDrop (tBM K "list" rExtend (tVar 2) (tCons (tVar 8) tNil))))
theorem turn_tail {D:Ends} {H3:Hp} {a p g t3 l3:Addr} {L:Lay} {s:State} {p0 at2:Int} {xs ls gv:List Int} {call:Vbchak.Call} {v5 v8:Option V} (hO:O0 c H3 p L) (hR:R L.st s) (hNE:NE s) (hg:H3 g=some (.lst (gv.map V.int))) (hgf:¬ Ft L g)
  (hT:SqL K H3 t3 (xs.map V.int)) (hL:SqL K H3 l3 (ls.map V.int)) (h40:ls.length≤40) (hq:Asks p0 xs ls call) (hsz:gv.length + 1 + (Vbchak.step s call).2.length≤10000000)
  (k:∀ H9 L9 v8,O0 c H9 p L9→R L9.st (Vbchak.step s call).1→NE (Vbchak.step s call).1→H9 g=some (.lst ((gv++(((Vbchak.step s call).2.length:Int)::(Vbchak.step s call).2)).map V.int))→¬ Ft L9 g→(∀ b,Ft L9 b→Ft L b∨H3 b=none)→(∀ b o,H3 b=some o→¬ Ft L b→b≠g→H9 b=some o) →
   D.nx [some (.ref a),some (.ref p),some (.ref g),some (.int at2),some (.int p0),v5,some (.ref t3),some (.ref l3),v8] H9) :
  tTail K c D [some (.ref a),some (.ref p),some (.ref g),some (.int at2),some (.int p0),v5,some (.ref t3),some (.ref l3),v8] H3:=by
 unfold tTail
 walk_at "4"
 refine ⟨p,t3,l3,L,s,p0,xs,ls,call,rfl,hO,hR,hT,hL,h40,hq,fun H9 L9 r9 o9 R9 kp9 ft9 hr90 hrf9 hr9=>?_⟩
 have hne:=step_ne hq hNE
 have hg9:=kp9 _ _ hg hgf
 have hgf9:¬ Ft L9 g:=fun hf=>by
  rcases ft9 g hf with q | q
  ·exact hgf q
  ·rw [hg] at q; cases q
 have hrg:r9≠g:=fun e=>by rw [e,hg] at hr90; cases hr90
 have hbig:(10000000:Nat) < sizeLine:=by rw [sizeLine_eq]; decide
 walk_at "4"
 refine r_kBl (.inl (.inl hg9)) ?_
 walk_at "4"
 refine ⟨r9,_,rfl,.inl (.inl (.inl hr9)),?_⟩
 walk_at "4"
 refine ⟨g,_,_,rfl,rfl,hg9,by rw [List.length_map]; omega,?_⟩
 have o10:=o9.wr (ys:=gv.map V.int++[V.int (((Vbchak.step s call).2.map V.int).length:Nat)]) hg9 hgf9 (le_ne o9 R9 hne hg9)
 have hr10:upd H9 g (.lst (gv.map V.int++[V.int (((Vbchak.step s call).2.map V.int).length:Nat)])) r9=some (.lst ((Vbchak.step s call).2.map V.int)):=by rw [upd_ne hrg]; exact hr9
 have hg10:upd H9 g (.lst (gv.map V.int++[V.int (((Vbchak.step s call).2.map V.int).length:Nat)])) g=some (.lst ((gv++[((Vbchak.step s call).2.length:Int)]).map V.int)):=by
  rw [upd_same,List.map_append,List.length_map]
  rfl
 have kp10:∀ b o,H9 b=some o→b≠g→upd H9 g (.lst (gv.map V.int++[V.int (((Vbchak.step s call).2.map V.int).length:Nat)])) b=some o:=fun b o e hb=>by rw [upd_ne hb]; exact e
 generalize upd H9 g (.lst (gv.map V.int++[V.int (((Vbchak.step s call).2.map V.int).length:Nat)]))=H10 at o10 hr10 hg10 kp10 ⊢
 walk_at "4"
 refine r_kBl (.inl (.inl hg10)) ?_
 walk_at "4"
 refine ⟨g,r9,_,_,rfl,rfl,hg10,hr10,by rw [List.length_map,List.length_map,List.length_append]; show gv.length + 1 + _≤_; omega,?_⟩
 refine k _ L9 _ (o10.wr hg10 hgf9 (le_ne o10 R9 hne hg10)) R9 hne ?_ hgf9 ft9 (fun b o e hb hbg=>by rw [upd_ne hbg]; exact kp10 _ _ (kp9 _ _ e hb) hbg)
 rw [upd_same,← List.map_append,List.append_assoc]
 rfl
theorem ok_answers (T:Txt K mg c):∃ f fd,mg "answers"=some (.ref f)∧Fun K "answers" "answers" (top 94) f fd∧∀ (P:Program) (w:World) (base:Heap),FnOk P w K mg base CX0 11 f fd ["calls"] (spAns K):=by
 obtain ⟨f,fd,F,hmf,_⟩:=T.f_answers
 refine ⟨f,fd,hmf,F,fun P w base=>F.ok sc_answers (fun vs H Q E h=>?_) (fun cdv A outer sh H vs Q E hr h=>?_)⟩
 ·obtain ⟨a,ns,rfl,_⟩:=h
  rfl
 obtain ⟨a,ns,rfl,hS,hlen,hask,k⟩:=h
 have hu:=hu_of hr
 have nd:=sc_answers.nd
 refine ⟨_,(pss_cons (ps_set (i:=1) nd rfl (Or.inl rfl) (pe_mk0 (mk_House T) (hr.mono (by decide)) rfl))
   (pss_cons (ps_set (i:=2) nd rfl (Or.inl rfl) (pe_lst pa_nil))
   (pss_cons (ps_set (i:=3) nd rfl (Or.inl rfl) pe_int)
   (pss_cons (ps_while PassesOwn.never (pt_cmpR op_lt (pv 3) (pe_callB call_len_seq rfl T.b_len boot_len (pa_cons (pv 0) pa_nil)) (nomark _)) (pss_cons (ps_set (i:=4) nd rfl (Or.inl rfl) (pe_ix ix_list (pv 0) (pv 3) (fun _ _=>rfl)))
   (pss_cons (ps_set (i:=5) nd rfl (Or.inl rfl) (pe_op op_add (pv 3) pe_int))
   (pss_cons (ps_set (i:=3) nd rfl (Or.inl rfl) (pe_op op_add (pv 5) (pe_ix ix_tup (pe_gref T.c_WHOLE_NUMBERS) (pv 4) (fun _ _=>rfl))))
   (pss_cons (ps_set (i:=6) nd rfl (Or.inl rfl) (pe_slice sl_list (pv 0) (po_some (pv 5)) (po_some (pv 3))))
   (pss_cons (ps_set (i:=7) nd rfl (Or.inl rfl) (pe_lst pa_nil))
   (pss_cons (ps_if (pt_cmpR op_in_seq (pv 4) (pe_gref T.c_WITH_A_LIST) rfl) (pss_cons (ps_set (i:=5) nd rfl (Or.inl rfl) (pe_op op_add (pv 3) pe_int))
   (pss_cons (ps_set (i:=3) nd rfl (Or.inl rfl) (pe_op op_add (pv 5) (pe_ix ix_list (pv 0) (pe_op op_sub (pv 5) pe_int) (fun _ _=>rfl))))
   (pss_one (ps_set (i:=7) nd rfl (Or.inl rfl) (pe_slice sl_list (pv 0) (po_some (pv 5)) (po_some (pv 3))))))) pss_nil)
   (pss_cons (ps_set (i:=8) nd rfl (Or.inl rfl) (pe_fn (fn_answer T) (hr.mono (by decide)) rfl (pa_cons (pv 1) (pa_cons (pv 4) (pa_cons (pv 6) (pa_cons (pv 7) pa_nil))))))
   (pss_cons (ps_expr (pe_bm PySem.F.plainAttrs_list PySem.F.slot_list_append PySem.F.type_list_append mt_append (pv 2) (pa_cons (pe_callB call_len_seq rfl T.b_len boot_len (pa_cons (pv 8) pa_nil)) pa_nil)))
   (pss_one (ps_expr (pe_bm PySem.F.plainAttrs_list PySem.F.slot_list_extend PySem.F.type_list_extend mt_extend (pv 2) (pa_cons (pv 8) pa_nil)))))))))))))
   (pss_one (ps_ret (pv 2))))))),?_⟩
 try simp only [Cx.nox,Cx.wish,cxOf]
 obtain ⟨cs0,hcs0,hall0,hA,hA7⟩:=asked_parts hask
 walk_at "4"
 intro p dp hp0 hdp0 hne
 refine ⟨p,dp,rfl,upd_same,fun H1 pa pg kp1 hpa0 hpg0 hpp hp1 hpa1 hpg1=>⟨rfl,?_⟩⟩
 have s1:Same H H1:=Same.made hp0 hdp0 kp1
 have s0:Same H (upd (upd H dp (.own p)) p (.ins c.hou dp [])):=fun b o e=>by rw [upd_ne (ne_of_none e hp0),upd_ne (ne_of_none e hdp0)]; exact e
 have o1:O0 c H1 p ⟨pa,pg,[],[]⟩:=⟨⟨dp,hp1⟩,hpa1,hpg1,fun _ h=>(by cases h),fun _ h=>(by cases h),.nil,fun _ h=>(by cases h),.nil,hpp⟩
 walk_at "4"
 refine r_kL (by show 0≤1000; decide) fun g hg0=>?_
 have s2:=same_new (o:=.lst []) hg0
 have hg1:upd H1 g (.lst []) g=some (.lst []):=upd_same
 generalize upd H1 g (.lst [])=H2 at s2 hg1 ⊢
 have s12:=s1.trans s2
 walk_at "4"
 refine ⟨fun m σ' H'=>∃ (at_:Nat) (s:State) (L:Lay) (cs:List (List (List Int))) (f:Nat) (gv:List Int) (v4 v5 v6 v7 v8:Option V),m=ns.length - at_∧σ'=[some (.ref a),some (.ref p),some (.ref g),some (.int (at_:Int)),v4,v5,v6,v7,v8] ∧
   O0 c H' p L∧R L.st s∧NE s∧H' g=some (.lst (gv.map V.int))∧¬ Ft L g∧(∀ b,Ft L b→H b=none)∧Same H H'∧at_≤ns.length∧PyFlat.calls PyVbchak.shape f (ns.drop at_)=some cs∧(cs.map PyVbchak.whole).all VbchakNeutral.asked1=true∧gv++PyFlat.told (PyFlat.played VbchakNeutral.step s (cs.map PyVbchak.whole))=PyVbchak.answers ns,
  ⟨_,0,Vbchak.start,⟨pa,pg,[],[]⟩,cs0,ns.length,[],none,none,none,none,none,rfl,rfl,o1.same s2,R_start,fun _ h=>(by cases h),hg1,not_ft o1 hg0,fun b hb=>?_,s12,Nat.zero_le _,hcs0,hall0,hA.symm⟩,?_⟩
 ·rcases hb with rfl | rfl | ⟨y,hy,_⟩ | ⟨y,hy,_⟩
  ·exact s0.free hpa0
  ·exact s0.free hpg0
  ·cases hy
  ·cases hy
 rintro m σ' H' ⟨at_,s,L,cs,f,gv,v4,v5,v6,v7,v8,rfl,rfl,hO,hR,hNE,hg,hgf,hfn,sH,hat,hcs,hall,hA2⟩
 have hSn:=sH.seq hS
 walk_at "4"
 refine ⟨a,_,rfl,.inl hSn,?_⟩
 walk_at "4"
 rw [List.length_map]
 by_cases hlt:at_ < ns.length
 ·refine iteYes (decide_eq_true (by omega)) ?_
  refine ⟨_,fun _ _ q=>q,?_⟩
  cases hd:ns.drop at_ with
  | nil =>
   have:=congrArg List.length hd
   rw [List.length_drop,List.length_nil] at this
   omega
  | cons p0 r =>
   rw [hd] at hcs
   obtain ⟨f',c0,t,cs',hc0,hcs',rfl⟩:=calls_cut hcs
   obtain ⟨n,hn,hcase⟩:=call_cut hc0
   have hdl:=congrArg List.length hd
   rw [List.length_drop,List.length_cons] at hdl
   have hp0':ns[at_]?=some p0:=by
    have:(ns.drop at_)[0]?=some p0:=by rw [hd]; rfl
    rw [List.getElem?_drop] at this
    exact this
   have hr1:ns.drop (at_ + 1)=r:=by
    rw [← List.drop_drop,hd]
    rfl
   have htbl:∃ kk,(p0,n,kk)∈tbl:=by
    rcases hcase with h | h
    ·exact ⟨0,h.1⟩
    ·exact ⟨1,h.1⟩
   obtain ⟨kk,htk⟩:=htbl
   have hallc:VbchakNeutral.asked1 (PyVbchak.whole c0)=true∧(cs'.map PyVbchak.whole).all VbchakNeutral.asked1=true:=by
    rw [List.map_cons,List.all_cons,Bool.and_eq_true] at hall
    exact hall
   have e1:(at_:Int) + 1=((at_ + 1:Nat):Int):=by omega
   have e2:((at_ + 1:Nat):Int) + (n:Int)=((at_ + 1 + n:Nat):Int):=by omega
   have htake:((ns.map V.int).drop (at_ + 1)).take (at_ + 1 + n - (at_ + 1))=(r.take n).map V.int:=by
    rw [← List.map_drop,hr1,← List.map_take]
    congr 2
    omega
   have hA3:∀ call,(∀ s,VbchakNeutral.step s (PyVbchak.whole c0)=Vbchak.step s call)→gv++(((Vbchak.step s call).2.length:Int)::(Vbchak.step s call).2)++PyFlat.told (PyFlat.played VbchakNeutral.step (Vbchak.step s call).1 (cs'.map PyVbchak.whole))=PyVbchak.answers ns:=fun call hc=>by
    rw [← hA2,List.append_assoc]
    show _=gv++PyFlat.told ((VbchakNeutral.step s (PyVbchak.whole c0)).2::PyFlat.played VbchakNeutral.step (VbchakNeutral.step s (PyVbchak.whole c0)).1 (cs'.map PyVbchak.whole))
    rw [told_cons,hc]
   have hsz:∀ call,(∀ s,VbchakNeutral.step s (PyVbchak.whole c0)=Vbchak.step s call)→gv.length + 1 + (Vbchak.step s call).2.length≤10000000:=fun call hc=>by
    have:=congrArg List.length (hA3 call hc)
    rw [List.length_append,List.length_append,List.length_cons] at this
    omega
   have fin:∀ (H3 H9:Hp) (L9:Lay) (call:Vbchak.Call) (at2:Nat) (w4 w5 w6 w7 w8:Option V),Same H' H3→(∀ s,VbchakNeutral.step s (PyVbchak.whole c0)=Vbchak.step s call)→at_ < at2→at2≤ns.length→ns.drop at2=t →
     O0 c H9 p L9→R L9.st (Vbchak.step s call).1→NE (Vbchak.step s call).1→H9 g=some (.lst ((gv++(((Vbchak.step s call).2.length:Int)::(Vbchak.step s call).2)).map V.int))→¬ Ft L9 g→(∀ b,Ft L9 b→Ft L b∨H3 b=none)→(∀ b o,H3 b=some o→¬ Ft L b→b≠g→H9 b=some o) →
     ∃ m',m' < ns.length - at_∧∃ (at_:Nat) (s:State) (L:Lay) (cs:List (List (List Int))) (f:Nat) (gv:List Int) (v4 v5 v6 v7 v8:Option V),m'=ns.length - at_∧[some (V.ref a),some (V.ref p),some (V.ref g),some (V.int (at2:Int)),w4,w5,w6,w7,w8]=[some (V.ref a),some (V.ref p),some (V.ref g),some (V.int (at_:Int)),v4,v5,v6,v7,v8] ∧
      O0 c H9 p L∧R L.st s∧NE s∧H9 g=some (.lst (gv.map V.int))∧¬ Ft L g∧(∀ b,Ft L b→H b=none)∧Same H H9∧at_≤ns.length∧PyFlat.calls PyVbchak.shape f (ns.drop at_)=some cs∧(cs.map PyVbchak.whole).all VbchakNeutral.asked1=true∧gv++PyFlat.told (PyFlat.played VbchakNeutral.step s (cs.map PyVbchak.whole))=PyVbchak.answers ns:=by
    intro H3 H9 L9 call at2 w4 w5 w6 w7 w8 s3 hc h1 h2 h3 o9 R9 n9 g9 f9 ft9 kp9
    refine ⟨ns.length - at2,by omega,at2,_,L9,cs',f',_,w4,w5,w6,w7,w8,rfl,rfl,o9,R9,n9,g9,f9,fun b hb=>?_,fun b o e=>kp9 b o (s3 _ _ (sH _ _ e)) (fun hf=>by rw [hfn b hf] at e; cases e) (fun q=>by rw [q,s1.free hg0] at e; cases e),h2,by rw [h3]; exact hcs',hallc.2,hA3 call hc⟩
    rcases ft9 b hb with q | q
    ·exact hfn b q
    ·exact (sH.trans s3).free q
   walk_at "4"
   refine r_ixL hSn (v:=.int p0) (atI_nat (by rw [List.getElem?_map,hp0']; rfl)) ?_
   walk_at "4"
   rw [e1]
   refine r_ixT (T.t_WHOLE_NUMBERS H') (v:=.int (n:Int)) (tbl_whole htk) ?_
   walk_at "4"
   rw [e2]
   refine r_kSl hSn fun z hz0=>?_
   rw [cut_both (by omega) (by rw [List.length_map]; omega),htake]
   have s3:=same_new (o:=.lst ((r.take n).map V.int)) hz0
   have hz3:upd H' z (.lst ((r.take n).map V.int)) z=some (.lst ((r.take n).map V.int)):=upd_same
   generalize upd H' z (.lst ((r.take n).map V.int))=H3 at s3 hz3 ⊢
   walk_at "4"
   refine r_kL (by show 0≤1000; decide) fun l hl0=>?_
   have s4:=same_new (o:=.lst []) hl0
   have hl4:upd H3 l (.lst []) l=some (.lst []):=upd_same
   generalize upd H3 l (.lst [])=H4 at s4 hl4 ⊢
   walk_at "4"
   have s34:=s3.trans s4
   refine ⟨_,_,rfl,.inr (T.t_WITH_A_LIST H4),rfl,rfl,?_⟩
   walk_at "4"
   rcases hcase with ⟨ht0,hc00,htt⟩ | ⟨ht1,q,r',hdq,hq0,hql,hc01,htt⟩
   ·refine iteNo (b:=inV (.int p0) [.int 4,.int 9,.int 11]) (by rw [tbl_list ht0]; decide) ?_
    obtain ⟨call,hqa,hst⟩:=ask0 (xs:=r.take n) ht0 (by rw [List.length_take]; omega)
    rw [← hc00] at hst
    exact turn_tail (hO.same s34) hR hNE (s34 _ _ hg) hgf (.inl (.inl (s4 _ _ hz3))) (ls:=[]) (.inl (.inl hl4)) (by decide) hqa (hsz call hst) fun H9 L9 v8 o9 R9 n9 g9 f9 ft9 kp9 =>
     fin H4 H9 L9 call (at_ + 1 + n) _ _ _ _ _ s34 hst (by omega) (by omega) (by rw [htt,← hr1,List.drop_drop]) o9 R9 n9 g9 f9 ft9 kp9
   ·refine iteYes (b:=inV (.int p0) [.int 4,.int 9,.int 11]) (by rw [tbl_list ht1]; decide) ?_
    have e3:((at_ + 1 + n:Nat):Int) + 1=((at_ + 1 + n + 1:Nat):Int):=by omega
    have e4:((at_ + 1 + n + 1:Nat):Int) - 1=((at_ + 1 + n:Nat):Int):=by omega
    have e5:((at_ + 1 + n + 1:Nat):Int) + q=((at_ + 1 + n + 1 + q.toNat:Nat):Int):=by omega
    have hdq':ns.drop (at_ + 1 + n)=q::r':=by rw [← List.drop_drop,hr1,hdq]
    have hqat:ns[at_ + 1 + n]?=some q:=by
     have:(ns.drop (at_ + 1 + n))[0]?=some q:=by rw [hdq']; rfl
     rw [List.getElem?_drop] at this
     exact this
    have hr2:ns.drop (at_ + 1 + n + 1)=r':=by
     rw [← List.drop_drop,hdq']
     rfl
    have hdl2:=congrArg List.length hdq'
    rw [List.length_drop,List.length_cons] at hdl2
    have hS4:=s34.seq hSn
    walk_at "4"
    rw [e3]
    walk_at "4"
    rw [e4]
    refine r_ixL hS4 (v:=.int q) (atI_nat (by rw [List.getElem?_map,hqat]; rfl)) ?_
    walk_at "4"
    rw [e5]
    refine r_kSl hS4 fun l2 hl20=>?_
    have htake2:((ns.map V.int).drop (at_ + 1 + n + 1)).take (at_ + 1 + n + 1 + q.toNat - (at_ + 1 + n + 1))=(r'.take q.toNat).map V.int:=by
     rw [← List.map_drop,hr2,← List.map_take]
     congr 2
     omega
    rw [cut_both (by omega) (by rw [List.length_map]; omega),htake2]
    have s5:=same_new (o:=.lst ((r'.take q.toNat).map V.int)) hl20
    have hl5:upd H4 l2 (.lst ((r'.take q.toNat).map V.int)) l2=some (.lst ((r'.take q.toNat).map V.int)):=upd_same
    generalize upd H4 l2 (.lst ((r'.take q.toNat).map V.int))=H5 at s5 hl5 ⊢
    have s35:=s34.trans s5
    have ha1:=hallc.1
    rw [hc01] at ha1
    obtain ⟨h40,call,hqa,hst⟩:=ask1 (xs:=r.take n) (ls:=r'.take q.toNat) ht1 (by rw [List.length_take]; omega) ha1
    rw [← hc01] at hst
    exact turn_tail (hO.same s35) hR hNE (s35 _ _ hg) hgf (.inl (.inl (s5 _ _ (s4 _ _ hz3)))) (.inl (.inl hl5)) h40 hqa (hsz call hst) fun H9 L9 v8 o9 R9 n9 g9 f9 ft9 kp9 =>
     fin H5 H9 L9 call (at_ + 1 + n + 1 + q.toNat) _ _ _ _ _ s35 hst (by omega) (by omega) (by rw [htt,← hr2,List.drop_drop]) o9 R9 n9 g9 f9 ft9 kp9
 ·refine iteNo (decide_eq_false (by omega)) ?_
  have hnil:ns.drop at_=[]:=List.drop_of_length_le (by omega)
  rw [hnil] at hcs
  have hcn:=calls_nil hcs
  subst hcn
  have:gv=PyVbchak.answers ns:=by rw [← hA2]; exact (List.append_nil _).symm
  subst this
  walk_at "4"
  exact k _ _ hg
theorem all_ans {fa:Addr} (T:Txt K mg c) (hfa:mg "answers"=some (.ref fa)):∃ fd:FuncData,(∀ (s:Shared) (us:List Value),us.length=(["calls"]:List Str).length→BindsTo s fd ⟨us,[]⟩ ((["calls"]:List Str).zip us)) ∧
  ∀ base:Heap,K.In base→base.Ns mainGlobals mg→FnOk P w K mg base CX0 11 fa fd ["calls"] (spAns K):=by
 obtain ⟨f,fd,hm,F,ok⟩:=ok_answers T
 have e:=hfa.symm.trans hm
 cases e
 refine ⟨fd,fun s us hu=>?_,fun base _ _=>ok P w base⟩
 obtain ⟨oc,od,kV,doc,pm,an,cdv,ct,osl,rfl,lk,hcd⟩:=F.ex
 exact match us,hu with | [_],_=>.of_eq rfl
end
end Vb
namespace PySem.W.Fast
def tw332750060740912366 : Nat := 0
def tw14356191116500208188 : Nat := 0
def tw2227025591194222019 : Nat := 0
def tw9338712923838184636 : Nat := 0
def tw16444388882121995507 : Nat := 0
def tw11620712436871320022 : Nat := 0
def tw5769451223652338462 : Nat := 0
def tw16182210479952288304 : Nat := 0
def tw8401996412878242015 : Nat := 0
def tw12577874432417307856 : Nat := 0
def tw16441972469248121164 : Nat := 0
def tw13198787234557564841 : Nat := 0
def tw14385309229363226729 : Nat := 0
def tw1380172731889637964 : Nat := 0
def tw16563548301054380505 : Nat := 0
def tw15173951905388378894 : Nat := 0
def tw7704576977551372796 : Nat := 0
def tw8826750737577156267 : Nat := 0
def tw14253197197460322066 : Nat := 0
def tw9583381033122444728 : Nat := 0
def tw12409023806464076161 : Nat := 0
def tw4310655113965204021 : Nat := 0
def tw11798241353314001931 : Nat := 0
def tw4686401391334447977 : Nat := 0
def tw14433576236762091814 : Nat := 0
def tw7427814489861345987 : Nat := 0
def tw16028945630651058106 : Nat := 0
def tw9533362889082694340 : Nat := 0
def tw11120216529472986056 : Nat := 0
end PySem.W.Fast
namespace Vb
open PySem PySem.Spec PyProof.Rows L2
theorem raw_mk {K : PySem.W.Frag} {h : Heap} {mg : Str → Option Value} {x : Str} {st : Stmt} {ps : List Str} {f : Addr} {oc : Value} {od an : Option Addr} {sl : Array (Option Value)} {kV dc pm cd ct : Value} (X : K.In h) (G : h.Ns mainGlobals mg)
    (a : PySem.W.nsIn K mainGlobals x = some (some (.ref f))) (l : K.lookup f = some ⟨oc, od, .func (PySem.W.fnOf x x (defArgs st) (defBody st) (defScope st) .none kV dc pm an cd ct), sl⟩) (c : PySem.W.codeIn K cd x = true) (k : PySem.W.keepIn K (.ref f) = true)
    (hb : ∀ (kV doc pm : Value) (an : Option Addr) (cdv ct : Value) (us : List Value), us.length = ps.length → bindArgs (PySem.W.fnOf x x (defArgs st) (defBody st) (defScope st) .none kV doc pm an cdv ct) ⟨us, []⟩ = pure (ps.zip us)) : Raw K mg x st ps :=
  ⟨f, _, fun_mk (st := st) l c k, PySem.W.mg_of X G a, (fun_mk (st := st) l c k).binds hb⟩
theorem rawI_mk {K : PySem.W.Frag} {h : Heap} {mg : Str → Option Value} {x q : Str} {C : Addr} {st : Stmt} {ps : List Str} {f : Addr} {oc : Value} {od an : Option Addr} {sl : Array (Option Value)} {kV dc pm cd ct : Value} (X : K.In h) (G : h.Ns mainGlobals mg)
    (aC : PySem.W.nsIn K mainGlobals x = some (some (.ref C))) (a : PySem.W.findIn K (.ref C) "__init__" = some (some (.ref f))) (i : PySem.W.isFn K (.ref f) = true) (l : K.lookup f = some ⟨oc, od, .func (PySem.W.fnOf "__init__" q (defArgs st) (defBody st) (defScope st) .none kV dc pm an cd ct), sl⟩) (c : PySem.W.codeIn K cd q = true) (k : PySem.W.keepIn K (.ref f) = true)
    (mk : PySem.W.makesIn K C = true) (kc : PySem.W.keepIn K (.ref C) = true)
    (hb : ∀ (kV doc pm : Value) (an : Option Addr) (cdv ct : Value) (us : List Value), us.length = ps.length → bindArgs (PySem.W.fnOf "__init__" q (defArgs st) (defBody st) (defScope st) .none kV doc pm an cdv ct) ⟨us, []⟩ = pure (ps.zip us)) : RawI K mg x q C st ps :=
  ⟨f, _, fun_mk (st := st) l c k, PySem.W.mg_of X G aC, ⟨mk, a, i, kc⟩, (fun_mk (st := st) l c k).binds hb⟩
theorem cls2_mk {K : PySem.W.Frag} {h : Heap} {mg : Str → Option Value} {x q : Str} {C : Addr} {st : Stmt} {ps : List Str} {f : Addr} {oc : Value} {od an : Option Addr} {sl : Array (Option Value)} {kV dc pm cd ct : Value} {f0 : Str} {f1 : Str} (X : K.In h) (G : h.Ns mainGlobals mg)
    (aC : PySem.W.nsIn K mainGlobals x = some (some (.ref C))) (a : PySem.W.findIn K (.ref C) "__init__" = some (some (.ref f))) (i : PySem.W.isFn K (.ref f) = true) (l : K.lookup f = some ⟨oc, od, .func (PySem.W.fnOf "__init__" q (defArgs st) (defBody st) (defScope st) .none kV dc pm an cd ct), sl⟩) (c : PySem.W.codeIn K cd q = true) (k : PySem.W.keepIn K (.ref f) = true)
    (mk : PySem.W.makesIn K C = true) (kc : PySem.W.keepIn K (.ref C) = true)
    (hb : ∀ (kV doc pm : Value) (an : Option Addr) (cdv ct : Value) (us : List Value), us.length = ps.length → bindArgs (PySem.W.fnOf "__init__" q (defArgs st) (defBody st) (defScope st) .none kV doc pm an cdv ct) ⟨us, []⟩ = pure (ps.zip us))
    (pg : PySem.W.plainGet K C Str.empty = true) (hd : PySem.W.hasDictIn K C = true) (po : PySem.W.plainOver K C = true) (sa : PySem.W.findIn K (.ref C) "__setattr__" = some (some (.builtin "object.__setattr__"))) (n0 : PySem.W.findIn K (.ref C) f0 = some none) (n1 : PySem.W.findIn K (.ref C) f1 = some none) :
    ∃ C, RawI K mg x q C st ps ∧ Cls K C ∧ NoAttr K C f0 ∧ NoAttr K C f1 := ⟨C, rawI_mk X G aC a i l c k mk kc hb, ⟨pg, hd, po, sa⟩, n0, n1⟩
theorem cls3_mk {K : PySem.W.Frag} {h : Heap} {mg : Str → Option Value} {x q : Str} {C : Addr} {st : Stmt} {ps : List Str} {f : Addr} {oc : Value} {od an : Option Addr} {sl : Array (Option Value)} {kV dc pm cd ct : Value} {f0 : Str} {f1 : Str} {f2 : Str} (X : K.In h) (G : h.Ns mainGlobals mg)
    (aC : PySem.W.nsIn K mainGlobals x = some (some (.ref C))) (a : PySem.W.findIn K (.ref C) "__init__" = some (some (.ref f))) (i : PySem.W.isFn K (.ref f) = true) (l : K.lookup f = some ⟨oc, od, .func (PySem.W.fnOf "__init__" q (defArgs st) (defBody st) (defScope st) .none kV dc pm an cd ct), sl⟩) (c : PySem.W.codeIn K cd q = true) (k : PySem.W.keepIn K (.ref f) = true)
    (mk : PySem.W.makesIn K C = true) (kc : PySem.W.keepIn K (.ref C) = true)
    (hb : ∀ (kV doc pm : Value) (an : Option Addr) (cdv ct : Value) (us : List Value), us.length = ps.length → bindArgs (PySem.W.fnOf "__init__" q (defArgs st) (defBody st) (defScope st) .none kV doc pm an cdv ct) ⟨us, []⟩ = pure (ps.zip us))
    (pg : PySem.W.plainGet K C Str.empty = true) (hd : PySem.W.hasDictIn K C = true) (po : PySem.W.plainOver K C = true) (sa : PySem.W.findIn K (.ref C) "__setattr__" = some (some (.builtin "object.__setattr__"))) (n0 : PySem.W.findIn K (.ref C) f0 = some none) (n1 : PySem.W.findIn K (.ref C) f1 = some none) (n2 : PySem.W.findIn K (.ref C) f2 = some none) :
    ∃ C, RawI K mg x q C st ps ∧ Cls K C ∧ NoAttr K C f0 ∧ NoAttr K C f1 ∧ NoAttr K C f2 := ⟨C, rawI_mk X G aC a i l c k mk kc hb, ⟨pg, hd, po, sa⟩, n0, n1, n2⟩
theorem cls4_mk {K : PySem.W.Frag} {h : Heap} {mg : Str → Option Value} {x q : Str} {C : Addr} {st : Stmt} {ps : List Str} {f : Addr} {oc : Value} {od an : Option Addr} {sl : Array (Option Value)} {kV dc pm cd ct : Value} {f0 : Str} {f1 : Str} {f2 : Str} {f3 : Str} (X : K.In h) (G : h.Ns mainGlobals mg)
    (aC : PySem.W.nsIn K mainGlobals x = some (some (.ref C))) (a : PySem.W.findIn K (.ref C) "__init__" = some (some (.ref f))) (i : PySem.W.isFn K (.ref f) = true) (l : K.lookup f = some ⟨oc, od, .func (PySem.W.fnOf "__init__" q (defArgs st) (defBody st) (defScope st) .none kV dc pm an cd ct), sl⟩) (c : PySem.W.codeIn K cd q = true) (k : PySem.W.keepIn K (.ref f) = true)
    (mk : PySem.W.makesIn K C = true) (kc : PySem.W.keepIn K (.ref C) = true)
    (hb : ∀ (kV doc pm : Value) (an : Option Addr) (cdv ct : Value) (us : List Value), us.length = ps.length → bindArgs (PySem.W.fnOf "__init__" q (defArgs st) (defBody st) (defScope st) .none kV doc pm an cdv ct) ⟨us, []⟩ = pure (ps.zip us))
    (pg : PySem.W.plainGet K C Str.empty = true) (hd : PySem.W.hasDictIn K C = true) (po : PySem.W.plainOver K C = true) (sa : PySem.W.findIn K (.ref C) "__setattr__" = some (some (.builtin "object.__setattr__"))) (n0 : PySem.W.findIn K (.ref C) f0 = some none) (n1 : PySem.W.findIn K (.ref C) f1 = some none) (n2 : PySem.W.findIn K (.ref C) f2 = some none) (n3 : PySem.W.findIn K (.ref C) f3 = some none) :
    ∃ C, RawI K mg x q C st ps ∧ Cls K C ∧ NoAttr K C f0 ∧ NoAttr K C f1 ∧ NoAttr K C f2 ∧ NoAttr K C f3 := ⟨C, rawI_mk X G aC a i l c k mk kc hb, ⟨pg, hd, po, sa⟩, n0, n1, n2, n3⟩
theorem con_mk {K : PySem.W.Frag} {h : Heap} {mg : Str → Option Value} {x : Str} {v : Int} {t : Tok} (X : K.In h) (G : h.Ns mainGlobals mg) (a : PySem.W.nsIn K mainGlobals x = some (some (.int v t))) : ∃ t, mg x = some (.int v t) := ⟨t, PySem.W.mg_of X G a⟩
theorem tup_mk {K : PySem.W.Frag} {h : Heap} {mg : Str → Option Value} {x : Str} {a : Addr} {o : Obj} {its : Array Value} {n : Nat} {xs : List V} (X : K.In h) (G : h.Ns mainGlobals mg) (e : PySem.W.nsIn K mainGlobals x = some (some (.ref a))) (l : K.lookup a = some o) (hc : o.cls = .type "tuple") (hd : o.data = .seq its n) (hs : its.size ≤ sizeLine) (hv : Vals xs its.toList) : ∃ a, mg x = some (.ref a) ∧ ∀ H : Hp, SqT K H a xs := ⟨a, PySem.W.mg_of X G e, fun H => .inr ⟨o, its, n, l, hc, hd, hs, hv⟩⟩
theorem vals_int {xs : List V} {us : List Value} {i : Int} {t : Tok} (h : Vals xs us) : Vals (.int i :: xs) (.int i t :: us) := .cons ⟨t, rfl⟩ h
end Vb
open PySem PySem.W PyProof.Rows
set_option maxRecDepth 100000 in
set_option maxHeartbeats 0 in
theorem PySem.Challenge.cw_settledatonce_s01_answers_holds : PySem.Challenge.rw_settledatonce_s01_answers.Holds := by
  w_on; k_headS; (case hw => exact ⟨[.list [.int 10]], by decide +kernel, by decide +kernel⟩)
  k_fillS
  refine L2.walk_specK (r := PySem.Challenge.rw_settledatonce_s01_answers) (k := 11) (CX := L2.CX0) (ps := ["calls"]) (sp := Vb.spAns) (by decide +kernel) rfl rfl ⟨rfl, by decide, by decide⟩ (fun w h Y => PySem.W.kIn_of Y) ?F ?S (fun _ _ _ _ z => z)
  case F =>
    intro w mg fa h Y KX G hmg
    have x_Leg : ∃ C, Vb.RawI (L2.KOf KX) mg "Leg" "Leg.__init__" C (L2.inClass (Vb.top 1) 0) ["self", "giver", "taker", "good", "amount"] ∧ L2.Cls (L2.KOf KX) C ∧ L2.NoAttr (L2.KOf KX) C "giver" ∧ L2.NoAttr (L2.KOf KX) C "taker" ∧ L2.NoAttr (L2.KOf KX) C "good" ∧ L2.NoAttr (L2.KOf KX) C "amount" := by
      dsimp only [L2.KOf]
      refine' Vb.cls4_mk KX G ?aC_1 ?a_1 ?i_1 ?l_1 ?c_1 ?k_1 ?mk_1 ?kc_1 ?b_1 ?pg_1 ?hd_1 ?po_1 ?sa_1 ?n0_1 ?n1_1 ?n2_1 ?n3_1
      (case aC_1 => k_is); (case a_1 => k_is); (case i_1 => k_is); (case l_1 => k_is); (case c_1 => k_is); (case k_1 => k_is); (case mk_1 => k_is); (case kc_1 => k_is); (case b_1 => exact fun _ _ _ _ _ _ us hl => match us, hl with | [_, _, _, _, _], _ => rfl); (case pg_1 => k_is); (case hd_1 => k_is); (case po_1 => k_is); (case sa_1 => k_is)
      (case n0_1 => k_is)
      (case n1_1 => k_is)
      (case n2_1 => k_is)
      (case n3_1 => k_is)
    have x_Group : ∃ C, Vb.RawI (L2.KOf KX) mg "Group" "Group.__init__" C (L2.inClass (Vb.top 2) 0) ["self", "legs"] ∧ L2.Cls (L2.KOf KX) C ∧ L2.NoAttr (L2.KOf KX) C "legs" ∧ L2.NoAttr (L2.KOf KX) C "held" := by
      dsimp only [L2.KOf]
      refine' Vb.cls2_mk KX G ?aC_2 ?a_2 ?i_2 ?l_2 ?c_2 ?k_2 ?mk_2 ?kc_2 ?b_2 ?pg_2 ?hd_2 ?po_2 ?sa_2 ?n0_2 ?n1_2
      (case aC_2 => k_is); (case a_2 => k_is); (case i_2 => k_is); (case l_2 => k_is); (case c_2 => k_is); (case k_2 => k_is); (case mk_2 => k_is); (case kc_2 => k_is); (case b_2 => exact fun _ _ _ _ _ _ us hl => match us, hl with | [_, _], _ => rfl); (case pg_2 => k_is); (case hd_2 => k_is); (case po_2 => k_is); (case sa_2 => k_is)
      (case n0_2 => k_is)
      (case n1_2 => k_is)
    have x_Account : ∃ C, Vb.RawI (L2.KOf KX) mg "Account" "Account.__init__" C (L2.inClass (Vb.top 3) 0) ["self"] ∧ L2.Cls (L2.KOf KX) C ∧ L2.NoAttr (L2.KOf KX) C "amounts" ∧ L2.NoAttr (L2.KOf KX) C "limits" ∧ L2.NoAttr (L2.KOf KX) C "row" := by
      dsimp only [L2.KOf]
      refine' Vb.cls3_mk KX G ?aC_3 ?a_3 ?i_3 ?l_3 ?c_3 ?k_3 ?mk_3 ?kc_3 ?b_3 ?pg_3 ?hd_3 ?po_3 ?sa_3 ?n0_3 ?n1_3 ?n2_3
      (case aC_3 => k_is); (case a_3 => k_is); (case i_3 => k_is); (case l_3 => k_is); (case c_3 => k_is); (case k_3 => k_is); (case mk_3 => k_is); (case kc_3 => k_is); (case b_3 => exact fun _ _ _ _ _ _ us hl => match us, hl with | [_], _ => rfl); (case pg_3 => k_is); (case hd_3 => k_is); (case po_3 => k_is); (case sa_3 => k_is)
      (case n0_3 => k_is)
      (case n1_3 => k_is)
      (case n2_3 => k_is)
    have x_House : ∃ C, Vb.RawI (L2.KOf KX) mg "House" "House.__init__" C (L2.inClass (Vb.top 4) 0) ["self"] ∧ L2.Cls (L2.KOf KX) C ∧ L2.NoAttr (L2.KOf KX) C "accounts" ∧ L2.NoAttr (L2.KOf KX) C "groups" := by
      dsimp only [L2.KOf]
      refine' Vb.cls2_mk KX G ?aC_4 ?a_4 ?i_4 ?l_4 ?c_4 ?k_4 ?mk_4 ?kc_4 ?b_4 ?pg_4 ?hd_4 ?po_4 ?sa_4 ?n0_4 ?n1_4
      (case aC_4 => k_is); (case a_4 => k_is); (case i_4 => k_is); (case l_4 => k_is); (case c_4 => k_is); (case k_4 => k_is); (case mk_4 => k_is); (case kc_4 => k_is); (case b_4 => exact fun _ _ _ _ _ _ us hl => match us, hl with | [_], _ => rfl); (case pg_4 => k_is); (case hd_4 => k_is); (case po_4 => k_is); (case sa_4 => k_is)
      (case n0_4 => k_is)
      (case n1_4 => k_is)
    have x_is_key : Vb.Raw (L2.KOf KX) mg "is_key" (Vb.top 24) ["number"] := by
      dsimp only [L2.KOf]
      refine' Vb.raw_mk KX G ?a_5 ?l_5 ?c_5 ?k_5 ?b_5
      (case a_5 => k_is); (case l_5 => k_is); (case c_5 => k_is); (case k_5 => k_is); (case b_5 => exact fun _ _ _ _ _ _ us hl => match us, hl with | [_], _ => rfl)
    have x_is_good : Vb.Raw (L2.KOf KX) mg "is_good" (Vb.top 25) ["number"] := by
      dsimp only [L2.KOf]
      refine' Vb.raw_mk KX G ?a_6 ?l_6 ?c_6 ?k_6 ?b_6
      (case a_6 => k_is); (case l_6 => k_is); (case c_6 => k_is); (case k_6 => k_is); (case b_6 => exact fun _ _ _ _ _ _ us hl => match us, hl with | [_], _ => rfl)
    have x_is_amount : Vb.Raw (L2.KOf KX) mg "is_amount" (Vb.top 26) ["number"] := by
      dsimp only [L2.KOf]
      refine' Vb.raw_mk KX G ?a_7 ?l_7 ?c_7 ?k_7 ?b_7
      (case a_7 => k_is); (case l_7 => k_is); (case c_7 => k_is); (case k_7 => k_is); (case b_7 => exact fun _ _ _ _ _ _ us hl => match us, hl with | [_], _ => rfl)
    have x_is_limit : Vb.Raw (L2.KOf KX) mg "is_limit" (Vb.top 27) ["number"] := by
      dsimp only [L2.KOf]
      refine' Vb.raw_mk KX G ?a_8 ?l_8 ?c_8 ?k_8 ?b_8
      (case a_8 => k_is); (case l_8 => k_is); (case c_8 => k_is); (case k_8 => k_is); (case b_8 => exact fun _ _ _ _ _ _ us hl => match us, hl with | [_], _ => rfl)
    have x_is_place : Vb.Raw (L2.KOf KX) mg "is_place" (Vb.top 28) ["number"] := by
      dsimp only [L2.KOf]
      refine' Vb.raw_mk KX G ?a_9 ?l_9 ?c_9 ?k_9 ?b_9
      (case a_9 => k_is); (case l_9 => k_is); (case c_9 => k_is); (case k_9 => k_is); (case b_9 => exact fun _ _ _ _ _ _ us hl => match us, hl with | [_], _ => rfl)
    have x_list_refusal : Vb.Raw (L2.KOf KX) mg "list_refusal" (Vb.top 29) ["house", "keys"] := by
      dsimp only [L2.KOf]
      refine' Vb.raw_mk KX G ?a_10 ?l_10 ?c_10 ?k_10 ?b_10
      (case a_10 => k_is); (case l_10 => k_is); (case c_10 => k_is); (case k_10 => k_is); (case b_10 => exact fun _ _ _ _ _ _ us hl => match us, hl with | [_, _], _ => rfl)
    have x_groups_told : Vb.Raw (L2.KOf KX) mg "groups_told" (Vb.top 31) ["keys"] := by
      dsimp only [L2.KOf]
      refine' Vb.raw_mk KX G ?a_11 ?l_11 ?c_11 ?k_11 ?b_11
      (case a_11 => k_is); (case l_11 => k_is); (case c_11 => k_is); (case k_11 => k_is); (case b_11 => exact fun _ _ _ _ _ _ us hl => match us, hl with | [_], _ => rfl)
    have x_amounts_after : Vb.Raw (L2.KOf KX) mg "amounts_after" (Vb.top 32) ["house", "chosen"] := by
      dsimp only [L2.KOf]
      refine' Vb.raw_mk KX G ?a_12 ?l_12 ?c_12 ?k_12 ?b_12
      (case a_12 => k_is); (case l_12 => k_is); (case c_12 => k_is); (case k_12 => k_is); (case b_12 => exact fun _ _ _ _ _ _ us hl => match us, hl with | [_, _], _ => rfl)
    have x_short_accounts : Vb.Raw (L2.KOf KX) mg "short_accounts" (Vb.top 33) ["house", "chosen"] := by
      dsimp only [L2.KOf]
      refine' Vb.raw_mk KX G ?a_13 ?l_13 ?c_13 ?k_13 ?b_13
      (case a_13 => k_is); (case l_13 => k_is); (case c_13 => k_is); (case k_13 => k_is); (case b_13 => exact fun _ _ _ _ _ _ us hl => match us, hl with | [_, _], _ => rfl)
    have x_blocked_groups : Vb.Raw (L2.KOf KX) mg "blocked_groups" (Vb.top 34) ["house", "chosen"] := by
      dsimp only [L2.KOf]
      refine' Vb.raw_mk KX G ?a_14 ?l_14 ?c_14 ?k_14 ?b_14
      (case a_14 => k_is); (case l_14 => k_is); (case c_14 => k_is); (case k_14 => k_is); (case b_14 => exact fun _ _ _ _ _ _ us hl => match us, hl with | [_, _], _ => rfl)
    have x_less : Vb.Raw (L2.KOf KX) mg "less" (Vb.top 35) ["chosen", "away"] := by
      dsimp only [L2.KOf]
      refine' Vb.raw_mk KX G ?a_15 ?l_15 ?c_15 ?k_15 ?b_15
      (case a_15 => k_is); (case l_15 => k_is); (case c_15 => k_is); (case k_15 => k_is); (case b_15 => exact fun _ _ _ _ _ _ us hl => match us, hl with | [_, _], _ => rfl)
    have x_less_blocked : Vb.Raw (L2.KOf KX) mg "less_blocked" (Vb.top 36) ["house", "chosen"] := by
      dsimp only [L2.KOf]
      refine' Vb.raw_mk KX G ?a_16 ?l_16 ?c_16 ?k_16 ?b_16
      (case a_16 => k_is); (case l_16 => k_is); (case c_16 => k_is); (case k_16 => k_is); (case b_16 => exact fun _ _ _ _ _ _ us hl => match us, hl with | [_, _], _ => rfl)
    have x_free_groups : Vb.Raw (L2.KOf KX) mg "free_groups" (Vb.top 37) ["house"] := by
      dsimp only [L2.KOf]
      refine' Vb.raw_mk KX G ?a_17 ?l_17 ?c_17 ?k_17 ?b_17
      (case a_17 => k_is); (case l_17 => k_is); (case c_17 => k_is); (case k_17 => k_is); (case b_17 => exact fun _ _ _ _ _ _ us hl => match us, hl with | [_], _ => rfl)
    have x_touching_groups : Vb.Raw (L2.KOf KX) mg "touching_groups" (Vb.top 38) ["house", "account_key", "chosen"] := by
      dsimp only [L2.KOf]
      refine' Vb.raw_mk KX G ?a_18 ?l_18 ?c_18 ?k_18 ?b_18
      (case a_18 => k_is); (case l_18 => k_is); (case c_18 => k_is); (case k_18 => k_is); (case b_18 => exact fun _ _ _ _ _ _ us hl => match us, hl with | [_, _, _], _ => rfl)
    have x_culprits : Vb.Raw (L2.KOf KX) mg "culprits" (Vb.top 39) ["house", "chosen"] := by
      dsimp only [L2.KOf]
      refine' Vb.raw_mk KX G ?a_19 ?l_19 ?c_19 ?k_19 ?b_19
      (case a_19 => k_is); (case l_19 => k_is); (case c_19 => k_is); (case k_19 => k_is); (case b_19 => exact fun _ _ _ _ _ _ us hl => match us, hl with | [_, _], _ => rfl)
    have x_rounds : Vb.Raw (L2.KOf KX) mg "rounds" (Vb.top 40) ["house", "chosen"] := by
      dsimp only [L2.KOf]
      refine' Vb.raw_mk KX G ?a_20 ?l_20 ?c_20 ?k_20 ?b_20
      (case a_20 => k_is); (case l_20 => k_is); (case c_20 => k_is); (case k_20 => k_is); (case b_20 => exact fun _ _ _ _ _ _ us hl => match us, hl with | [_, _], _ => rfl)
    have x_greatest_within : Vb.Raw (L2.KOf KX) mg "greatest_within" (Vb.top 41) ["house", "chosen"] := by
      dsimp only [L2.KOf]
      refine' Vb.raw_mk KX G ?a_21 ?l_21 ?c_21 ?k_21 ?b_21
      (case a_21 => k_is); (case l_21 => k_is); (case c_21 => k_is); (case k_21 => k_is); (case b_21 => exact fun _ _ _ _ _ _ us hl => match us, hl with | [_, _], _ => rfl)
    have x_greatest_set : Vb.Raw (L2.KOf KX) mg "greatest_set" (Vb.top 42) ["house"] := by
      dsimp only [L2.KOf]
      refine' Vb.raw_mk KX G ?a_22 ?l_22 ?c_22 ?k_22 ?b_22
      (case a_22 => k_is); (case l_22 => k_is); (case c_22 => k_is); (case k_22 => k_is); (case b_22 => exact fun _ _ _ _ _ _ us hl => match us, hl with | [_], _ => rfl)
    have x_can_go : Vb.Raw (L2.KOf KX) mg "can_go" (Vb.top 43) ["house", "chosen"] := by
      dsimp only [L2.KOf]
      refine' Vb.raw_mk KX G ?a_23 ?l_23 ?c_23 ?k_23 ?b_23
      (case a_23 => k_is); (case l_23 => k_is); (case c_23 => k_is); (case k_23 => k_is); (case b_23 => exact fun _ _ _ _ _ _ us hl => match us, hl with | [_, _], _ => rfl)
    have x_add_account : Vb.Raw (L2.KOf KX) mg "add_account" (Vb.top 45) ["house", "key"] := by
      dsimp only [L2.KOf]
      refine' Vb.raw_mk KX G ?a_24 ?l_24 ?c_24 ?k_24 ?b_24
      (case a_24 => k_is); (case l_24 => k_is); (case c_24 => k_is); (case k_24 => k_is); (case b_24 => exact fun _ _ _ _ _ _ us hl => match us, hl with | [_, _], _ => rfl)
    have x_deposit : Vb.Raw (L2.KOf KX) mg "deposit" (Vb.top 46) ["house", "account_key", "good", "amount"] := by
      dsimp only [L2.KOf]
      refine' Vb.raw_mk KX G ?a_25 ?l_25 ?c_25 ?k_25 ?b_25
      (case a_25 => k_is); (case l_25 => k_is); (case c_25 => k_is); (case k_25 => k_is); (case b_25 => exact fun _ _ _ _ _ _ us hl => match us, hl with | [_, _, _, _], _ => rfl)
    have x_withdraw : Vb.Raw (L2.KOf KX) mg "withdraw" (Vb.top 47) ["house", "account_key", "good", "amount"] := by
      dsimp only [L2.KOf]
      refine' Vb.raw_mk KX G ?a_26 ?l_26 ?c_26 ?k_26 ?b_26
      (case a_26 => k_is); (case l_26 => k_is); (case c_26 => k_is); (case k_26 => k_is); (case b_26 => exact fun _ _ _ _ _ _ us hl => match us, hl with | [_, _, _, _], _ => rfl)
    have x_set_limit : Vb.Raw (L2.KOf KX) mg "set_limit" (Vb.top 48) ["house", "account_key", "good", "limit"] := by
      dsimp only [L2.KOf]
      refine' Vb.raw_mk KX G ?a_27 ?l_27 ?c_27 ?k_27 ?b_27
      (case a_27 => k_is); (case l_27 => k_is); (case c_27 => k_is); (case k_27 => k_is); (case b_27 => exact fun _ _ _ _ _ _ us hl => match us, hl with | [_, _, _, _], _ => rfl)
    have x_cut_legs : Vb.Raw (L2.KOf KX) mg "cut_legs" (Vb.top 49) ["numbers"] := by
      dsimp only [L2.KOf]
      refine' Vb.raw_mk KX G ?a_28 ?l_28 ?c_28 ?k_28 ?b_28
      (case a_28 => k_is); (case l_28 => k_is); (case c_28 => k_is); (case k_28 => k_is); (case b_28 => exact fun _ _ _ _ _ _ us hl => match us, hl with | [_], _ => rfl)
    have x_is_leg : Vb.Raw (L2.KOf KX) mg "is_leg" (Vb.top 50) ["leg"] := by
      dsimp only [L2.KOf]
      refine' Vb.raw_mk KX G ?a_29 ?l_29 ?c_29 ?k_29 ?b_29
      (case a_29 => k_is); (case l_29 => k_is); (case c_29 => k_is); (case k_29 => k_is); (case b_29 => exact fun _ _ _ _ _ _ us hl => match us, hl with | [_], _ => rfl)
    have x_are_legs : Vb.Raw (L2.KOf KX) mg "are_legs" (Vb.top 51) ["numbers"] := by
      dsimp only [L2.KOf]
      refine' Vb.raw_mk KX G ?a_30 ?l_30 ?c_30 ?k_30 ?b_30
      (case a_30 => k_is); (case l_30 => k_is); (case c_30 => k_is); (case k_30 => k_is); (case b_30 => exact fun _ _ _ _ _ _ us hl => match us, hl with | [_], _ => rfl)
    have x_touched_accounts : Vb.Raw (L2.KOf KX) mg "touched_accounts" (Vb.top 52) ["legs"] := by
      dsimp only [L2.KOf]
      refine' Vb.raw_mk KX G ?a_31 ?l_31 ?c_31 ?k_31 ?b_31
      (case a_31 => k_is); (case l_31 => k_is); (case c_31 => k_is); (case k_31 => k_is); (case b_31 => exact fun _ _ _ _ _ _ us hl => match us, hl with | [_], _ => rfl)
    have x_add_group : Vb.Raw (L2.KOf KX) mg "add_group" (Vb.top 53) ["house", "key", "numbers"] := by
      dsimp only [L2.KOf]
      refine' Vb.raw_mk KX G ?a_32 ?l_32 ?c_32 ?k_32 ?b_32
      (case a_32 => k_is); (case l_32 => k_is); (case c_32 => k_is); (case k_32 => k_is); (case b_32 => exact fun _ _ _ _ _ _ us hl => match us, hl with | [_, _, _], _ => rfl)
    have x_take_out : Vb.Raw (L2.KOf KX) mg "take_out" (Vb.top 54) ["house", "gone"] := by
      dsimp only [L2.KOf]
      refine' Vb.raw_mk KX G ?a_33 ?l_33 ?c_33 ?k_33 ?b_33
      (case a_33 => k_is); (case l_33 => k_is); (case c_33 => k_is); (case k_33 => k_is); (case b_33 => exact fun _ _ _ _ _ _ us hl => match us, hl with | [_, _], _ => rfl)
    have x_cancel : Vb.Raw (L2.KOf KX) mg "cancel" (Vb.top 55) ["house", "key"] := by
      dsimp only [L2.KOf]
      refine' Vb.raw_mk KX G ?a_34 ?l_34 ?c_34 ?k_34 ?b_34
      (case a_34 => k_is); (case l_34 => k_is); (case c_34 => k_is); (case k_34 => k_is); (case b_34 => exact fun _ _ _ _ _ _ us hl => match us, hl with | [_, _], _ => rfl)
    have x_hold : Vb.Raw (L2.KOf KX) mg "hold" (Vb.top 56) ["house", "key", "held"] := by
      dsimp only [L2.KOf]
      refine' Vb.raw_mk KX G ?a_35 ?l_35 ?c_35 ?k_35 ?b_35
      (case a_35 => k_is); (case l_35 => k_is); (case c_35 => k_is); (case k_35 => k_is); (case b_35 => exact fun _ _ _ _ _ _ us hl => match us, hl with | [_, _, _], _ => rfl)
    have x_place : Vb.Raw (L2.KOf KX) mg "place" (Vb.top 57) ["house", "account_key", "key", "n"] := by
      dsimp only [L2.KOf]
      refine' Vb.raw_mk KX G ?a_36 ?l_36 ?c_36 ?k_36 ?b_36
      (case a_36 => k_is); (case l_36 => k_is); (case c_36 => k_is); (case k_36 => k_is); (case b_36 => exact fun _ _ _ _ _ _ us hl => match us, hl with | [_, _, _, _], _ => rfl)
    have x_let_go : Vb.Raw (L2.KOf KX) mg "let_go" (Vb.top 58) ["house", "chosen"] := by
      dsimp only [L2.KOf]
      refine' Vb.raw_mk KX G ?a_37 ?l_37 ?c_37 ?k_37 ?b_37
      (case a_37 => k_is); (case l_37 => k_is); (case c_37 => k_is); (case k_37 => k_is); (case b_37 => exact fun _ _ _ _ _ _ us hl => match us, hl with | [_, _], _ => rfl)
    have x_settle : Vb.Raw (L2.KOf KX) mg "settle" (Vb.top 59) ["house"] := by
      dsimp only [L2.KOf]
      refine' Vb.raw_mk KX G ?a_38 ?l_38 ?c_38 ?k_38 ?b_38
      (case a_38 => k_is); (case l_38 => k_is); (case c_38 => k_is); (case k_38 => k_is); (case b_38 => exact fun _ _ _ _ _ _ us hl => match us, hl with | [_], _ => rfl)
    have x_go : Vb.Raw (L2.KOf KX) mg "go" (Vb.top 60) ["house", "keys"] := by
      dsimp only [L2.KOf]
      refine' Vb.raw_mk KX G ?a_39 ?l_39 ?c_39 ?k_39 ?b_39
      (case a_39 => k_is); (case l_39 => k_is); (case c_39 => k_is); (case k_39 => k_is); (case b_39 => exact fun _ _ _ _ _ _ us hl => match us, hl with | [_, _], _ => rfl)
    have x_first_ahead : Vb.Raw (L2.KOf KX) mg "first_ahead" (Vb.top 65) ["house", "key", "chosen"] := by
      dsimp only [L2.KOf]
      refine' Vb.raw_mk KX G ?a_40 ?l_40 ?c_40 ?k_40 ?b_40
      (case a_40 => k_is); (case l_40 => k_is); (case c_40 => k_is); (case k_40 => k_is); (case b_40 => exact fun _ _ _ _ _ _ us hl => match us, hl with | [_, _, _], _ => rfl)
    have x_reason : Vb.Raw (L2.KOf KX) mg "reason" (Vb.top 66) ["house", "key"] := by
      dsimp only [L2.KOf]
      refine' Vb.raw_mk KX G ?a_41 ?l_41 ?c_41 ?k_41 ?b_41
      (case a_41 => k_is); (case l_41 => k_is); (case c_41 => k_is); (case k_41 => k_is); (case b_41 => exact fun _ _ _ _ _ _ us hl => match us, hl with | [_, _], _ => rfl)
    have x_with_more : Vb.Raw (L2.KOf KX) mg "with_more" (Vb.top 68) ["house", "account_key", "good", "amount"] := by
      dsimp only [L2.KOf]
      refine' Vb.raw_mk KX G ?a_42 ?l_42 ?c_42 ?k_42 ?b_42
      (case a_42 => k_is); (case l_42 => k_is); (case c_42 => k_is); (case k_42 => k_is); (case b_42 => exact fun _ _ _ _ _ _ us hl => match us, hl with | [_, _, _, _], _ => rfl)
    have x_missing_amount : Vb.Raw (L2.KOf KX) mg "missing_amount" (Vb.top 69) ["house", "account_key", "good", "chosen"] := by
      dsimp only [L2.KOf]
      refine' Vb.raw_mk KX G ?a_43 ?l_43 ?c_43 ?k_43 ?b_43
      (case a_43 => k_is); (case l_43 => k_is); (case c_43 => k_is); (case k_43 => k_is); (case b_43 => exact fun _ _ _ _ _ _ us hl => match us, hl with | [_, _, _, _], _ => rfl)
    have x_let_in : Vb.Raw (L2.KOf KX) mg "let_in" (Vb.top 70) ["house", "account_key", "good", "amount"] := by
      dsimp only [L2.KOf]
      refine' Vb.raw_mk KX G ?a_44 ?l_44 ?c_44 ?k_44 ?b_44
      (case a_44 => k_is); (case l_44 => k_is); (case c_44 => k_is); (case k_44 => k_is); (case b_44 => exact fun _ _ _ _ _ _ us hl => match us, hl with | [_, _, _, _], _ => rfl)
    have x_least_amounts : Vb.Raw (L2.KOf KX) mg "least_amounts" (Vb.top 71) ["house", "account_key", "good", "key"] := by
      dsimp only [L2.KOf]
      refine' Vb.raw_mk KX G ?a_45 ?l_45 ?c_45 ?k_45 ?b_45
      (case a_45 => k_is); (case l_45 => k_is); (case c_45 => k_is); (case k_45 => k_is); (case b_45 => exact fun _ _ _ _ _ _ us hl => match us, hl with | [_, _, _, _], _ => rfl)
    have x_counted : Vb.Raw (L2.KOf KX) mg "counted" (Vb.top 73) ["keys"] := by
      dsimp only [L2.KOf]
      refine' Vb.raw_mk KX G ?a_46 ?l_46 ?c_46 ?k_46 ?b_46
      (case a_46 => k_is); (case l_46 => k_is); (case c_46 => k_is); (case k_46 => k_is); (case b_46 => exact fun _ _ _ _ _ _ us hl => match us, hl with | [_], _ => rfl)
    have x_ready : Vb.Raw (L2.KOf KX) mg "ready" (Vb.top 74) ["house"] := by
      dsimp only [L2.KOf]
      refine' Vb.raw_mk KX G ?a_47 ?l_47 ?c_47 ?k_47 ?b_47
      (case a_47 => k_is); (case l_47 => k_is); (case c_47 => k_is); (case k_47 => k_is); (case b_47 => exact fun _ _ _ _ _ _ us hl => match us, hl with | [_], _ => rfl)
    have x_can : Vb.Raw (L2.KOf KX) mg "can" (Vb.top 75) ["house", "keys"] := by
      dsimp only [L2.KOf]
      refine' Vb.raw_mk KX G ?a_48 ?l_48 ?c_48 ?k_48 ?b_48
      (case a_48 => k_is); (case l_48 => k_is); (case c_48 => k_is); (case k_48 => k_is); (case b_48 => exact fun _ _ _ _ _ _ us hl => match us, hl with | [_, _], _ => rfl)
    have x_why : Vb.Raw (L2.KOf KX) mg "why" (Vb.top 76) ["house", "key"] := by
      dsimp only [L2.KOf]
      refine' Vb.raw_mk KX G ?a_49 ?l_49 ?c_49 ?k_49 ?b_49
      (case a_49 => k_is); (case l_49 => k_is); (case c_49 => k_is); (case k_49 => k_is); (case b_49 => exact fun _ _ _ _ _ _ us hl => match us, hl with | [_, _], _ => rfl)
    have x_good_refusal : Vb.Raw (L2.KOf KX) mg "good_refusal" (Vb.top 77) ["house", "account_key", "good"] := by
      dsimp only [L2.KOf]
      refine' Vb.raw_mk KX G ?a_50 ?l_50 ?c_50 ?k_50 ?b_50
      (case a_50 => k_is); (case l_50 => k_is); (case c_50 => k_is); (case k_50 => k_is); (case b_50 => exact fun _ _ _ _ _ _ us hl => match us, hl with | [_, _, _], _ => rfl)
    have x_has : Vb.Raw (L2.KOf KX) mg "has" (Vb.top 78) ["house", "account_key", "good"] := by
      dsimp only [L2.KOf]
      refine' Vb.raw_mk KX G ?a_51 ?l_51 ?c_51 ?k_51 ?b_51
      (case a_51 => k_is); (case l_51 => k_is); (case c_51 => k_is); (case k_51 => k_is); (case b_51 => exact fun _ _ _ _ _ _ us hl => match us, hl with | [_, _, _], _ => rfl)
    have x_then : Vb.Raw (L2.KOf KX) mg "then" (Vb.top 79) ["house", "account_key", "good"] := by
      dsimp only [L2.KOf]
      refine' Vb.raw_mk KX G ?a_52 ?l_52 ?c_52 ?k_52 ?b_52
      (case a_52 => k_is); (case l_52 => k_is); (case c_52 => k_is); (case k_52 => k_is); (case b_52 => exact fun _ _ _ _ _ _ us hl => match us, hl with | [_, _, _], _ => rfl)
    have x_with_all : Vb.Raw (L2.KOf KX) mg "with_all" (Vb.top 80) ["house", "account_key", "good"] := by
      dsimp only [L2.KOf]
      refine' Vb.raw_mk KX G ?a_53 ?l_53 ?c_53 ?k_53 ?b_53
      (case a_53 => k_is); (case l_53 => k_is); (case c_53 => k_is); (case k_53 => k_is); (case b_53 => exact fun _ _ _ _ _ _ us hl => match us, hl with | [_, _, _], _ => rfl)
    have x_need : Vb.Raw (L2.KOf KX) mg "need" (Vb.top 81) ["house", "account_key", "good", "key"] := by
      dsimp only [L2.KOf]
      refine' Vb.raw_mk KX G ?a_54 ?l_54 ?c_54 ?k_54 ?b_54
      (case a_54 => k_is); (case l_54 => k_is); (case c_54 => k_is); (case k_54 => k_is); (case b_54 => exact fun _ _ _ _ _ _ us hl => match us, hl with | [_, _, _, _], _ => rfl)
    have x_more : Vb.Raw (L2.KOf KX) mg "more" (Vb.top 82) ["house", "account_key", "good", "amount"] := by
      dsimp only [L2.KOf]
      refine' Vb.raw_mk KX G ?a_55 ?l_55 ?c_55 ?k_55 ?b_55
      (case a_55 => k_is); (case l_55 => k_is); (case c_55 => k_is); (case k_55 => k_is); (case b_55 => exact fun _ _ _ _ _ _ us hl => match us, hl with | [_, _, _, _], _ => rfl)
    have x_row : Vb.Raw (L2.KOf KX) mg "row" (Vb.top 83) ["house", "account_key"] := by
      dsimp only [L2.KOf]
      refine' Vb.raw_mk KX G ?a_56 ?l_56 ?c_56 ?k_56 ?b_56
      (case a_56 => k_is); (case l_56 => k_is); (case c_56 => k_is); (case k_56 => k_is); (case b_56 => exact fun _ _ _ _ _ _ us hl => match us, hl with | [_, _], _ => rfl)
    have x_legs : Vb.Raw (L2.KOf KX) mg "legs" (Vb.top 84) ["house", "key"] := by
      dsimp only [L2.KOf]
      refine' Vb.raw_mk KX G ?a_57 ?l_57 ?c_57 ?k_57 ?b_57
      (case a_57 => k_is); (case l_57 => k_is); (case c_57 => k_is); (case k_57 => k_is); (case b_57 => exact fun _ _ _ _ _ _ us hl => match us, hl with | [_, _], _ => rfl)
    have x_waiting : Vb.Raw (L2.KOf KX) mg "waiting" (Vb.top 85) ["house"] := by
      dsimp only [L2.KOf]
      refine' Vb.raw_mk KX G ?a_58 ?l_58 ?c_58 ?k_58 ?b_58
      (case a_58 => k_is); (case l_58 => k_is); (case c_58 => k_is); (case k_58 => k_is); (case b_58 => exact fun _ _ _ _ _ _ us hl => match us, hl with | [_], _ => rfl)
    have x_moved : Vb.Raw (L2.KOf KX) mg "moved" (Vb.top 86) ["house", "good"] := by
      dsimp only [L2.KOf]
      refine' Vb.raw_mk KX G ?a_59 ?l_59 ?c_59 ?k_59 ?b_59
      (case a_59 => k_is); (case l_59 => k_is); (case c_59 => k_is); (case k_59 => k_is); (case b_59 => exact fun _ _ _ _ _ _ us hl => match us, hl with | [_, _], _ => rfl)
    have x_answer_change : Vb.Raw (L2.KOf KX) mg "answer_change" (Vb.top 91) ["house", "number", "told", "listed"] := by
      dsimp only [L2.KOf]
      refine' Vb.raw_mk KX G ?a_60 ?l_60 ?c_60 ?k_60 ?b_60
      (case a_60 => k_is); (case l_60 => k_is); (case c_60 => k_is); (case k_60 => k_is); (case b_60 => exact fun _ _ _ _ _ _ us hl => match us, hl with | [_, _, _, _], _ => rfl)
    have x_answer_question : Vb.Raw (L2.KOf KX) mg "answer_question" (Vb.top 92) ["house", "number", "told", "listed"] := by
      dsimp only [L2.KOf]
      refine' Vb.raw_mk KX G ?a_61 ?l_61 ?c_61 ?k_61 ?b_61
      (case a_61 => k_is); (case l_61 => k_is); (case c_61 => k_is); (case k_61 => k_is); (case b_61 => exact fun _ _ _ _ _ _ us hl => match us, hl with | [_, _, _, _], _ => rfl)
    have x_answer : Vb.Raw (L2.KOf KX) mg "answer" (Vb.top 93) ["house", "number", "told", "listed"] := by
      dsimp only [L2.KOf]
      refine' Vb.raw_mk KX G ?a_62 ?l_62 ?c_62 ?k_62 ?b_62
      (case a_62 => k_is); (case l_62 => k_is); (case c_62 => k_is); (case k_62 => k_is); (case b_62 => exact fun _ _ _ _ _ _ us hl => match us, hl with | [_, _, _, _], _ => rfl)
    have x_answers : Vb.Raw (L2.KOf KX) mg "answers" (Vb.top 94) ["calls"] := by
      dsimp only [L2.KOf]
      refine' Vb.raw_mk KX G ?a_63 ?l_63 ?c_63 ?k_63 ?b_63
      (case a_63 => k_is); (case l_63 => k_is); (case c_63 => k_is); (case k_63 => k_is); (case b_63 => exact fun _ _ _ _ _ _ us hl => match us, hl with | [_], _ => rfl)
    have x_OUT_OF_RANGE : ∃ t, mg "OUT_OF_RANGE" = some (.int (-1) t) := by
      refine' Vb.con_mk KX G ?a_64
      (case a_64 => k_is)
    have x_KEY_TAKEN : ∃ t, mg "KEY_TAKEN" = some (.int (-2) t) := by
      refine' Vb.con_mk KX G ?a_65
      (case a_65 => k_is)
    have x_TWICE : ∃ t, mg "TWICE" = some (.int (-3) t) := by
      refine' Vb.con_mk KX G ?a_66
      (case a_66 => k_is)
    have x_NOT_THERE : ∃ t, mg "NOT_THERE" = some (.int (-4) t) := by
      refine' Vb.con_mk KX G ?a_67
      (case a_67 => k_is)
    have x_TOO_MUCH : ∃ t, mg "TOO_MUCH" = some (.int (-5) t) := by
      refine' Vb.con_mk KX G ?a_68
      (case a_68 => k_is)
    have x_BELOW_LIMIT : ∃ t, mg "BELOW_LIMIT" = some (.int (-6) t) := by
      refine' Vb.con_mk KX G ?a_69
      (case a_69 => k_is)
    have x_NOT_TOUCHED : ∃ t, mg "NOT_TOUCHED" = some (.int (-7) t) := by
      refine' Vb.con_mk KX G ?a_70
      (case a_70 => k_is)
    have x_CANNOT_BE : ∃ t, mg "CANNOT_BE" = some (.int (-8) t) := by
      refine' Vb.con_mk KX G ?a_71
      (case a_71 => k_is)
    have x_FULL : ∃ t, mg "FULL" = some (.int (-9) t) := by
      refine' Vb.con_mk KX G ?a_72
      (case a_72 => k_is)
    have x_GREATEST_KEY : ∃ t, mg "GREATEST_KEY" = some (.int (1000000000) t) := by
      refine' Vb.con_mk KX G ?a_73
      (case a_73 => k_is)
    have x_GREATEST_AMOUNT : ∃ t, mg "GREATEST_AMOUNT" = some (.int (1000000000000) t) := by
      refine' Vb.con_mk KX G ?a_74
      (case a_74 => k_is)
    have x_GREATEST_AFTER_DEPOSIT : ∃ t, mg "GREATEST_AFTER_DEPOSIT" = some (.int (10000000000000) t) := by
      refine' Vb.con_mk KX G ?a_75
      (case a_75 => k_is)
    have x_GREATEST_NEED : ∃ t, mg "GREATEST_NEED" = some (.int (1000000000000000) t) := by
      refine' Vb.con_mk KX G ?a_76
      (case a_76 => k_is)
    have x_MOST_ACCOUNTS : ∃ t, mg "MOST_ACCOUNTS" = some (.int (8) t) := by
      refine' Vb.con_mk KX G ?a_77
      (case a_77 => k_is)
    have x_MOST_GROUPS : ∃ t, mg "MOST_GROUPS" = some (.int (24) t) := by
      refine' Vb.con_mk KX G ?a_78
      (case a_78 => k_is)
    have x_MOST_LEGS : ∃ t, mg "MOST_LEGS" = some (.int (8) t) := by
      refine' Vb.con_mk KX G ?a_79
      (case a_79 => k_is)
    have x_NUMBERS_OF_A_LEG : ∃ t, mg "NUMBERS_OF_A_LEG" = some (.int (4) t) := by
      refine' Vb.con_mk KX G ?a_80
      (case a_80 => k_is)
    have x_SHORT : ∃ t, mg "SHORT" = some (.int (1) t) := by
      refine' Vb.con_mk KX G ?a_81
      (case a_81 => k_is)
    have x_BEHIND : ∃ t, mg "BEHIND" = some (.int (2) t) := by
      refine' Vb.con_mk KX G ?a_82
      (case a_82 => k_is)
    have x_HELD : ∃ t, mg "HELD" = some (.int (3) t) := by
      refine' Vb.con_mk KX G ?a_83
      (case a_83 => k_is)
    have x_FIRST_QUESTION : ∃ t, mg "FIRST_QUESTION" = some (.int (10) t) := by
      refine' Vb.con_mk KX G ?a_84
      (case a_84 => k_is)
    have x_GOODS : ∃ a, mg "GOODS" = some (.ref a) ∧ ∀ H : L2.Hp, L2.SqT (L2.KOf KX) H a [.int 1, .int 2, .int 3, .int 4] := by
      dsimp only [L2.KOf]
      refine' Vb.tup_mk KX G ?a_85 ?l_85 ?h1_85 ?h2_85 ?h3_85 ?h4_85
      (case a_85 => k_is); (case l_85 => k_is); (case h1_85 => rfl); (case h2_85 => rfl); (case h3_85 => show _ ≤ sizeLine; decide); (case h4_85 => repeat (first | exact Paired.nil | refine Vb.vals_int ?_))
    have x_WHOLE_NUMBERS : ∃ a, mg "WHOLE_NUMBERS" = some (.ref a) ∧ ∀ H : L2.Hp, L2.SqT (L2.KOf KX) H a [.int 1, .int 3, .int 3, .int 3, .int 1, .int 1, .int 2, .int 3, .int 0, .int 0, .int 0, .int 0, .int 1, .int 2, .int 2, .int 2, .int 3, .int 3, .int 1, .int 1, .int 0, .int 1] := by
      dsimp only [L2.KOf]
      refine' Vb.tup_mk KX G ?a_86 ?l_86 ?h1_86 ?h2_86 ?h3_86 ?h4_86
      (case a_86 => k_is); (case l_86 => k_is); (case h1_86 => rfl); (case h2_86 => rfl); (case h3_86 => show _ ≤ sizeLine; decide); (case h4_86 => repeat (first | exact Paired.nil | refine Vb.vals_int ?_))
    have x_WITH_A_LIST : ∃ a, mg "WITH_A_LIST" = some (.ref a) ∧ ∀ H : L2.Hp, L2.SqT (L2.KOf KX) H a [.int 4, .int 9, .int 11] := by
      dsimp only [L2.KOf]
      refine' Vb.tup_mk KX G ?a_87 ?l_87 ?h1_87 ?h2_87 ?h3_87 ?h4_87
      (case a_87 => k_is); (case l_87 => k_is); (case h1_87 => rfl); (case h2_87 => rfl); (case h3_87 => show _ ≤ sizeLine; decide); (case h4_87 => repeat (first | exact Paired.nil | refine Vb.vals_int ?_))
    have x_b_len : mg "len" = none := by
      refine' PySem.W.mg_none_of KX G ?a_88
      (case a_88 => k_is)
    have x_b_sorted : mg "sorted" = none := by
      refine' PySem.W.mg_none_of KX G ?a_89
      (case a_89 => k_is)
    have x_b_set : mg "set" = none := by
      refine' PySem.W.mg_none_of KX G ?a_90
      (case a_90 => k_is)
    have x_b_list : mg "list" = none := by
      refine' PySem.W.mg_none_of KX G ?a_91
      (case a_91 => k_is)
    have x_b_dict : mg "dict" = none := by
      refine' PySem.W.mg_none_of KX G ?a_92
      (case a_92 => k_is)
    have x_b_any : mg "any" = none := by
      refine' PySem.W.mg_none_of KX G ?a_93
      (case a_93 => k_is)
    have x_b_all : mg "all" = none := by
      refine' PySem.W.mg_none_of KX G ?a_94
      (case a_94 => k_is)
    have x_b_sum : mg "sum" = none := by
      refine' PySem.W.mg_none_of KX G ?a_95
      (case a_95 => k_is)
    have x_b_min : mg "min" = none := by
      refine' PySem.W.mg_none_of KX G ?a_96
      (case a_96 => k_is)
    have x_b_max : mg "max" = none := by
      refine' PySem.W.mg_none_of KX G ?a_97
      (case a_97 => k_is)
    have x_b_range : mg "range" = none := by
      refine' PySem.W.mg_none_of KX G ?a_98
      (case a_98 => k_is)
    obtain ⟨cL, iL, kL, nL0, nL1, nL2, nL3⟩ := x_Leg
    obtain ⟨cG, iG, kG, nG0, nG1⟩ := x_Group
    obtain ⟨cA, iA, kA, nA0, nA1, nA2⟩ := x_Account
    obtain ⟨cH, iH, kH, nH0, nH1⟩ := x_House
    obtain ⟨aG, mgG, tG⟩ := x_GOODS
    obtain ⟨aW, mgW, tW⟩ := x_WHOLE_NUMBERS
    obtain ⟨aL, mgL, tL⟩ := x_WITH_A_LIST
    have T : Vb.Txt (L2.KOf KX) mg ⟨cL, cG, cA, cH, aG, aW, aL⟩ := ⟨kL, nL0, nL1, nL2, nL3, kG, nG0, nG1, kA, nA0, nA1, nA2, kH, nH0, nH1, iL, iG, iA, iH, x_is_key, x_is_good, x_is_amount, x_is_limit, x_is_place, x_list_refusal, x_groups_told, x_amounts_after, x_short_accounts, x_blocked_groups, x_less, x_less_blocked, x_free_groups, x_touching_groups, x_culprits, x_rounds, x_greatest_within, x_greatest_set, x_can_go, x_add_account, x_deposit, x_withdraw, x_set_limit, x_cut_legs, x_is_leg, x_are_legs, x_touched_accounts, x_add_group, x_take_out, x_cancel, x_hold, x_place, x_let_go, x_settle, x_go, x_first_ahead, x_reason, x_with_more, x_missing_amount, x_let_in, x_least_amounts, x_counted, x_ready, x_can, x_why, x_good_refusal, x_has, x_then, x_with_all, x_need, x_more, x_row, x_legs, x_waiting, x_moved, x_answer_change, x_answer_question, x_answer, x_answers, x_OUT_OF_RANGE, x_KEY_TAKEN, x_TWICE, x_NOT_THERE, x_TOO_MUCH, x_BELOW_LIMIT, x_NOT_TOUCHED, x_CANNOT_BE, x_FULL, x_GREATEST_KEY, x_GREATEST_AMOUNT, x_GREATEST_AFTER_DEPOSIT, x_GREATEST_NEED, x_MOST_ACCOUNTS, x_MOST_GROUPS, x_MOST_LEGS, x_NUMBERS_OF_A_LEG, x_SHORT, x_BEHIND, x_HELD, x_FIRST_QUESTION, mgG, tG, mgW, tW, mgL, tL, x_b_len, x_b_sorted, x_b_set, x_b_list, x_b_dict, x_b_any, x_b_all, x_b_sum, x_b_min, x_b_max, x_b_range⟩
    exact Vb.all_ans T hmg
  case S =>
    intro K H xs a hO hwi hask hx
    cases hx with
    | cons h1 h2 =>
      cases h2
      cases h1 with
      | lst hs ha =>
        have e := L2.ints_dw a.1 _ ha
        subst e
        have q : ((Codec.inLen 0 17000 a.1 && a.1.all (Codec.inInt (-1000000000000000000) 1000000000000000000)) && true) = true := hwi
        rw [Bool.and_eq_true, Bool.and_eq_true] at q
        exact ⟨_, a.1, rfl, hs, (Codec.inNat_iff.mp q.1.1).2, hask, fun H' p hp => .lst (L2.SqL.of hp) (L2.dw_ints _)⟩
