import PyProof.Rows.All
import Wide.All
import OpenK.AllK
import Wide.FinOn
import HandS.ForMost
import HandS.Codes
import HandS.IsInst
import HandS.Flow
import HandS.Style
import KE.GoesEnumKw
import KE.LtData
import KE.KDictCopyH
import HandS.DictComp
import HandS.Set
import HandS.SetFor
import HandS.Strs
import HandS.Conv
import HandS.ListItems
import PyProof.Rows.RuleB_pow
import HandS.Gcd
import HandS.CallLocal
import HandS.Wide
import HandS.SetKeys
import HandS.TupAny
import HandS.Walk
import HandS.Exc
import HandS.Head3
import HandS.HeadEnd
import HandS.HeadHook3
import HandS.Defaults
import HandS.MakeKwOnly
import HandS.Zip
import HandS.DictTup
import HandS.Zip0
import KE.KDictZip
import HandS.NoneIn
import PySem.Challenge.RW_nevertakenback_k28_whole_fields_on_ways
set_option Elab.async false
set_option linter.all false
set_option maxRecDepth 100000
set_option maxHeartbeats 0
/-! H0 -/
namespace G
open PySem PySem.Spec PyProof.Rows L2
def top (i : Nat) : Stmt := PySem.Challenge.pw_nevertakenback_k28_whole_fields_on_ways.main.body.getD i (.Pass ⟨0, 0, 0, 0⟩)
abbrev s_TakenError_init : Stmt := inClass (top 2) 0
abbrev s_fraction : Stmt := top 7
abbrev s_is_at_most : Stmt := top 8
abbrev s_plus : Stmt := top 9
abbrev s_minus : Stmt := top 10
abbrev s_times : Stmt := top 11
abbrev s_is_integer : Stmt := top 14
abbrev s_is_integer_from : Stmt := top 15
abbrev s_is_pair : Stmt := top 16
abbrev s_is_fraction : Stmt := top 17
abbrev s_is_time : Stmt := top 18
abbrev s_is_row : Stmt := top 19
abbrev s_is_stretch : Stmt := top 20
abbrev s_is_name : Stmt := top 21
abbrev s_read_integer : Stmt := top 22
abbrev s_read_fraction : Stmt := top 23
abbrev s_is_known : Stmt := top 25
abbrev s_check_field : Stmt := top 26
abbrev s_Draft_init : Stmt := inClass (top 31) 0
abbrev s_read_court : Stmt := top 32
abbrev s_take_line : Stmt := top 33
abbrev s_is_turn : Stmt := top 34
abbrev s_hangs_together : Stmt := top 35
abbrev s_take_court : Stmt := top 36
abbrev s_take_stretch : Stmt := top 37
abbrev s_take_place : Stmt := top 38
abbrev s_take_way : Stmt := top 39
abbrev s_take_player : Stmt := top 40
abbrev s_take_delay : Stmt := top 41
abbrev s_take_ball : Stmt := top 42
abbrev s_Court_init : Stmt := inClass (top 45) 0
abbrev s_Court_eq : Stmt := inClass (top 45) 1
abbrev s_all_delays : Stmt := top 46
abbrev s_all_distances : Stmt := top 47
abbrev s_field_on : Stmt := top 49
abbrev s_is_spot : Stmt := top 50
abbrev s_law_pot : Stmt := top 52
abbrev s_law_take : Stmt := top 53
abbrev s_law_of : Stmt := top 54
abbrev s_law_some : Stmt := top 55
abbrev s_law_frac_common : Stmt := top 56
abbrev s_law_frac : Stmt := top 57
abbrev s_law_frac_plus : Stmt := top 58
abbrev s_law_frac_less : Stmt := top 59
abbrev s_law_frac_times : Stmt := top 60
abbrev s_law_frac_is : Stmt := top 61
abbrev s_law_frac_same : Stmt := top 62
abbrev s_law_frac_text : Stmt := top 63
abbrev s_law_court_text : Stmt := top 64
abbrev s_law_court_drawn : Stmt := top 65
abbrev s_law_court_stretch_drawn : Stmt := top 66
abbrev s_law_mine_spot : Stmt := top 67
abbrev s_law_due : Stmt := top 68
abbrev s_law_right : Stmt := top 69
abbrev s_law : Stmt := top 70
end G

/-! G1 -/
namespace G
open PySem PySem.Spec PyProof.Rows L2

/-- the items of xs[lo:hi:c] -/
def pickV (xs : List V) (lo hi : Option Int) (c : Int) : List V :=
  (sliceRange (sliceBounds lo hi (some c) xs.length).1 (sliceBounds lo hi (some c) xs.length).2.1 (sliceBounds lo hi (some c) xs.length).2.2).filterMap (xs[·]?)
theorem vals_places : ∀ {xs : List V} {us : List Value}, Vals xs us → ∀ js : List Nat, Vals (js.filterMap (xs[·]?)) (js.filterMap (us[·]?))
  | _, _, _, [] => .nil
  | xs, us, r, j :: js => by
    simp only [List.filterMap_cons]
    cases e : xs[j]? with
    | none =>
      rw [r.none_of e]
      exact vals_places r js
    | some x =>
      obtain ⟨u, e2, r2⟩ := r.get e
      rw [e2]
      exact .cons r2 (vals_places r js)
theorem vals_pick {xs : List V} {us : List Value} (r : Vals xs us) (lo hi : Option Int) (c : Int) : Vals (pickV xs lo hi c) (slicePick us.toArray lo hi (some c)).toList := by
  unfold pickV slicePick
  rw [List.size_toArray, ← r.length]
  have h := vals_places r (sliceRange (sliceBounds lo hi (some c) xs.length).1 (sliceBounds lo hi (some c) xs.length).2.1 (sliceBounds lo hi (some c) xs.length).2.2)
  simpa using h

section
variable {X : Cx} {e se : Expr} {te : TE} {lo hi : Option Expr} {tl th : TO} {pos p2 : Pos}
def tSlC (K : PySem.W.Frag) (c : Int) (te : TE) (tl th : TO) : TE := fun σ H Q => te σ H fun x H1 => tl σ H1 fun l H2 => th σ H2 fun u H3 =>
  ∃ a xs, x = .ref a ∧ SqL K H3 a xs ∧ ∀ p, H3 p = none → Q (.ref p) (upd H3 p (.lst (pickV xs l u c)))
/-- xs[lo:hi:c], a list, c written -/
theorem pe_sliceC {c : Int} {j : Nat} {p3 : Pos} (hc : c ≠ 0) (he : PE X e te) (hl : PO X lo tl) (hu : PO X hi th) : PE X (.Subscript e (.Slice lo hi (some (.Constant (.int c) j p3)) p2) pos) (tSlC X.K c te tl th) := by
  refine ⟨fun pins s σ H Q I h => ?_⟩
  refine Subscript_ (thn (he.run pins s σ H _ I h) fun v s1 ⟨x, H1, I1, r1, q1⟩ => ?_)
  refine wpAny_Slice (thn (hl.run pins s1 σ H1 _ I1 q1) fun vl s2 ⟨l, H2, I2, pl, q2⟩ => thn (hu.run pins s2 σ H2 _ I2 q2) fun vu s3 ⟨u, H3, I3, pu, q3⟩ => ?_)
  rw [evalPart_some]
  refine thn ((pe_int (X := X) (i := c) (j := j) (pos := p3)).run pins s3 σ H3 (fun v H4 => v = .int c ∧ H4 = H3) I3 ⟨rfl, rfl⟩) fun vc s4 ⟨z, H4, I4, rc, qc⟩ => ?_
  obtain ⟨rfl, rfl⟩ := qc
  obtain ⟨t, rfl⟩ := rc
  obtain ⟨a, xs, rfl, hx, q⟩ := q3
  cases r1
  have I5 : L2.Inv X pins σ H4 { s4 with heap := s4.heap.push { cls := .type "slice", data := .fields #[vl, vu, .int c t] } } := I4.kept (t' := s4.toks) fun b ob q => Heap.get?_push_of_some _ q
  obtain ⟨its, r, ht, hz⟩ := I5.list hx
  have hlen := r.length
  show wpAny (model X.prog X.w) X.A (subscriptTail e (.Slice lo hi (some (.Constant (.int c) j p3)) p2) (.ref a) (.ref s4.heap.objs.size)) (EP X pins σ Q) X.xe { s4 with heap := s4.heap.push { cls := .type "slice", data := .fields #[vl, vu, .int c t] } }
  refine tail_any (ops := [.ref a, .ref s4.heap.objs.size]) ht.isList.typeIs slot_list_getitem.lookup ?_ (by with_unfolding_all rfl)
  refine wpAny_getItem_list_slice ht.isList (Heap.IsSliceOf.new ..) pl pu (.int c t) (by intro z; exact hc (Option.some.inj z)) ?_ (by rw [List.size_toArray]; omega)
  refine ⟨.ref _, _, I5.laid (t' := s4.toks) (o := .lst (pickV xs l u c)) (fun b ob q => Heap.get?_push_of_some _ q) (Nat.le_refl _) ?_, rfl, q _ (I5.hok.fresh (Nat.le_refl _))⟩
  have rp := vals_pick r l u c
  refine ⟨?_, (slicePick its.toArray l u (some c)).toList, 0, rp, ?_⟩
  · have h1 := rp.length
    have h2 := slicePick_size_le its.toArray l u (some c)
    simp only [Array.length_toList, List.size_toArray] at h1 h2
    omega
  · rw [Array.toArray_toList]
    exact Heap.get?_push_size _ rfl
end
end G

/-! G2 -/
namespace G
open PySem PySem.Spec PyProof.Rows L2


theorem enum_end_from {prog : Program} {w : World} {A : Around} {E : Value → Shared → Prop} {s : Shared} {e it l : Addr} {i : Nat} {c : Int} {xs : Array Value} {old : Value} {Q : Option Value → Shared → Prop} (hhd : A.handled = none)
    (hen : IsEnum s.heap e it c old) (hit : s.heap.IsListIter it l i) (hl : s.heap.IsList l xs) (hx : xs[i]? = none)
    (q : ∀ h', Heap.ExtBut it s.heap h' → Q none { s with heap := h' }) : wpAny (model prog w) A (pyNext (.ref e)) Q E s := by
  have hT : s.TypeIs (.ref e) "enumerate" := ⟨_, hen, rfl⟩
  unfold pyNext
  refine wpAny_bind (wpAny_attempt (wpAny_callSpecial?_slot (name := Str.ofString "__next__") hT
    F.slot_enumerate_next (wpAny_call_entry F.slot_enumerate_next hT F.entry_enumerate_next ?_
      (F.args_enumerate_next_1 _))))
  show wpAny _ _ (field (.ref e) 2 >>= _) _ _ _
  refine wpAny_bind (wpAny_field hen rfl (x := .ref it) rfl ?_)
  refine wpAny_bind (wpAny_nextOf_list_end hhd hit hl hx fun h2 z he2 hz => ?_)
  obtain ⟨ob, hob, hcl⟩ := hz
  refine wpAny_bind (wpAny_isInstance (T := "StopIteration") (b := true) ⟨ob, hob, hcl⟩ isSubtype_stop ?_)
  exact wpAny_pure (q _ he2)
/-- enumerate(xs, start=k) over the list at a, as it stands at each turn -/
def Iek (K : PySem.W.Frag) (k : Int) (a : Addr) : It :=
  ⟨fun i H => ∃ (ys : List V) (y : V), SqL K H a ys ∧ ys[i]? = some y, fun i H v H' => ∃ T y, v = .ref T ∧ H T = none ∧ H' = upd H T (.tup [.int (k + (i : Nat)), y]) ∧ ∀ ys, SqL K H a ys → ys[i]? = some y, fun i H => ∃ ys : List V, SqL K H a ys ∧ ys.length ≤ i⟩
theorem turn_ek {P : Program} {w : World} {K : PySem.W.Frag} {elts : List Expr} {kk : Nat} {tpos : Pos} (k : Int) (a e it : Addr) :
    Turn P w K (.Tuple elts kk tpos) (Iek K k a) [e, it] e (fun i h => (∃ old, IsEnum h e it (k + ((i : Nat) : Int)) old) ∧ h.IsListIter it a i ∧ e ≠ it ∧ e ≠ a ∧ it ≠ a) where
  mem := by simp
  obj := fun i h sth b hb => by
    obtain ⟨⟨old, hen⟩, ⟨ob, hob, _, hdat⟩, _⟩ := sth
    have eb : b = e ∨ b = it := by simpa using hb
    rcases eb with rfl | rfl
    · exact ⟨_, hen, fun v q => nomatch q⟩
    · exact ⟨ob, hob, fun v q => by rw [hdat] at q; cases q⟩
  keep := fun i h h' sth kp => by
    obtain ⟨⟨old, hen⟩, hi, hx⟩ := sth
    exact ⟨⟨old, kp e (by simp) _ hen⟩, hi.at fun o q => kp it (by simp) o q, hx⟩
  item := by
    intro X hP hw hK hc i pins s σ H E I hf sth hg
    subst hP hw hK
    obtain ⟨⟨old, hen⟩, hit, hne, hea, hia⟩ := sth
    obtain ⟨ys, y, hq, hy⟩ := hg
    obtain ⟨its, rv, pl, _⟩ := I.list hq
    obtain ⟨u, hu, ru⟩ := rv.get hy
    have le_ : e < s.heap.objs.size := Heap.lt_size hen
    have li_ : it < s.heap.objs.size := by obtain ⟨_, q, _⟩ := hit; exact Heap.lt_size q
    have hhd : X.A.in1.handled = none := I.ok.hd hc
    have D := Draws.list (prog := X.prog) (w := X.w) (A := X.A.in1) hhd it a (Ne.symm hia) its.toArray
    have hlt : i < its.toArray.size := by
      rw [List.size_toArray]
      exact (List.getElem?_eq_some_iff.mp hu).1
    refine wpAny_pyNext_enum_itemC D hen ⟨hit, pl.isList⟩ hlt hne (by simp [hne, hea]) fun x h' tk hx ho hst' hT hsz hk => ?_
    have ex : x = u := by
      have q : its[i]? = some x := by simpa using hx
      rw [hu] at q
      exact (Option.some.inj q).symm
    subst ex
    refine ⟨_, rfl, wpAny_letOwnedTupleGo_enum (s := { s with heap := h', toks := tk + 1 }) ho fun h2 he' sb => ?_⟩
    have hT2 : h2.get? s.heap.objs.size = some { cls := .type "tuple", data := .seq #[.int (k + (i : Nat)) tk, x] } := (sb.2 _ (Nat.ne_of_gt le_)).trans hT
    have new : ObjOk X.prog X.w (upd H s.heap.objs.size (.tup [.int (k + (i : Nat)), y])) h2 s.heap.objs.size (.tup [.int (k + (i : Nat)), y]) :=
      ⟨by show 2 ≤ sizeLine; decide, [.int (k + (i : Nat)) tk, x], .cons ⟨_, rfl⟩ (.cons ru .nil), ⟨_, hT2, rfl, _, rfl⟩⟩
    have I1 : L2.Inv X pins σ (upd H s.heap.objs.size (.tup [.int (k + (i : Nat)), y])) { s with heap := h2, toks := tk + 1 } := by
      refine I.turnedNew (ch := [e, it]) (fun b ob hb q => ?_) hf (Nat.le_refl _) new
      have b1 : b ≠ e := fun z => hb (by simp [z])
      have b2 : b ≠ it := fun z => hb (by simp [z])
      exact (sb.2 b b1).trans (hk b ob b1 b2 q)
    have hlist := hst'.1
    refine ⟨.ref s.heap.objs.size, _, I1, rfl, ⟨_, y, rfl, I.hok.fresh (Nat.le_refl _), rfl, fun zs hz => by rw [I.list_inj hz hq]; exact hy⟩, ⟨⟨x, ?_⟩, hlist.at fun o q => (sb.2 it (Ne.symm hne)).trans q, hne, hea, hia⟩, fun b hb => ?_⟩
    · have e1 : k + ((i + 1 : Nat) : Int) = k + (i : Int) + 1 := by omega
      rw [e1]
      exact he'
    · have lb : b < s.heap.objs.size := by
        have eb : b = e ∨ b = it := by simpa using hb
        rcases eb with rfl | rfl
        · exact le_
        · exact li_
      rw [upd_ne (Nat.ne_of_lt lb)]
      exact (hf b hb).1
  done := by
    intro X hP hw hK hc i pins s σ H E I hf sth hg
    subst hP hw hK
    obtain ⟨⟨old, hen⟩, hit, hne, hea, hia⟩ := sth
    obtain ⟨ys, hq, hy⟩ := hg
    obtain ⟨its, rv, pl, _⟩ := I.list hq
    obtain ⟨f0, f1, f2, f3, f4, f5⟩ := hf it (by simp)
    have hl := rv.length
    exact enum_end_from (I.ok.hd hc) hen hit pl.isList (by simp; omega) fun h2 eb => ⟨rfl, I.turned (t' := s.toks) (fun b ob hb q => eb b ob hb q) f0 f1 f3 f4 f5⟩
  self := fun A i s Q E sth h => let ⟨⟨_, hen⟩, _⟩ := sth; wpAny_pyIter_enum hen h
theorem callWith_typeK {M : Model} {A : Around} {E : Value → Shared → Prop} {s : Shared} {env : Env} {pos : Pos} {T : String} {e : Expr} {rest : List Expr} {kws : List Keyword} {Q : Value → Shared → Prop}
    (h : wpAny M A (spliced (backTo pos (starEach (e :: rest) env))) (fun vs s1 => wpAny M A (evalAll ((backToKw pos (keywordEach kws env)).map (·.2)))
      (fun zs s2 => wpAny M A (call (.type T) vs (((backToKw pos (keywordEach kws env)).filterMap (·.1)).zip zs)) Q E s2) E s1) E s)
    (he : backTo pos (starEach (e :: rest) env) = (false, eval e env) :: backTo pos (starEach rest env) := by rfl)
    (hp : (backTo pos (starEach (e :: rest) env)).any (·.1) = false := by rfl)
    (ha : (backToKw pos (keywordEach kws env)).all (·.1.isSome) = true := by rfl)
    (hk : (backToKw pos (keywordEach kws env)).any (·.1.isNone) = false := by rfl) :
    wpAny M A (callWith pos (.type T) [] (backTo pos (starEach (e :: rest) env)) (backToKw pos (keywordEach kws env))) Q E s := by
  unfold callWith
  rw [he] at h hp ⊢
  refine wpAny_bind (wpAny_holding (wpAny_mono (evalArgs_kwB (Q := fun a s1 => wpAny M A (call (.type T) ([] ++ a.pos) a.kw) Q E s1) ha h) (fun a s1 h1 => wpAny_bind (wpAny_standAt ?_)) fun _ _ x => x))
  simp only [hp, hk, Bool.or_false]
  refine wpAny_bind (wpAny_pure ?_)
  exact wpAny_bind (wpAny_mono h1 (fun r s2 hr => wpAny_bind (wpAny_holding (wpAny_point (wpAny_pure hr)))) fun _ _ x => x)
def iEk (K : PySem.W.Frag) (k : Int) (ta : TA) : TI := fun σ H R => ta σ H fun vs H1 => ∃ a ys, vs = [.ref a] ∧ SqL K H1 a ys ∧ R (Iek K k a) H1
/-- for i, x in enumerate(xs, start=k) -/
theorem pi_ek {X : Cx} {e : Expr} {ta : TA} {p pos tpos kp cp : Pos} {elts : List Expr} {kk j : Nat} {k : Int} (hk0 : -(2 ^ 63) ≤ k) (hk1 : k < 2 ^ 63) (hg : Gl X "enumerate") (hm : X.mg "enumerate" = none) (ha : PA X [e] ta)
    (hs : backTo pos (starEach [e] X.env) = [(false, eval e X.env)] := by rfl) :
    PI X (.Tuple elts kk tpos) (.Call (.Name "enumerate" p) [e] [⟨some "start", .Constant (.int k) j cp, kp⟩] pos) (iEk X.K k ta) := by
  refine ⟨fun pins s σ H R I h => ?_⟩
  refine wpAny_Call_Name_kw (ld_blt I hg hm boot_enumerate ?_)
  have hkw : PK X [⟨some "start", .Constant (.int k) j cp, kp⟩] (tCons (tC (.int k)) tNil) := pk_cons pe_int pk_nil
  refine callWith_typeK (thn (ha.run pos pins s σ H _ I h) fun us s1 ⟨vs, H1, I1, r1, q1⟩ => ?_) hs (by rw [hs]; rfl) rfl rfl
  refine thn (hkw.run pos pins s1 σ H1 (fun zs H2 => zs = [.int k] ∧ H2 = H1) I1 ⟨rfl, rfl⟩) fun ws s2 ⟨zs, H2, I2, r2, q2⟩ => ?_
  obtain ⟨rfl, rfl⟩ := q2
  obtain ⟨a, ys, ex, hq, q⟩ := q1
  subst ex
  cases r1 with
  | cons r rr =>
  cases rr
  cases r
  cases r2 with
  | cons r3 r4 =>
  cases r4
  obtain ⟨t, rfl⟩ := r3
  obtain ⟨its, rv, pl, _⟩ := I2.list hq
  refine enum_begins_start (begins_list a its.toArray) pl.isList hk0 hk1 fun h' hen hit hsz hk => wpAny_pyIter_enum hen ?_
  have I3 : L2.Inv X pins σ H2 { s2 with heap := h' } := I2.kept (t' := s2.toks) hk
  have la : a < s2.heap.objs.size := by obtain ⟨_, q', _⟩ := pl.isList; exact Heap.lt_size q'
  refine ⟨s2.heap.objs.size + 1, [s2.heap.objs.size + 1, s2.heap.objs.size], _, _, H2, rfl, I3, turn_ek k a (s2.heap.objs.size + 1) s2.heap.objs.size, ⟨⟨.none, ?_⟩, ⟨_, hit, rfl, rfl⟩, Nat.succ_ne_self _, Nat.ne_of_gt (Nat.lt_succ_of_lt la), Nat.ne_of_gt la⟩, fun b hb => ?_, q⟩
  · have e0 : k + ((0 : Nat) : Int) = k := by omega
    rw [e0]
    exact hen
  · have hle : s2.heap.objs.size ≤ b := by
      have eb : b = s2.heap.objs.size + 1 ∨ b = s2.heap.objs.size := by simpa using hb
      rcases eb with rfl | rfl
      · exact Nat.le_add_right _ _
      · exact Nat.le_refl _
    exact I2.fpOk hle (I2.hok.fresh hle)

end G

/-! G3 -/
namespace G
open PySem PySem.Spec PyProof.Rows L2

/-- (i, x) < (j, y) -/
def lt2 (i : Int) (x : Str) (j : Int) (y : Str) : Bool := if i = j then (if x = y then false else decide (x.cps.toList < y.cps.toList)) else decide (i < j)
theorem lt2_data (i : Int) (x : Str) (j : Int) (y : Str) : PySem.W.dataLt (.tuple [.int i, .str x]) (.tuple [.int j, .str y]) = lt2 i x j y := by
  rw [PySem.W.dataLt_tuple]
  unfold lt2
  by_cases e : i = j
  · subst e
    rw [PySem.W.dataLt_all_yes (by simp [PySem.W.alike]) (by simp [PyData.eqv]), if_pos rfl]
    by_cases e2 : x = y
    · subst e2
      rw [PySem.W.dataLt_all_yes (by simp [PySem.W.alike]) (by simp [PyData.eqv]), if_pos rfl]
      rfl
    · rw [PySem.W.dataLt_all_no (by simp [PySem.W.alike]) (by simp [PyData.eqv, e2]), if_neg e2, PySem.W.dataLt_str]
  · rw [PySem.W.dataLt_all_no (by simp [PySem.W.alike]) (by simp [PyData.eqv, e]), if_neg e, PySem.W.dataLt_int]
def rLtM (K : PySem.W.Frag) : R2 := fun x y H Q => ∃ a b i z j t, x = .ref a ∧ y = .ref b ∧ SqT K H a [.int i, .str z] ∧ SqT K H b [.int j, .str t] ∧ Q (.bl (lt2 i z j t)) H
/-- t < u, pairs of an int and a text -/
theorem op_ltM {X : Cx} (hu : X.A.units + 64 < cLine) : OpR X (compareOp .Lt) (rLtM X.K) := by
  intro pins s σ H x y v u Q I rx ry h
  obtain ⟨a, b, i, z, j, t, rfl, rfl, ha, hb, q⟩ := h
  cases rx
  cases ry
  obtain ⟨its, r1, p1, _⟩ := I.tuple ha
  obtain ⟨its2, r2, p2, _⟩ := I.tuple hb
  obtain ⟨o1, h1, c1, n1, d1⟩ := p1
  obtain ⟨o2, h2, c2, n2, d2⟩ := p2
  cases r1 with
  | cons x1 r1 =>
  cases r1 with
  | cons x2 r1 =>
  cases r1
  cases r2 with
  | cons y1 r2 =>
  cases r2 with
  | cons y2 r2 =>
  cases r2
  obtain ⟨k1, rfl⟩ := x1
  obtain ⟨k2, rfl⟩ := x2
  obtain ⟨k3, rfl⟩ := y1
  obtain ⟨k4, rfl⟩ := y2
  have R1 : Reads s.heap (.ref a) (.tuple [.int i, .str z]) ([] ++ ([] ++ [])) := Reads.tuple h1 c1 d1 (.cons (.int ..) (.cons (.str ..) .nil))
  have R2 : Reads s.heap (.ref b) (.tuple [.int j, .str t]) ([] ++ ([] ++ [])) := Reads.tuple h2 c2 d2 (.cons (.int ..) (.cons (.str ..) .nil))
  have L := PySem.W.rcLt_alike _ _ X.A s _ _ _ _ R1 R2 (by simp [PySem.W.alike, PySem.W.alikeAll]) (by intro q; cases q) (Nat.lt_of_le_of_lt (Nat.add_le_add_left (by simp [PyData.depth, PyData.depthAll]) _) hu)
  rw [lt2_data] at L
  exact L X.prog X.w X.xe _ ⟨.bl (lt2 i z j t), H, I, rfl, q⟩
end G

/-! G4 -/
namespace G
open PySem PySem.Spec PyProof.Rows L2

/-- xs[i] read for xs[i] op= e, a list, 0 ≤ i -/
def rGetL (K : PySem.W.Frag) : V → V → Hp → VK → Prop := fun x y H Q => ∃ p xs j v, x = .ref p ∧ y = .int ((j : Nat) : Int) ∧ SqL K H p xs ∧ xs[j]? = some v ∧ Q v H
theorem pget_list {X : Cx} : PGet X (rGetL X.K) := by
  intro pins s σ H o i ov iv Q I ro ri h
  obtain ⟨p, xs, j, v, rfl, rfl, hq, he, q⟩ := h
  cases ro
  obtain ⟨t, rfl⟩ := ri
  obtain ⟨its, r, pl, hz⟩ := I.list hq
  obtain ⟨u, hu, ru⟩ := r.get he
  have hl := r.length
  have hn := line63
  have hj : j < xs.length := (List.getElem?_eq_some_iff.mp he).1
  exact wpAny_getItem_list pl.isList (by omega) (by omega) (by simpa using hu) ⟨v, H, I, ru, q⟩
end G

/-! G5 -/
namespace G
open PySem PySem.Spec PyProof.Rows L2

/-- all of more put in, one behind another -/
def mergeT (kvs more : List (List L2.Key × V)) : List (List L2.Key × V) := more.foldl (fun acc p => putK acc p.1 p.2) kvs
theorem kt_merge {H : Hp} : ∀ {more : List (List L2.Key × V)} {ys : List (List L2.Key × Addr × Value)} {kvs : List (List L2.Key × V)} {xs : List (List L2.Key × Addr × Value)}, KT H more ys → KT H kvs xs → KT H (mergeT kvs more) (storedAllH xs ys)
  | _, _, _, _, .nil, r => r
  | p :: more, q :: ys, kvs, xs, .cons h t, r => by
    obtain ⟨h1, h2, h3⟩ := h
    show KT H (mergeT (putK kvs p.1 p.2) more) (storedAllH (storedH xs q.1 q.2.1 q.2.2) ys)
    rw [← h1]
    exact kt_merge t (r.put p.1 h2 h3)
theorem length_mergeT : ∀ (more kvs : List (List L2.Key × V)), (mergeT kvs more).length ≤ kvs.length + more.length
  | [], _ => Nat.le_refl _
  | p :: more, kvs => by
    show (mergeT (putK kvs p.1 p.2) more).length ≤ _
    have h1 := length_mergeT more (putK kvs p.1 p.2)
    have h2 := length_putK kvs p.1 p.2
    rw [List.length_cons]
    omega
def rUpdT : V → List V → Hp → VK → Prop := fun x xs H Q => ∃ (a b : Addr) (kvs ls : List (List L2.Key × V)), x = .ref a ∧ xs = [.ref b] ∧ a ≠ b ∧ H a = some (.dT kvs) ∧ H b = some (.dT ls) ∧ kvs ≠ [] ∧
  kvs.length + ls.length ≤ sizeLine ∧ Q .non (upd H a (.dT (mergeT kvs ls)))
/-- d.update(e), keys that are tuples, d not empty -/
theorem mt_updT {X : Cx} (hu : X.A.units + 1 < cLine) : MtR X "dict.update" rUpdT := by
  intro pins s σ H x xs v us Q I rx rxs h
  obtain ⟨a, b, kvs, ls, rfl, rfl, hab, ha, hb, hne, hz, q⟩ := h
  cases rx
  obtain ⟨u, rfl, ru⟩ := vals1 rxs
  cases ru
  obtain ⟨_, hd, xa, ra, da⟩ := dt_of I.hok ha
  obtain ⟨_, he, xb, rb, db⟩ := dt_of I.hok hb
  have la : kvs.length = xa.length := Paired.length ra
  have lb : ls.length = xb.length := Paired.length rb
  refine call_update_dictH (tupleKind_room_in1 hu) hab he da db (.inl fun z => hne ?_) (by omega) fun h' da' _ hs => ?_
  · rw [z, List.length_nil] at la
    exact List.length_eq_zero_iff.mp la
  obtain ⟨o, es, ep, ho, h2, h3, h4, _, h5⟩ := da'
  have hl := length_mergeT ls kvs
  refine ⟨.non, _, d_write (t' := s.toks) (ob := .dT (mergeT kvs ls)) I (by rw [ha]; exact True.intro) hs ⟨o, ho⟩ ⟨by omega, hd, _, (kt_merge rb ra).keeps fun c ys ec => ?_, o, es, ep, ho, h2, h3, h4, h5⟩, rfl, q⟩
  rw [upd_ne (ne_of ec ha (fun z => nomatch z))]
  exact ec
end G

/-! G6 -/
namespace G
open PySem PySem.Spec PyProof.Rows L2

/-- d[k] = v by a comprehension, k a tuple -/
theorem d_dictSetT {X : Cx} {pins : List (Addr × Obj)} {σ : L2.St} {H : Hp} {s : Shared} {E : Value → Shared → Prop} {D b : Addr} {kvs : List (List L2.Key × V)} {k : List L2.Key} {v : V} {u r : Value} {Q : Unit → Shared → Prop} (hu : X.A.units + 1 < cLine)
    (I : L2.Inv X pins σ H s) (hD : H D = some (.dT kvs)) (hb : H b = some (.tup (k.map kV))) (hz : kvs.length < sizeLine) (ry : RelV (.ref b) u) (rv : RelV v r)
    (h : ∀ s', L2.Inv X pins σ (upd H D (.dT (putK kvs k v))) s' → Q () s') : wpAny (model X.prog X.w) X.A (dictSet D u r) Q E s := by
  cases (show u = Value.ref b from ry)
  obtain ⟨z, hd, xs, rel, dd⟩ := dt_of I.hok hD
  have hxs : xs.length ≤ sizeLine := by rw [← Paired.length rel]; exact z
  have hl : (putK kvs k v).length ≤ sizeLine := by have := length_putK kvs k v; omega
  refine wpAny_dictSet_heap (hsz := hxs) (show X.A.units < cLine by omega) (key_of I.hok hb) dd fun h' dd' hs => h _ ?_
  obtain ⟨q, es, ep, hq, h2, h3, h4, _, h5⟩ := dd'
  refine d_write (ob := .dT (putK kvs k v)) I (by rw [hD]; exact True.intro) hs ⟨q, hq⟩ ⟨hl, hd, _, (rel.put k hb rv).keeps fun c ys ec => ?_, q, es, ep, hq, h2, h3, h4, h5⟩
  rw [upd_ne (ne_of ec hD (fun z => nomatch z))]
  exact ec
section
variable {X : Cx}
/-- {k: v for target in iter if ..}, keys tuples: D the new dict -/
def tDcT (wi : TI) (g : TG) (tt : TT) (tk tv : TE) (vs : List Nat) : TE := fun σ H Q => wi σ H fun J H1 => ∀ D, H1 D = none → ∃ W : Nat → Nat → Hp → Prop, (∃ m, W 0 m (upd H1 D (.dT []))) ∧ ∀ i m H, W i m H →
  (J.stop i H ∧ Q (.ref D) H) ∨ (J.go i H ∧ ∃ Nx : Hp → Prop, (∀ H', Nx H' → ∃ m', m' < m ∧ W (i + 1) m' H') ∧ ∀ x H', J.yld i H x H' → g x (wipe σ vs) H' fun σ2 H2 => wipe σ2 vs = wipe σ vs ∧ tt σ2 H2 fun bb H3 =>
    if bb = true then tk σ2 H3 fun y H4 => tv σ2 H4 fun z H5 => ∃ kvs k b, y = .ref b ∧ H5 D = some (.dT kvs) ∧ H5 b = some (.tup (k.map kV)) ∧ kvs.length < sizeLine ∧ Nx (upd H5 D (.dT (putK kvs k z))) else Nx H3)
theorem dcT_core {pins : List (Addr × Obj)} {s : Shared} {σ : L2.St} {H : Hp} {Q : VK} {kx vx tg iter : Expr} {ifs : List Expr} {scope : Scope} {own : List (Str × Nat)} {pos pos' : Pos} {wi : TI} {g : TG} {tt : TT} {tk tv : TE} {use : Option (Value → Sem Unit)} {Qf : Value → Shared → Prop}
    (hu : X.A.units + 1 < cLine) (hc : X.calm = true) (hN : X.N.Nodup) (I : L2.Inv X pins σ H s) (hi : PI X tg iter wi) (ok : BlkOk X.N X.env.scope scope own)
    (hg : ∀ (s : Shared) (H : Hp) (C : Addr) (cl : List (Str × Addr)) (fp : List Addr), PG (X.blk s H scope (compEnvC scope cl C X.env) fp) tg g) (ht : ∀ (s : Shared) (H : Hp) (C : Addr) (cl : List (Str × Addr)) (fp : List Addr), PTs (X.blk s H scope (compEnvC scope cl C X.env) fp) ifs tt)
    (hk : ∀ (s : Shared) (H : Hp) (C : Addr) (cl : List (Str × Addr)) (fp : List Addr), PE (X.blk s H scope (compEnvC scope cl C X.env) fp) kx tk)
    (he : ∀ (s : Shared) (H : Hp) (C : Addr) (cl : List (Str × Addr)) (fp : List Addr), PE (X.blk s H scope (compEnvC scope cl C X.env) fp) vx tv) (hs : ∀ x, foldedSetIterable iter X.env x = pure x)
    (h : tDcT wi g tt tk tv (own.map (·.2)) σ H Q)
    (hback : ∀ D C s' m H', L2.Inv X pins σ H' s' → Q (.ref D) H' → s'.heap.Ns C m → FpOk X pins H' C → compPost (model X.prog X.w) X.A X.xe use Qf (.ref D) C (.ok .next) s') :
    wpAny (model X.prog X.w) X.A (comprehension (.DictComp kx vx [⟨tg, iter, ifs, 0⟩] scope pos) scope X.env pos' newDict false (eval iter X.env) use) Qf X.xe s := by
  have hcl : ∀ y ∈ scope.names, y.2 = .free → ∃ c, X.env.cells.lookup y.1 = some c := fun y hy e => by
    rcases ok.free y hy e with k | k
    · exact I.ok.has _ (.inl k)
    · exact I.ok.has _ (.inr k)
  refine wpAny_comprehension_free (use := use) rfl hs (closure_ok hcl) ok.kind (fun y hy e => by rw [ok.uniq y hy, e])
    (thn (hi.run pins s σ H _ I h) fun xv s1 hx => thn hx fun itv s2 h2 => ?_)
  obtain ⟨it, fp, tn, J, H2, e, J2, T, tn2, f2, q⟩ := h2
  subst e
  refine wpAny_newObj_type (newEnv_comp ?_)
  generalize hD : s2.heap.objs.size = D
  have Dnew : H2 D = none := J2.hok.fresh (Nat.le_of_eq hD)
  obtain ⟨W, ⟨M0, W0⟩, step1⟩ := q D Dnew
  -- the new list
  generalize es3 : ({ s2 with heap := s2.heap.push { cls := .type "dict", data := .dict #[] } } : Shared) = s3
  have J3 : L2.Inv X pins σ (upd H2 D (.dT [])) s3 := by
    rw [← es3]
    refine J2.laid (t' := s2.toks) (fun b o e => Heap.get?_push_of_some _ e) (Nat.le_of_eq hD) ?_
    rw [← hD]
    exact dt_empty s2.heap J2.big
  have h3 : s3.heap = s2.heap.push { cls := .type "dict", data := .dict #[] } := by rw [← es3]
  have below : ∀ b ∈ fp, b < s2.heap.objs.size := fun b hb => by
    obtain ⟨o, e, _⟩ := T.obj _ _ tn2 b hb
    exact Heap.lt_size e
  have f3 : ∀ b ∈ fp, FpOk X pins (upd H2 D (.dT [])) b ∧ b < s3.heap.objs.size := fun b hb => by
    have hlt := below b hb
    refine ⟨⟨?_, (f2 b hb).2⟩, by rw [h3, Heap.size_push]; exact Nat.lt_succ_of_lt hlt⟩
    rw [upd_ne (by rw [← hD]; exact Nat.ne_of_lt hlt)]
    exact (f2 b hb).1
  have tn3 : tn 0 s3.heap := T.keep _ _ _ tn2 fun b _ o e => by rw [h3]; exact Heap.get?_push_of_some _ e
  have J4 := block_start J3 ok hN f3
  have pg := hg s3 (upd H2 D (.dT [])) s3.heap.objs.size (cellsFrom (s3.heap.objs.size + 1) scope.names (cloFrom X.env.cells scope.names [])) fp
  have pt := ht s3 (upd H2 D (.dT [])) s3.heap.objs.size (cellsFrom (s3.heap.objs.size + 1) scope.names (cloFrom X.env.cells scope.names [])) fp
  have pk := hk s3 (upd H2 D (.dT [])) s3.heap.objs.size (cellsFrom (s3.heap.objs.size + 1) scope.names (cloFrom X.env.cells scope.names [])) fp
  have pe := he s3 (upd H2 D (.dT [])) s3.heap.objs.size (cellsFrom (s3.heap.objs.size + 1) scope.names (cloFrom X.env.cells scope.names [])) fp
  show codeAny _ _ (.compStart (.DictComp kx vx [⟨tg, iter, ifs, 0⟩] scope pos) 0 (.ref it) (.ref D) (compEnvC scope (cellsFrom (s3.heap.objs.size + 1) scope.names (cloFrom X.env.cells scope.names [])) s3.heap.objs.size X.env)) (compPost (model X.prog X.w) X.A X.xe use Qf (.ref D) s3.heap.objs.size) { s3 with heap := pushCells (s3.heap.push { cls := .type "dict", data := .dict #[] }) scope.names }
  have fpn : ∀ b ∈ fp, (upd H2 D (.dT [])) b = none := fun b hb => (f3 b hb).1.1
  generalize ece : compEnvC scope (cellsFrom (s3.heap.objs.size + 1) scope.names (cloFrom X.env.cells scope.names [])) s3.heap.objs.size X.env = ce at J4 pg pt pk pe ⊢
  have ceL : ce.locals = s3.heap.objs.size := by subst ece; rfl
  generalize hH3 : upd H2 D (.dT []) = H3 at J3 J4 pg pt pk pe W0 fpn f3
  generalize es4 : ({ s3 with heap := pushCells (s3.heap.push { cls := .type "dict", data := .dict #[] }) scope.names } : Shared) = s4 at J4 ⊢
  have tn4 : tn 0 s4.heap := T.keep _ _ _ tn3 fun b _ o e => by rw [← es4]; exact pushCells_keeps _ _ _ _ (Heap.get?_push_of_some _ e)
  have still : ∀ {σ' : L2.St} {H' : Hp} {s' : Shared}, L2.Inv (X.blk s3 H3 scope ce fp) [] σ' H' s' → (∀ b ∈ fp, H' b = none) → ∀ b ∈ fp, FpOk (X.blk s3 H3 scope ce fp) [] H' b := fun {σ' H' s'} I' hn b hb =>
    ⟨hn b hb, (I'.ok.exf b hb).1, I'.ok.exfs b hb, .inl hb, fun x c e => (I'.ok.exf b hb).2 x c e, fun p hp => absurd (show p ∈ ([] : List (Addr × Obj)) ++ [] from hp) (by simp)⟩
  have whole : codeAny (model X.prog X.w) X.A (.compLoop (.DictComp kx vx [⟨tg, iter, ifs, 0⟩] scope pos) 0 (.ref it) (.ref D) ce) (compPost (model X.prog X.w) X.A X.xe use Qf (.ref D) s3.heap.objs.size) s4 := by
    refine compLoop_anyD (fun n s' => ∃ i H', L2.Inv (X.blk s3 H3 scope ce fp) [] (wipe σ (own.map (·.2))) H' s' ∧ tn i s'.heap ∧ (∀ b ∈ fp, H' b = none) ∧ W i n H') ?_ M0 ⟨0, H3, J4, tn4, fpn, W0⟩
    rintro n s5 ⟨i, H5, J5, tn5, N5, W5⟩
    rcases step1 i n H5 W5 with ⟨stop, qq⟩ | ⟨go, Nx, hNx, step⟩
    · have td := T.done (X.blk s3 H3 scope ce fp) rfl rfl rfl hc i [] s5 _ H5 (fun _ _ => False) J5 (still J5 N5) tn5 stop
      refine thnF td fun r s6 ⟨hr, J6⟩ => ?_
      subst hr
      -- back in the def's context
      have J7 : L2.Inv X pins σ H5 s6 := J3.call' (ch := fp) J6.os J6.base J6.hok J6.bare fun b hb => ⟨(f3 b hb).1.2.2.2.1, (f3 b hb).1.2.1, (f3 b hb).1.2.2.2.2.1, (f3 b hb).1.2.2.2.2.2⟩
      have nC : H5 s3.heap.objs.size = none := by
        have z : H5 ce.locals = none := J6.free
        rw [ceL] at z
        exact z
      obtain ⟨m, hn, _⟩ := J6.loc
      have hn : s6.heap.Ns ce.locals m := hn
      rw [ceL] at hn
      exact hback D s3.heap.objs.size s6 m H5 J7 qq hn (J3.fpOk (Nat.le_refl _) nC)
    · have ti := T.item (X.blk s3 H3 scope ce fp) rfl rfl rfl hc i [] s5 _ H5 (fun _ _ => False) J5 (still J5 N5) tn5 go
      refine thnF ti fun r s6 ⟨u, hr, h6⟩ => ?_
      subst hr
      refine thnF h6 fun _ s7 ⟨x, H7, J7, R7, Y7, tn7, N7⟩ => ?_
      have I7' := J7.pinned (still J7 N7) (T.obj _ _ tn7)
      refine thnF (pg.run _ s7 _ H7 x u _ I7' R7 (step x H7 Y7)) fun _ s8 ⟨σ8, H8, J8, wp8, Q8⟩ => ?_
      refine thnF (pt.run _ s8 σ8 H8 _ J8 Q8) fun b s9 ⟨H9, J9, Q9⟩ => ?_
      -- the turn's end
      have next_ : ∀ {s' : Shared} {H' : Hp}, L2.Inv (X.blk s3 H3 scope ce fp) ([] ++ pinsAt fp s7.heap) σ8 H' s' → Nx H' → ∃ m, m < n ∧ ∃ i H', L2.Inv (X.blk s3 H3 scope ce fp) [] (wipe σ (own.map (·.2))) H' s' ∧ tn i s'.heap ∧ (∀ b ∈ fp, H' b = none) ∧ W i m H' := fun {s' H'} I' Nx1 => by
        obtain ⟨m', hm, w'⟩ := hNx H' Nx1
        have pin' : ∀ b ∈ fp, ∀ o, s7.heap.get? b = some o → s'.heap.get? b = some o ∧ H' b = none := fun b hb o e =>
          let z := I'.pin (b, o) (List.mem_append_right _ (List.mem_append_right _ (mem_pinsAt hb e)))
          ⟨z.1, z.2.1⟩
        have hl : (wipe σ (own.map (·.2))).length = σ8.length := by rw [← wp8, wipe_length]
        refine ⟨m', hm, i + 1, H', (I'.unpinned (pins := [])).weak hl (fun j v e => ?_), T.keep _ _ _ tn7 fun b hb o e => (pin' b hb o e).1, fun b hb => ?_, w'⟩
        · rw [← wp8] at e
          exact (wipe_some e).1
        · obtain ⟨o, e, _⟩ := T.obj _ _ tn7 b hb
          exact (pin' b hb o e).2
      cases b with
      | false =>
        simp only [Bool.false_eq_true, if_false] at Q9 ⊢
        exact next_ J9 Q9
      | true =>
        simp only [if_true] at Q9 ⊢
        refine thnF (pk.run _ s9 σ8 H9 _ J9 Q9) fun z s10 ⟨yk, H10, J10, r10, Q10⟩ => ?_
        refine thnF (pe.run _ s10 σ8 H10 _ J10 Q10) fun z2 s11 ⟨yv, H11, J11, r11, kvs, k, bk, ek, eD11, hb11, hz11, Nx1⟩ => ?_
        subst ek
        exact d_dictSetT (X := X.blk s3 H3 scope ce fp) hu J11 eD11 hb11 hz11 r10 r11 fun s12 J12 => next_ J12 Nx1
  exact codeAny_compStart_dict whole (T.self X.A 0 _ _ _ tn4 whole)
/-- as a value -/
theorem pe_dcT {kx vx tg iter : Expr} {ifs : List Expr} {scope : Scope} {own : List (Str × Nat)} {pos : Pos} {wi : TI} {g : TG} {tt : TT} {tk tv : TE} (hu : X.A.units + 1 < cLine) (hc : X.calm = true) (hN : X.N.Nodup) (hi : PI X tg iter wi) (ok : BlkOk X.N X.env.scope scope own)
    (hg : ∀ (s : Shared) (H : Hp) (C : Addr) (cl : List (Str × Addr)) (fp : List Addr), PG (X.blk s H scope (compEnvC scope cl C X.env) fp) tg g) (ht : ∀ (s : Shared) (H : Hp) (C : Addr) (cl : List (Str × Addr)) (fp : List Addr), PTs (X.blk s H scope (compEnvC scope cl C X.env) fp) ifs tt)
    (hk : ∀ (s : Shared) (H : Hp) (C : Addr) (cl : List (Str × Addr)) (fp : List Addr), PE (X.blk s H scope (compEnvC scope cl C X.env) fp) kx tk)
    (he : ∀ (s : Shared) (H : Hp) (C : Addr) (cl : List (Str × Addr)) (fp : List Addr), PE (X.blk s H scope (compEnvC scope cl C X.env) fp) vx tv) (hs : ∀ x, foldedSetIterable iter X.env x = pure x := by intro _; rfl) :
    PE X (.DictComp kx vx [⟨tg, iter, ifs, 0⟩] scope pos) (tDcT wi g tt tk tv (own.map (·.2))) := by
  refine ⟨fun pins s σ H Q I h => ?_⟩
  rw [arm_eval_DictComp]
  refine dcT_core hu hc hN I hi ok hg ht hk he hs h fun D C s' m H' I' q hn f => ⟨m, hn, fun h'' sb => ?_⟩
  obtain ⟨f0, f1, f2, f3, f4, f5⟩ := f
  exact ⟨.ref D, H', I'.turned (t' := s'.toks) (fun b o hb e => (sb.2 b hb).trans e) f0 f1 f3 f4 f5, rfl, q⟩
/-- over a tuple that stays -/
theorem dcT_tup {K : PySem.W.Frag} {a : Addr} {xs : List V} {g : TG} {tt : TT} {tk tv : TE} {vs : List Nat} {σ : L2.St} {H1 : Hp} {D : Addr} {Qd : Hp → Prop} (Pv : Nat → Hp → Prop) (h0 : Pv 0 (upd H1 D (.dT []))) (hl : ∀ i H, i ≤ xs.length → Pv i H → SqT K H a xs)
    (hs : ∀ i x H, xs[i]? = some x → Pv i H → g x (wipe σ vs) H fun σ2 H2 => wipe σ2 vs = wipe σ vs ∧ tt σ2 H2 fun bb H3 =>
      if bb = true then tk σ2 H3 fun y H4 => tv σ2 H4 fun z H5 => ∃ kvs k b, y = .ref b ∧ H5 D = some (.dT kvs) ∧ H5 b = some (.tup (k.map kV)) ∧ kvs.length < sizeLine ∧ Pv (i + 1) (upd H5 D (.dT (putK kvs k z))) else Pv (i + 1) H3) (hd : ∀ H, Pv xs.length H → Qd H) :
    ∃ W : Nat → Nat → Hp → Prop, (∃ m, W 0 m (upd H1 D (.dT []))) ∧ ∀ i m H, W i m H →
      ((Itt K a).stop i H ∧ Qd H) ∨ ((Itt K a).go i H ∧ ∃ Nx : Hp → Prop, (∀ H', Nx H' → ∃ m', m' < m ∧ W (i + 1) m' H') ∧ ∀ x H', (Itt K a).yld i H x H' → g x (wipe σ vs) H' fun σ2 H2 => wipe σ2 vs = wipe σ vs ∧ tt σ2 H2 fun bb H3 =>
        if bb = true then tk σ2 H3 fun y H4 => tv σ2 H4 fun z H5 => ∃ kvs k b, y = .ref b ∧ H5 D = some (.dT kvs) ∧ H5 b = some (.tup (k.map kV)) ∧ kvs.length < sizeLine ∧ Nx (upd H5 D (.dT (putK kvs k z))) else Nx H3) := by
  refine ⟨fun i m H => m = xs.length - i ∧ i ≤ xs.length ∧ Pv i H, ⟨xs.length, by simp, Nat.zero_le _, h0⟩, ?_⟩
  rintro i m H ⟨rfl, hi, p⟩
  have q := hl i H hi p
  by_cases hlt : i < xs.length
  · refine .inr ⟨⟨xs, xs[i], q, by simp [hlt]⟩, Pv (i + 1), fun H' p' => ⟨xs.length - (i + 1), by omega, rfl, hlt, p'⟩, fun x H' y => ?_⟩
    obtain ⟨e, y⟩ := y
    subst e
    exact hs i x _ (y xs q) p
  · have e : i = xs.length := by omega
    subst e
    exact .inl ⟨⟨xs, q, Nat.le_refl _⟩, hd H p⟩
end
end G

/-! G7 -/
namespace G
open PySem PySem.Spec PyProof.Rows L2
/-! sets of texts, any number of them: laid, walked, sorted (the library's own way for ints, at the kind of texts) -/
def keyS (e : Int × Value) : Str := match e.2 with | .str k _ => k | _ => Str.empty
def GoodS (w : World) (e : Int × Value) : Prop := ∃ k tk, e.2 = Value.str k tk ∧ e.1 = hashStr w k
def freshS (w : World) : Obj := { cls := .type "set", dict := none, data := .set #[] 0 (.fresh 0 0 (!w.params.followText "set-order")) }
def SetTx (w : World) (h : Heap) (a : Addr) (S : Str → Bool) (n : Nat) : Prop :=
  ∃ o es ep t, h.get? a = some o ∧ o.ExactSet ∧ o.data = .set es ep t ∧ (∀ e ∈ es.toList, GoodS w e) ∧ (es.toList.map keyS).Nodup ∧ (∀ k, S k = true ↔ k ∈ es.toList.map keyS) ∧
    es.size < scanBound ∧ t.fits es.size = true ∧ es.size = n ∧ Ris t.place.toList ∧ (w.params.followText "set-order" = true ∨ t.led = true)
section
variable {P : Program} {w : World} {h h' : Heap} {a : Addr} {S : Str → Bool} {n : Nat}
theorem SetTx.at (R : SetTx w h a S n) (k : ∀ o, h.get? a = some o → h'.get? a = some o) : SetTx w h' a S n := by
  obtain ⟨o, es, ep, t, ho, r⟩ := R
  exact ⟨o, es, ep, t, k o ho, r⟩
theorem SetTx.congr {S' : Str → Bool} (R : SetTx w h a S n) (e : ∀ k, S' k = S k) : SetTx w h a S' n := by
  have q : S' = S := funext e
  rw [q]; exact R
theorem goodS_elems {l : List (Int × Value)} (g : ∀ e ∈ l, GoodS w e) : ElemsOf (strKind P w) l := fun e he => by
  obtain ⟨k, tk, h1, h2⟩ := g e he
  exact ⟨⟨k, by rw [h1]; exact strKind_is P w k tk, h2⟩, by rw [h1] <;> rfl⟩
theorem goodS_is {e : Int × Value} (g : GoodS w e) (k : Str) : (strKind P w).is k e.2 = true ↔ keyS e = k := by
  obtain ⟨k0, tk, h1, _⟩ := g
  unfold keyS
  rw [h1]
  show (Value.isStrOf k (.str k0 tk) = true) ↔ k0 = k
  simp [Value.isStrOf]
theorem goodS_mem {l : List (Int × Value)} (g : ∀ e ∈ l, GoodS w e) (k : Str) : k ∈ l.map keyS ↔ ∃ e ∈ l, (strKind P w).is k e.2 = true := by
  rw [List.mem_map]
  constructor
  · rintro ⟨e, he, q⟩
    exact ⟨e, he, (goodS_is (g e he) k).2 q⟩
  · rintro ⟨e, he, q⟩
    exact ⟨e, he, (goodS_is (g e he) k).1 q⟩
theorem tx_fresh {w : World} {h : Heap} {a : Addr} {ns : List Str} (ho : h.get? a = some (freshS w)) : SetTx w h a (fun j => decide (j ∈ ns.take 0)) 0 :=
  ⟨_, #[], 0, _, ho, ⟨rfl, rfl, rfl⟩, rfl, (fun e he => by simp at he), (by simp), (fun k => by simp), (by decide), (by rfl), rfl, List.Pairwise.nil, by
    show _ ∨ (!w.params.followText "set-order") = true
    cases w.params.followText "set-order"
    · exact .inr rfl
    · exact .inl rfl⟩
end
section
variable {P : Program} {w : World} {A : Around} {E : Value → Shared → Prop} {s : Shared} {a : Addr} {S : Str → Bool} {n : Nat}
theorem tx_tail {g : Bool → Sem Unit} (hg : ∀ (b : Bool) (s₁ : Shared) (Q' : Unit → Shared → Prop), Q' () s₁ → wpAny (model P w) A (g b) Q' E s₁)
    {o : Obj} {es : Array (Int × Value)} {ep : Nat} {t : SetTable} (ho : s.heap.get? a = some o) (hex : o.ExactSet) (hd : o.data = .set es ep t)
    {es1 : Array (Int × Value)} {t2 : SetTable} {S' : Str → Bool} (g1 : ∀ e ∈ es1.toList, GoodS w e) (nd1 : (es1.toList.map keyS).Nodup) (m1 : ∀ k, S' k = true ↔ k ∈ es1.toList.map keyS)
    (hb1 : es1.size < scanBound) (hf2 : t2.fits es1.size = true) (hr : Ris t2.place.toList) (hl : w.params.followText "set-order" = true ∨ t2.led = true) {wasDummy : Bool} {R : Option Bool → Shared → Prop}
    (kQ : ∀ h', Heap.SameBut a s.heap h' → SetTx w h' a S' es1.size → R (some true) { s with heap := h' }) :
    wpAny (model P w) A (do
        storeSet a es1 t2
        if (!wasDummy && t2.tooFull) = true then do
            g (relayAll t2 es1 (SetTable.grown es1.size)).2.2
            storeSet a (relayAll t2 es1 (SetTable.grown es1.size)).1 (relayAll t2 es1 (SetTable.grown es1.size)).2.1
            pure (some true)
          else pure (some true)) R E s := by
  refine wpAny_bind (wpAny_storeSet_of ho hd ?_ (fits_of_scanBound hb1))
  have ho1 := store_at (es' := es1) (t' := t2) ho hd
  have sb1 := Heap.SameBut.update s.heap a (Obj.putSet es1 t2)
  split
  · have pm := relayAll_perm t2 es1 (SetTable.grown es1.size)
    have hf3 := relayAll_fits t2 es1 (SetTable.grown es1.size)
    have hr3 := relayAll_ris t2 es1 (SetTable.grown es1.size)
    have hl3 := relayAll_led t2 es1 (SetTable.grown es1.size)
    generalize relayAll t2 es1 (SetTable.grown es1.size) = Z at pm hf3 hr3 hl3 ⊢
    obtain ⟨es2, t3, gave⟩ := Z
    dsimp only at pm hf3 hr3 hl3 ⊢
    have hsz : es2.size = es1.size := by rw [← Array.length_toList, pm.length_eq, Array.length_toList]
    have hb2 : es2.size < scanBound := by rw [hsz]; exact hb1
    refine wpAny_bind (hg _ _ _ ?_)
    refine wpAny_bind (wpAny_storeSet_of ho1 rfl ?_ (fits_of_scanBound hb2))
    have ho2 := store_at (es' := es2) (t' := t3) ho1 rfl
    refine wpAny_pure (kQ _ (sb1.trans (Heap.SameBut.update _ a _)) ?_)
    exact ⟨_, es2, _, t3, ho2, hex, rfl, fun e he => g1 e (pm.mem_iff.mp he), (pm.map keyS).nodup_iff.mpr nd1, fun k => (m1 k).trans (pm.map keyS).mem_iff.symm, hb2, hf3, hsz, hr3,
      hl.imp id fun z => by rw [hl3]; exact z⟩
  · exact wpAny_pure (kQ _ sb1 ⟨_, es1, _, t2, ho1, hex, rfl, g1, nd1, m1, hb1, hf2, rfl, hr, hl⟩)

theorem tx_add {k : Str} {tk : Tok} {Q : Bool → Shared → Prop} (R : SetTx w s.heap a S n) (room : n + 1 < scanBound)
    (hQ : ∀ h', Heap.SameBut a s.heap h' → SetTx w h' a (fun j => S j || decide (j = k)) (if S k = true then n else n + 1) → Q (!S k) { s with heap := h' }) :
    wpAny (model P w) A (setAddHashed a (.str k tk) ((strKind P w).hash k)) Q E s := by
  obtain ⟨o, es, ep, t, ho, hex, hd, g, nd, hm, hb, hf, hn, hr, hl⟩ := R
  have hkey : (strKind P w).is k (.str k tk) = true := strKind_is P w k tk
  have hsc : (Value.str k tk).scannable = true := rfl
  have hel : ElemsOf (strKind P w) es.toList := goodS_elems g
  unfold setAddHashed setAddHashedIn
  refine wpAny_holding (wpAny_bind (wpAny_setState_of ho hd hf ?_))
  dsimp only
  rw [byScan_of hsc hb hel]
  simp only [↓reduceIte]
  unfold setAddByScan
  refine wpAny_bind ?_
  refine wpAny_bind (wpAny_rule ?_)
  refine wpAny_bind (wpAny_setScan_of hkey ho hd hf hel ?_)
  cases hfd : List.findIdx? (fun e => (strKind P w).is k e.2) es.toList with
  | some j =>
    dsimp only
    obtain ⟨hj, pj, _⟩ := List.findIdx?_eq_some_iff_getElem.mp hfd
    have hSk : S k = true := (hm k).2 ((goodS_mem (P := P) (w := w) g k).2 ⟨es.toList[j], List.getElem_mem hj, pj⟩)
    refine wpAny_pure (wpAny_pure ?_)
    have q := hQ s.heap (Heap.SameBut.refl a s.heap) ⟨o, es, ep, t, ho, hex, hd, g, nd, fun i => by
      rw [Bool.or_eq_true, decide_eq_true_eq, ← hm i]
      exact ⟨fun z => z.elim id (fun e => e ▸ hSk), .inl⟩, hb, hf, by rw [if_pos hSk]; exact hn, hr, hl⟩
    rw [hSk] at q
    exact q
  | none =>
    dsimp only
    have knew : k ∉ es.toList.map keyS := fun z => by
      obtain ⟨e, he, q⟩ := (goodS_mem (P := P) (w := w) g k).1 z
      have c := List.findIdx?_eq_none_iff.mp hfd e he
      rw [q] at c
      cases c
    have hSk : S k = false := by
      cases q : S k with
      | false => rfl
      | true => exact absurd ((hm k).1 q) knew
    have gway : ∀ (b : Bool) {s₁ : Shared} {Q' : Unit → Shared → Prop}, Q' () s₁ → wpAny (model P w) A (match b with | true => rule "set.scan.the-table-gave-way" | false => pure ()) Q' E s₁ :=
      fun b s₁ Q' q => by cases b <;> first | exact wpAny_pure q | exact wpAny_rule q
    have pm := layNew_perm t es ((strKind P w).hash k) (.str k tk)
    have hf1 := layNew_fits t es ((strKind P w).hash k) (.str k tk)
    have hr1 := layNew_ris t es ((strKind P w).hash k) (.str k tk) hr
    have hl1 := layNew_led t es ((strKind P w).hash k) (.str k tk)
    generalize layNew t es ((strKind P w).hash k) (.str k tk) = Z at pm hf1 hr1 hl1 ⊢
    obtain ⟨es1, t1, wasDummy, gave⟩ := Z
    dsimp only at pm hf1 hr1 hl1 ⊢
    rw [Array.toList_push] at pm
    have pc : es1.toList.Perm (((strKind P w).hash k, Value.str k tk) :: es.toList) := pm.trans (List.perm_append_singleton _ _)
    have pk : (es1.toList.map keyS).Perm (k :: es.toList.map keyS) := pc.map keyS
    have g1 : ∀ e ∈ es1.toList, GoodS w e := fun e he => by
      rcases List.mem_cons.mp (pc.mem_iff.mp he) with z | z
      · rw [z]; exact ⟨k, tk, rfl, rfl⟩
      · exact g e z
    have nd1 : (es1.toList.map keyS).Nodup := pk.nodup_iff.mpr (List.nodup_cons.mpr ⟨knew, nd⟩)
    have m1 : ∀ i, (S i || decide (i = k)) = true ↔ i ∈ es1.toList.map keyS := fun i => by
      rw [Bool.or_eq_true, decide_eq_true_eq, hm i, pk.mem_iff, List.mem_cons]
      exact Or.comm
    have hsz : es1.size = n + 1 := by rw [← Array.length_toList, pc.length_eq, List.length_cons, Array.length_toList, hn]
    have hb1 : es1.size < scanBound := by rw [hsz]; exact room
    have ledx : w.params.followText "set-order" = true ∨ t1.led = true := hl.imp id fun z => by rw [hl1]; exact z
    have fin : ∀ h', Heap.SameBut a s.heap h' → SetTx w h' a (fun j => S j || decide (j = k)) es1.size → Q true { s with heap := h' } := fun h' sb r => by
      have q := hQ h' sb
      rw [hSk] at q
      rw [hsz] at r
      exact q r
    refine wpAny_bind (gway _ ?_)
    split
    · refine wpAny_bind ?_
      rw [hashByValue_scannable 8 hsc]
      refine wpAny_pure ?_
      refine tx_tail ?_ ho hex hd g1 nd1 m1 hb1 ?_ ?_ ?_ ?_
      · intro b s₁ Q' q; cases b <;> first | exact wpAny_pure q | exact wpAny_rule q
      · first | (split <;> first | exact hf1 | exact SetTable.fits_plain_off hf1) | exact hf1
      · first | (split <;> exact hr1) | exact hr1
      · first | (split <;> exact ledx) | exact ledx
      · intro h' sb r; dsimp only; exact wpAny_pure (fin h' sb r)
    · refine wpAny_bind (wpAny_pure ?_)
      simp only [↓reduceIte]
      refine tx_tail ?_ ho hex hd g1 nd1 m1 hb1 hf1 hr1 ledx ?_
      · intro b s₁ Q' q; cases b <;> first | exact wpAny_pure q | exact wpAny_rule q
      · intro h' sb r; dsimp only; exact wpAny_pure (fin h' sb r)

end
section
variable {P : Program} {w : World} {A : Around} {E : Value → Shared → Prop} {s : Shared}
theorem tx_update {I : Addr} {fp wr : List Addr} {G : Array GenState → Array GenState → Prop} {n : Nat} {Pv : Nat → Value → Prop} {St : Nat → Shared → Prop} {R : Result → Shared → Prop}
    (W : WalksS P w A.in1 I fp wr G n Pv St) (S : Addr) (hSf : S ∉ fp) (ns : List Str) (hn : n = ns.length) (hb : ns.length + 1 < scanBound) (item_ : ∀ i v, Pv i v → ∃ k t, ns[i]? = some k ∧ v = .str k t) :
    ∀ (k i : Nat) (s : Shared), n - i = k → i ≤ n → St i s → (∃ c, c ≤ i ∧ SetTx w s.heap S (fun j => decide (j ∈ ns.take i)) c) →
      (∀ s' c, Moved (S :: wr) G s s' → c ≤ n → SetTx w s'.heap S (fun j => decide (j ∈ ns)) c → R (.ok (.ret .none)) s') →
      codeAny (model P w) A (.builtin "set.update.loop" ⟨[.ref S, .ref I], []⟩) R s := by
  have hSw : S ∉ wr := fun h => hSf (W.sub _ h)
  have hs_u : ∀ b ∈ wr, b ∈ S :: wr := fun b hb => List.mem_cons_of_mem _ hb
  intro k
  induction k with
  | zero =>
    intro i s hk' hi hSt ⟨c, hc, hS⟩ kQ
    have hin : i = n := by omega
    subst hin
    refine codeAny_builtin F.entry_set_update_loop ?_
    rw [Around.under_plainId F.plain_set_update_loop _]
    show wpAny _ A.in1 (pyNext (.ref I) >>= _) _ _ s
    refine wpAny_bind (W.done s _ _ hSt fun s' hm => ?_)
    show wpAny _ A.in1 (ret Value.none) _ _ s'
    have e : ns.take i = ns := List.take_of_length_le (by omega)
    rw [e] at hS
    exact wpAny_pure (kQ s' c (hm.mono hs_u) hc (hS.at fun o e => hm.heap S o hSw e))
  | succ k ih =>
    intro i s hk' hi hSt ⟨c, hc, hS⟩ kQ
    have hlt : i < n := by omega
    refine codeAny_builtin F.entry_set_update_loop ?_
    rw [Around.under_plainId F.plain_set_update_loop _]
    show wpAny _ A.in1 (pyNext (.ref I) >>= _) _ _ s
    refine wpAny_bind (W.item i s _ _ hlt hSt fun v s' hP hst' hm => ?_)
    obtain ⟨z, t, hz, rfl⟩ := item_ i v hP
    have hS' : SetTx w s'.heap S (fun j => decide (j ∈ ns.take i)) c := hS.at fun o e => hm.heap S o hSw e
    show wpAny _ A.in1 (holding [Value.str z t] (setAdd S (.str z t)) >>= _) _ _ s'
    refine wpAny_bind (wpAny_holding ?_)
    unfold setAdd
    refine wpAny_holding ?_
    refine wpAny_bind ((strKind P w).pyHash (k := z) (strKind_is _ _ _ _) ?_)
    refine tx_add (s := { s' with toks := s'.toks + 1 }) hS' (by omega) fun h' sbx hT2_ => ?_
    have hT3 : SetTx w h' S (fun j => decide (j ∈ ns.take (i + 1))) (if decide (z ∈ ns.take i) = true then c else c + 1) := hT2_.congr fun j => by
      rw [List.take_add_one, hz]
      simp [List.mem_append]
    have hz3 : (if decide (z ∈ ns.take i) = true then c else c + 1) ≤ i + 1 := by
      split <;> omega
    refine wpAny_pure ⟨plainId_quiet F.plain_set_update_loop _, ih (i + 1) _ (by omega) hlt (W.frame _ s' _ _ hst' (Nat.le_succ _) fun b hb o e => ?_) ⟨_, hz3, hT3⟩ fun s'' c2 hm'' hc'' hS'' => ?_⟩
    · rw [sbx.2 b (fun h : b = S => hSf (by rw [← h]; exact hb))]; exact e
    · refine kQ s'' c2 (Moved.trans W.gtrans ((hm.mono hs_u).then_heap (Nat.le_succ _) fun b o hb e => ?_) hm'') hc'' hS''
      rw [sbx.2 b (fun h : b = S => hb (by rw [h]; exact List.mem_cons_self))]; exact e

set_option maxRecDepth 100000 in
set_option maxHeartbeats 3200000 in
theorem tx_call_tup {l : Addr} {items : Array Value} (ns : List Str) {Q : Value → Shared → Prop} (hh : A.handled = none) (hl : s.heap.IsTuple l items) (hit : StrsAre items.toList ns) (hb : ns.length + 1 < scanBound)
    (h : ∀ (h' : Heap) (tk c : Nat), SetTx w h' s.heap.objs.size (fun j => decide (j ∈ ns)) c → c ≤ ns.length → (∀ b o, s.heap.get? b = some o → h'.get? b = some o) → Q (.ref s.heap.objs.size) { s with heap := h', toks := tk }) :
    wpAny (model P w) A (call (.type "set") [.ref l]) Q E s := by
  have hisz : items.size = ns.length := by
    have q := StrsAre.len_eq hit
    rw [Array.length_toList] at q
    exact q
  obtain ⟨c, tl, hmro⟩ := F.called_set.mro
  have hmade := F.called_set.made
  have hs_u := F.called_set.sub
  refine wpAny_call (codeAny_of_tree ?_)
  show wpAny _ _ (callAny (.type "set") _) _ _ _
  refine wpAny_pure ⟨Code.quiet_builtin _ (by decide +kernel), codeAny_builtin F.entry_type_call ?_⟩
  rw [Around.under_plain (weight_type_call_type "set" [.ref l] []) rfl]
  have h1 := F.called_set.notType
  have h2 := F.called_set.canCreate
  have hct := F.typeCall_set_1 (.ref l)
  repeat (any_goals (first | assumption | wp_step))

  refine codeAny_mono (code_set_led1 (.ref l) (E := E) (Q₁ := fun obj s₁ => obj = .ref s.heap.objs.size ∧ s₁ = { s with heap := s.heap.push (freshS w) }) ⟨rfl, rfl⟩) fun r s₁ hr => ?_
  cases r with
  | error e => exact hr
  | ok fl =>
    cases fl with
    | ret obj =>
      obtain ⟨rfl, rfl⟩ := hr
      have hS : (s.heap.push (freshS w)).get? s.heap.objs.size = some (freshS w) := Heap.get?_push_size _ rfl
      have hT : Shared.TypeIs { s with heap := s.heap.push (freshS w) } (.ref s.heap.objs.size) "set" := ⟨_, hS, rfl⟩
      have hli := F.called_set.init.lookup
      have hbi := F.called_set.init.bind (.ref s.heap.objs.size)
      repeat (any_goals (first | assumption | wp_step))

      refine codeAny_mono (codeAny_call_builtin (R := wants (fun r s₂ => r = .none ∧ ∃ h' tk c, s₂ = { s with heap := h', toks := tk } ∧ SetTx w h' s.heap.objs.size (fun j => decide (j ∈ ns)) c ∧ c ≤ ns.length ∧
          (∀ b o, s.heap.get? b = some o → h'.get? b = some o)) E) F.called_set.init.plain F.entry_set_init (check_set_init_1 hT ?_)) fun r₂ s₂ hr₂ => ?_
      · obtain ⟨ol, hol, hcl, nl, hdl⟩ := hl
        obtain ⟨ocls, odict, odata, oslots⟩ := ol
        simp only at hcl hdl
        subst hcl; subst hdl
        have hol' : (s.heap.push (freshS w)).get? l = some { cls := .type "tuple", dict := odict, data := .seq items nl, slots := oslots } := Heap.get?_push_of_some _ hol
        have hsls := F.sub_tuple_set
        have hslf := F.sub_tuple_frozenset
        have hne : (Value.type "tuple" == Value.type "dict") = false := by decide
        have hl1 : (s.heap.push (freshS w)).IsTuple l items := ⟨_, hol', rfl, nl, rfl⟩
        unfold Builtin.«set.__init__» noKeywords Builtin.Frozenset.updateFrom
        generalize hPI : pyIter = PI
        wp_walk
        subst hPI

        refine wpAny_pyIter_tuple hl1 ?_
        refine wpAny_bind (wpAny_runValue ?_)
        have hlS : l < s.heap.objs.size := Heap.lt_size hol
        have hh3 : A.in1.in1.in1.handled = none := by simp [hh]
        have hz1 : (s.heap.push (freshS w)).objs.size = s.heap.objs.size + 1 := Heap.size_push ..
        have hneI : l ≠ (s.heap.push (freshS w)).objs.size := by
          rw [Heap.size_push]; exact Nat.ne_of_lt (Nat.lt_succ_of_lt hlS)
        have hSf : s.heap.objs.size ∉ [(s.heap.push (freshS w)).objs.size, l] := by
          rw [Heap.size_push]; simp only [List.mem_cons, List.mem_singleton, List.not_mem_nil, or_false, not_or]
          exact ⟨Nat.ne_of_lt (Nat.lt_succ_self _), Nat.ne_of_gt hlS⟩
        have item_ : ∀ (i : Nat) (v : Value), items[i]? = some v → ∃ k t, ns[i]? = some k ∧ v = .str k t := fun i v hv => by
          have hi : i < ns.length := by rw [← hisz]; exact (Array.getElem?_eq_some_iff.mp hv).1
          obtain ⟨t, e⟩ := SS.strs_at hit i v (by rw [Array.getElem?_toList]; exact hv)
          refine ⟨ns[i], t, List.getElem?_eq_getElem hi, ?_⟩
          rw [e, List.getD_eq_getElem?_getD, List.getElem?_eq_getElem hi] <;> rfl
        refine tx_update ((Walks.tuple hh3 _ l hneI items).toS) s.heap.objs.size
          hSf ns hisz hb item_ (items.size - 0) 0 _ (by omega) (Nat.zero_le _)
          ⟨⟨_, Heap.get?_push_size _ rfl, rfl, rfl⟩, (hl1.push _)⟩ ?hS0 ?kQ
        case hS0 =>
          have hget : ((s.heap.push (freshS w)).push { cls := .type "tuple_iterator", data := .fields #[.ref l, .int 0 0] }).get? s.heap.objs.size
              = some (freshS w) := Heap.get?_push_of_some _ hS
          exact ⟨0, Nat.le_refl 0, tx_fresh hget⟩
        case kQ =>
          intro s' c' hm hc' hS'
          obtain ⟨h', g2, d', tk', os'⟩ := s'
          have eg : g2 = s.gens := hm.gens
          have ed : d' = s.drawn := hm.drawn
          have eo : os' = s.os := hm.os
          subst eg; subst ed; subst eo
          show wpAny _ _ _ _ _ _
          refine wpAny_pure ?_
          show wpAny _ _ (ret Value.none) _ _ _
          rw [hisz] at hc'
          refine wpAny_pure ⟨rfl, h', tk', c', rfl, hS', hc', fun b o e => ?_⟩
          have hb0 : b < s.heap.objs.size := Heap.lt_size e
          have hb1 : b ≠ s.heap.objs.size := Nat.ne_of_lt hb0
          have hb2 : b ≠ (s.heap.push (freshS w)).objs.size := by
            rw [Heap.size_push]; exact Nat.ne_of_lt (Nat.lt_succ_of_lt hb0)
          exact hm.heap b o (by simp only [List.mem_cons, List.mem_singleton, List.not_mem_nil, or_false, not_or]; exact ⟨hb1, hb2⟩) (Heap.get?_push_of_some _ (Heap.get?_push_of_some _ e))

      · cases r₂ with
        | error e => exact hr₂
        | ok fl₂ =>
          cases fl₂ with
          | ret r =>
            obtain ⟨rfl, h', tk, c', rfl, hS', hc', hk'⟩ := hr₂
            repeat (any_goals (first | assumption | wp_step))
            exact h _ _ _ hS' hc' hk'
          | _ => exact hr₂.elim
    | _ => exact hr.elim

set_option maxRecDepth 100000 in
set_option maxHeartbeats 3200000 in
theorem tx_call_list {l : Addr} {items : Array Value} (ns : List Str) {Q : Value → Shared → Prop} (hh : A.handled = none) (hl : s.heap.IsList l items) (hit : StrsAre items.toList ns) (hb : ns.length + 1 < scanBound)
    (h : ∀ (h' : Heap) (tk c : Nat), SetTx w h' s.heap.objs.size (fun j => decide (j ∈ ns)) c → c ≤ ns.length → (∀ b o, s.heap.get? b = some o → h'.get? b = some o) → Q (.ref s.heap.objs.size) { s with heap := h', toks := tk }) :
    wpAny (model P w) A (call (.type "set") [.ref l]) Q E s := by
  have hisz : items.size = ns.length := by
    have q := StrsAre.len_eq hit
    rw [Array.length_toList] at q
    exact q
  obtain ⟨c, tl, hmro⟩ := F.called_set.mro
  have hmade := F.called_set.made
  have hs_u := F.called_set.sub
  refine wpAny_call (codeAny_of_tree ?_)
  show wpAny _ _ (callAny (.type "set") _) _ _ _
  refine wpAny_pure ⟨Code.quiet_builtin _ (by decide +kernel), codeAny_builtin F.entry_type_call ?_⟩
  rw [Around.under_plain (weight_type_call_type "set" [.ref l] []) rfl]
  have h1 := F.called_set.notType
  have h2 := F.called_set.canCreate
  have hct := F.typeCall_set_1 (.ref l)
  repeat (any_goals (first | assumption | wp_step))

  refine codeAny_mono (code_set_led1 (.ref l) (E := E) (Q₁ := fun obj s₁ => obj = .ref s.heap.objs.size ∧ s₁ = { s with heap := s.heap.push (freshS w) }) ⟨rfl, rfl⟩) fun r s₁ hr => ?_
  cases r with
  | error e => exact hr
  | ok fl =>
    cases fl with
    | ret obj =>
      obtain ⟨rfl, rfl⟩ := hr
      have hS : (s.heap.push (freshS w)).get? s.heap.objs.size = some (freshS w) := Heap.get?_push_size _ rfl
      have hT : Shared.TypeIs { s with heap := s.heap.push (freshS w) } (.ref s.heap.objs.size) "set" := ⟨_, hS, rfl⟩
      have hli := F.called_set.init.lookup
      have hbi := F.called_set.init.bind (.ref s.heap.objs.size)
      repeat (any_goals (first | assumption | wp_step))

      refine codeAny_mono (codeAny_call_builtin (R := wants (fun r s₂ => r = .none ∧ ∃ h' tk c, s₂ = { s with heap := h', toks := tk } ∧ SetTx w h' s.heap.objs.size (fun j => decide (j ∈ ns)) c ∧ c ≤ ns.length ∧
          (∀ b o, s.heap.get? b = some o → h'.get? b = some o)) E) F.called_set.init.plain F.entry_set_init (check_set_init_1 hT ?_)) fun r₂ s₂ hr₂ => ?_
      · obtain ⟨ol, hol, hcl, nl, hdl⟩ := hl
        obtain ⟨ocls, odict, odata, oslots⟩ := ol
        simp only at hcl hdl
        subst hcl; subst hdl
        have hol' : (s.heap.push (freshS w)).get? l = some { cls := .type "list", dict := odict, data := .seq items nl, slots := oslots } := Heap.get?_push_of_some _ hol
        have hsls := F.sub_list_set
        have hslf := F.sub_list_frozenset
        have hne : (Value.type "list" == Value.type "dict") = false := by decide
        have hl1 : (s.heap.push (freshS w)).IsList l items := ⟨_, hol', rfl, nl, rfl⟩
        unfold Builtin.«set.__init__» noKeywords Builtin.Frozenset.updateFrom
        generalize hPI : pyIter = PI
        wp_walk
        subst hPI

        refine wpAny_pyIter_list hl1 ?_
        refine wpAny_bind (wpAny_runValue ?_)
        have hlS : l < s.heap.objs.size := Heap.lt_size hol
        have hh3 : A.in1.in1.in1.handled = none := by simp [hh]
        have hz1 : (s.heap.push (freshS w)).objs.size = s.heap.objs.size + 1 := Heap.size_push ..
        have hneI : l ≠ (s.heap.push (freshS w)).objs.size := by
          rw [Heap.size_push]; exact Nat.ne_of_lt (Nat.lt_succ_of_lt hlS)
        have hSf : s.heap.objs.size ∉ [(s.heap.push (freshS w)).objs.size, l] := by
          rw [Heap.size_push]; simp only [List.mem_cons, List.mem_singleton, List.not_mem_nil, or_false, not_or]
          exact ⟨Nat.ne_of_lt (Nat.lt_succ_self _), Nat.ne_of_gt hlS⟩
        have item_ : ∀ (i : Nat) (v : Value), items[i]? = some v → ∃ k t, ns[i]? = some k ∧ v = .str k t := fun i v hv => by
          have hi : i < ns.length := by rw [← hisz]; exact (Array.getElem?_eq_some_iff.mp hv).1
          obtain ⟨t, e⟩ := SS.strs_at hit i v (by rw [Array.getElem?_toList]; exact hv)
          refine ⟨ns[i], t, List.getElem?_eq_getElem hi, ?_⟩
          rw [e, List.getD_eq_getElem?_getD, List.getElem?_eq_getElem hi] <;> rfl
        refine tx_update ((Walks.list hh3 _ l hneI items).toS) s.heap.objs.size
          hSf ns hisz hb item_ (items.size - 0) 0 _ (by omega) (Nat.zero_le _)
          ⟨⟨_, Heap.get?_push_size _ rfl, rfl, rfl⟩, (hl1.push _)⟩ ?hS0 ?kQ
        case hS0 =>
          have hget : ((s.heap.push (freshS w)).push { cls := .type "list_iterator", data := .fields #[.ref l, .int 0 0] }).get? s.heap.objs.size
              = some (freshS w) := Heap.get?_push_of_some _ hS
          exact ⟨0, Nat.le_refl 0, tx_fresh hget⟩
        case kQ =>
          intro s' c' hm hc' hS'
          obtain ⟨h', g2, d', tk', os'⟩ := s'
          have eg : g2 = s.gens := hm.gens
          have ed : d' = s.drawn := hm.drawn
          have eo : os' = s.os := hm.os
          subst eg; subst ed; subst eo
          show wpAny _ _ _ _ _ _
          refine wpAny_pure ?_
          show wpAny _ _ (ret Value.none) _ _ _
          rw [hisz] at hc'
          refine wpAny_pure ⟨rfl, h', tk', c', rfl, hS', hc', fun b o e => ?_⟩
          have hb0 : b < s.heap.objs.size := Heap.lt_size e
          have hb1 : b ≠ s.heap.objs.size := Nat.ne_of_lt hb0
          have hb2 : b ≠ (s.heap.push (freshS w)).objs.size := by
            rw [Heap.size_push]; exact Nat.ne_of_lt (Nat.lt_succ_of_lt hb0)
          exact hm.heap b o (by simp only [List.mem_cons, List.mem_singleton, List.not_mem_nil, or_false, not_or]; exact ⟨hb1, hb2⟩) (Heap.get?_push_of_some _ (Heap.get?_push_of_some _ e))

      · cases r₂ with
        | error e => exact hr₂
        | ok fl₂ =>
          cases fl₂ with
          | ret r =>
            obtain ⟨rfl, h', tk, c', rfl, hS', hc', hk'⟩ := hr₂
            repeat (any_goals (first | assumption | wp_step))
            exact h _ _ _ hS' hc' hk'
          | _ => exact hr₂.elim
    | _ => exact hr.elim

end
end G

/-! G8 -/
namespace G
open PySem PySem.Spec PyProof.Rows L2

section
variable {P : Program} {w : World} {A : Around} {E : Value → Shared → Prop} {s : Shared} {a : Addr} {S : Str → Bool} {n : Nat}
theorem strs_map : ∀ (l : List Value), (∀ v ∈ l, ∃ k tk, v = Value.str k tk) → StrsAre l (l.map fun v => match v with | .str k _ => k | _ => Str.empty)
  | [], _ => .nil
  | v :: l, h => by
    obtain ⟨k, tk, rfl⟩ := h v List.mem_cons_self
    exact .cons k tk (strs_map l fun u hu => h u (List.mem_cons_of_mem _ hu))
/-- sorted(set of texts) -/
theorem tx_sorted {Q : Value → Shared → Prop} (R : SetTx w s.heap a S n) (hh : A.handled = none) (h64 : n < 64)
    (hQ : ∀ s' p (out : Array Value) (c : Nat) (ss : List Str), (∀ b o, s.heap.get? b = some o → s'.heap.get? b = some o) → s'.gens = s.gens → s'.os = s.os → s.heap.objs.size ≤ p →
      s'.heap.get? p = some (seqObj "list" out c) → StrsAre out.toList ss → sortedS ss = true → ss.Nodup → (∀ k, k ∈ ss ↔ S k = true) → ss.length = n → Q (.ref p) s') :
    wpAny (model P w) A (call (.builtin "sorted") [.ref a]) Q E s := by
  obtain ⟨o, es, ep, t, ho, hex, hd, g, nd, hm, hb, hf, hn, hr, hl⟩ := R
  refine Calls.call_function_entry kind_sorted plain_sorted entry_sorted (args_sorted1 _) ?_
  unfold Builtin.«sorted»
  refine wpAny_bind (m := checkCount "sorted" 1 1 _) (wpAny_pure ?_)
  refine wpAny_bind (collect_set (A := A.in1) hh ⟨o, ho, hex.1, hd⟩ hf hb hr hl fun s1 vs k1 hz g1 o1 pm => ?_)
  have lv : vs.length = n := by rw [pm.length_eq, List.length_map, Array.length_toList]; exact hn
  have hS := strs_map vs fun v hv => by
    obtain ⟨e, he, q⟩ := List.mem_map.mp (pm.mem_iff.mp hv)
    obtain ⟨k, tk, h1, _⟩ := g e he
    exact ⟨k, tk, by rw [← q]; exact h1⟩
  have pk : (vs.map fun v => match v with | .str k _ => k | _ => Str.empty).Perm (es.toList.map keyS) := by
    have q := pm.map fun v => match v with | .str k _ => k | _ => Str.empty
    rw [List.map_map] at q
    exact q
  refine wpAny_bind (wpAny_newList ?_ (by rw [lv, sizeLine_eq]; omega))
  have hoL : (s1.heap.push (seqObj "list" vs.toArray 0)).get? s1.heap.objs.size = some (seqObj "list" vs.toArray 0) := Heap.get?_push_size _ rfl
  refine wpAny_bind (wpAny_holding (wpAny_call_entry slot_list_sort ⟨_, hoL, rfl⟩ entry_list_sort
    (list_sort_treeK strKind_oneLt hoL hS.keysOf (fun v1 v2 rest e => keyKind_strs (by rw [← e]; exact hS)) (by rw [lv]; exact h64) fun sx hp hs => ⟨_, rfl, ?_⟩) (args_list_sort _)))
  obtain ⟨ss, a1, a2, a3⟩ := sorted_out_str hS hp hs
  obtain ⟨c, hc⟩ := sortedHeap_at (vs := vs) (out := (arrOf sx).map (·.2)) hoL
  have pn : ss.Perm (es.toList.map keyS) := a2.trans pk
  refine wpAny_pure ⟨_, rfl, hQ _ s1.heap.objs.size ((arrOf sx).map (·.2)) c ss (fun b u e => ?_) g1 o1 hz hc a1 a3 (pn.nodup_iff.mpr nd) (fun k => by rw [pn.mem_iff, ← hm k]) ?_⟩
  · have q := k1 b u e
    have hlt := Heap.lt_size q
    show (sortedHeap (s1.heap.push (seqObj "list" vs.toArray 0)) s1.heap.objs.size vs _).get? b = some u
    rw [sortedHeap_old (Nat.ne_of_lt hlt) (by rw [size_push']; exact Nat.lt_succ_of_lt hlt)]
    exact Heap.get?_push_of_some _ q
  · rw [pn.length_eq, List.length_map, Array.length_toList]; exact hn
end
section
variable {X : Cx}
/-- sorted(set(xs)), a list of fewer than 60 texts: a new list, ascending, the same ones once each -/
def tSortSet (K : PySem.W.Frag) (ta : TE) : TE := fun σ H Q => ta σ H fun x H1 => ∃ l, ∃ xs : List Str, x = .ref l ∧ SqL K H1 l (xs.map V.str) ∧ xs.length < 60 ∧
  ∀ ys p, sortedS ys = true → ys.Nodup → (∀ k, k ∈ ys ↔ k ∈ xs) → ys.length ≤ xs.length → H1 p = none → Q (.ref p) (upd H1 p (.lst (ys.map V.str)))
theorem pe_sortSet {e : Expr} {ta : TE} {p p2 q pos : Pos} (hc : X.calm = true) (hg : Gl X "sorted") (hm : X.mg "sorted" = none) (hg2 : Gl X "set") (hm2 : X.mg "set" = none) (ha : PE X e ta)
    (na : starEach [e] X.env = (false, eval e X.env) :: starEach [] X.env := by rfl) : PE X (.Call (.Name "sorted" p) [.Call (.Name "set" p2) [e] [] q] [] pos) (tSortSet X.K ta) := by
  refine ⟨fun pins s σ H Q I h => ?_⟩
  refine Call_ (ld_blt I hg hm boot_sorted ?_)
  refine PyProof.Rows.callWith_builtin1 (PyProof.Rows.args_cons ?_ rfl) rfl rfl
  refine Call_ (ld_blt I hg2 hm2 boot_set ?_)
  refine PyProof.Rows.callWith_type1 (PyProof.Rows.args_cons (thn (ha.run pins s σ H _ I h) fun v s1 ⟨x, H1, I1, r1, q1⟩ => PyProof.Rows.args_nil ?_) na) na rfl
  obtain ⟨l, xs, rfl, hq, h60, q1⟩ := q1
  cases r1
  obtain ⟨its, r, pl, hz⟩ := I1.list hq
  refine tx_call_list xs (I1.ok.hd hc) pl.isList (by simpa using strsAre_of r) (by unfold scanBound; omega) fun h' tk c hS hcx hk => ?_
  refine PyProof.Rows.args_nil ?_
  have I2 : L2.Inv X pins σ H1 { s1 with heap := h', toks := tk } := I1.kept fun b o e => hk b o e
  refine tx_sorted (s := { s1 with heap := h', toks := tk }) hS (I2.ok.hd hc) (by omega) fun s2 p2 out c2 ss k2 g2 o2 lp hp a1 a2 a3 a4 a5 => ?_
  have eM : ∀ k, k ∈ ss ↔ k ∈ xs := fun k => by rw [a4 k]; simp
  have lss : (ss.map V.str).length ≤ sizeLine := by rw [List.length_map, a5, sizeLine_eq]; omega
  have hn : H1 p2 = none := I2.hok.fresh lp
  have J : L2.Inv X pins σ (upd H1 p2 (.lst (ss.map V.str))) { ({ s1 with heap := h', toks := tk } : Shared) with heap := s2.heap, gens := s2.gens, drawn := s2.drawn, toks := s2.toks } :=
    I2.call (ch := []) (Un.laid k2 lp hn) (I2.hok.laid k2 lp ⟨lss, out.toList, c2, vals_of_strs a1, hp⟩) (by rw [g2]; exact I2.bare) (fun _ z => nomatch z)
  have e2 : s2 = { ({ s1 with heap := h', toks := tk } : Shared) with heap := s2.heap, gens := s2.gens, drawn := s2.drawn, toks := s2.toks } := by
    cases s2
    cases s1
    cases o2
    rfl
  rw [e2]
  exact ⟨.ref p2, _, J, rfl, q1 ss p2 a2 a3 eM (by omega) hn⟩
end
end G

/-! G9 -/
namespace G
open PySem PySem.Spec PyProof.Rows L2

section
variable {prog : Program} {w : World} {A : Around} {E : Value → Shared → Prop} {s : Shared} {K : Type} [DecidableEq K] {knd : KeyKind prog w K} {r d : Addr} {kvs : List (K × Value)} {ep : Nat}
theorem code_tuple_items {Q₁ : Value → Shared → Prop} (hh : A.handled = none) (hv : s.heap.IsItemsView r d) (hm : s.heap.DictAt knd d kvs ep) (hn : kvs.length ≤ sizeLine)
    (h : ∀ (h' : Heap) (tk : Nat) (as : List Addr), (∀ b o, s.heap.get? b = some o → h'.get? b = some o) → as.length = kvs.length → PySem.W.KdxG knd kvs s.heap.objs.size h' as →
      Q₁ (.ref h'.objs.size) { s with heap := h'.push { cls := .type "tuple", data := .seq (as.map Value.ref).toArray }, toks := tk }) :
    codeAny (model prog w) A (.call (.builtin "tuple.__new__") ⟨[.type "tuple", .ref r], []⟩) (wants Q₁ E) s := by
  refine codeAny_of_tree ?_
  show wpAny _ A.in1 (do checkBuiltinCall "tuple.__new__" ⟨[.type "tuple", .ref r], []⟩; again (.builtin "tuple.__new__" ⟨[.type "tuple", .ref r], []⟩)) _ _ s
  refine wpAny_bind (wpAny_of_eq (F.newCall_tuple_1 _) (wpAny_pure ⟨plainId_quiet F.plain_tuple_new _, codeAny_builtin F.entry_tuple_new ?_⟩))
  rw [Around.under_plainId F.plain_tuple_new _]
  have hsub := sub_tuple_self
  have hinit := init_tuple_lookup
  have hmh := madeHere_tuple
  have hTI : s.TypeIs (.ref r) "dict_items" := let ⟨o, ho, hc, _⟩ := hv; ⟨o, ho, hc⟩
  have hh1 : A.in1.handled = none := hh
  wp_walk using wpAny_typeOf hTI, PySem.W.kdx_collect (A := A.in1) hh1 hv hm hn
  intro h' tk as hk hl hG
  show wpAny _ _ (Builtin.Tuple.tupleExact (as.map Value.ref).toArray >>= fun v => ret v) _ _ _
  unfold Builtin.Tuple.tupleExact
  refine wpAny_bind (wpAny_newObj_type ?_ (by show (as.map Value.ref).toArray.size ≤ sizeLine; rw [List.size_toArray, List.length_map, hl]; exact hn))
  refine wpAny_pure ?_
  exact h h' tk as hk hl hG
theorem call_tuple_items {Q : Value → Shared → Prop} (hh : A.handled = none) (hv : s.heap.IsItemsView r d) (hm : s.heap.DictAt knd d kvs ep) (hn : kvs.length ≤ sizeLine)
    (hQ : ∀ (h' : Heap) (tk : Nat) (as : List Addr), (∀ b o, s.heap.get? b = some o → h'.get? b = some o) → as.length = kvs.length → PySem.W.KdxG knd kvs s.heap.objs.size h' as →
      Q (.ref h'.objs.size) { s with heap := h'.push { cls := .type "tuple", data := .seq (as.map Value.ref).toArray }, toks := tk }) :
    wpAny (model prog w) A (call (.type "tuple") [.ref r]) Q E s := by
  refine callType_codes (Q₁ := fun obj s1 => s1.TypeIs obj "tuple" ∧ Q obj s1) F.called_tuple (F.typeCall_tuple_1 _) F.entry_object_init
    (code_tuple_items (A := A.in1) hh hv hm hn fun h' tk as hk hl hG => ⟨⟨_, Heap.get?_push_size _ rfl, rfl⟩, hQ h' tk as hk hl hG⟩) fun obj s1 h1 => ?_
  exact ⟨h1.1, F.args_object_init_2 obj _, object_init_meets F.called_tuple.init.lookup F.called_tuple.made (by decide) prog w A.in1 _ s1 ⟨h1.1, rfl, h1.2⟩⟩
end
open LiI
theorem put_nil {b : Addr} : ∀ (as : List Addr) (kvs : List (L2.Key × V)) (H : Hp), b ∉ as → putT H as kvs b = H b := putT_off
/-- the pairs' tuples are tracked -/
theorem pairs_laid {X : Cx} {pins : List (Addr × Obj)} {σ : L2.St} {H : Hp} {s : Shared} {h' : Heap} {tk : Nat} {kvs : List (L2.Key × V)} {vs : List (L2.Key × Value)} {as : List Addr} {lo : Addr} (I : L2.Inv X pins σ H s) (kv : KV kvs vs)
    (hlo : s.heap.objs.size ≤ lo) (hk : ∀ b o, s.heap.get? b = some o → h'.get? b = some o) (hl : as.length = vs.length) (hG : PySem.W.KdxG (mixKind X.prog X.w) vs lo h' as) :
    (∀ b o, H b = some o → putT H as kvs b = some o) ∧ (∀ t ∈ as, H t = none) ∧ Paired (fun (t : Addr) (q : L2.Key × V) => putT H as kvs t = some (.tup [kV q.1, q.2])) as kvs ∧ L2.Inv X pins σ (putT H as kvs) { s with heap := h', toks := tk } := by
  have lk : kvs.length = vs.length := Paired.length kv
  have nd : as.Nodup := List.Pairwise.imp (fun {a b} (h : a < b) => Nat.ne_of_lt h) hG.rise
  have up : ∀ t ∈ as, s.heap.objs.size < t := fun t ht => Nat.lt_of_le_of_lt hlo (hG.above t ht)
  have new : ∀ t ∈ as, H t = none := fun t ht => I.hok.fresh (Nat.le_of_lt (up t ht))
  have atP := putT_at as kvs H (by omega) nd
  have low : ∀ b o, s.heap.get? b = some o → b ∉ as := fun b o e z => absurd (Heap.lt_size e) (Nat.not_lt.mpr (Nat.le_of_lt (up b z)))
  have kp : ∀ b u, H b = some u → (putT H as kvs) b = some u := fun b u e => by
    rw [putT_off as kvs _ (fun z => by rw [new b z] at e; cases e)]
    exact e
  refine ⟨kp, new, atP, ?_⟩
  refine I.call' (ch := []) rfl ⟨fun b o q _ _ _ => hk b o q, fun b o q _ _ _ => ⟨o.slots, hk b o q⟩, fun b o q n _ => ?_, fun b o q _ => ⟨o, hk b o q⟩, fun b xs q => kp b _ q, fun b o u q => kp b _ q, fun b ps q => ⟨#[], by rw [kp b _ q]; simp⟩⟩ (fun b u q => ?_) I.bare fun b z => by simp at z
  · rw [putT_off as kvs _ (low b o q)]
    exact n
  · by_cases hb : b ∈ as
    · obtain ⟨j, pk, e1, e2, e3⟩ := paired_ix atP hb
      rw [e3] at q
      cases q
      obtain ⟨key, k, x, f1, f2, f3⟩ := hG.pairs j b e1
      obtain ⟨qv, g1, g2, g3⟩ := LiI.paired_get kv e2
      rw [f1] at g1
      cases g1
      have rk : RelV (kV pk.1) key := by
        rw [g2]
        exact relV_key (show keyIs k key = true from f2)
      exact ⟨by show 2 ≤ sizeLine; decide, [key, x], .cons rk (.cons g3 .nil), ⟨_, f3, rfl, _, rfl⟩⟩
    · rw [putT_off as kvs _ hb] at q
      exact (I.hok b u q).stay (fun d v _ y => hk d v y) (fun d y => kp d _ y) fun d xs y => kp d _ y
def rItemsU : V → Hp → VK → Prop := fun x H Q => ∃ (d : Addr) (kvs : List (L2.Key × V)), x = .ref d ∧ H d = some (.dK kvs) ∧
  ∀ (H' : Hp) (p : Addr) (ts : List Addr), (∀ b o, H b = some o → H' b = some o) → H p = none → (∀ t ∈ ts, H t = none) → p ∉ ts → H' p = some (.tup (ts.map V.ref)) → Paired (fun (t : Addr) (q : L2.Key × V) => H' t = some (.tup [kV q.1, q.2])) ts kvs → Q (.ref p) H'
def tTupItems (te : TE) : TE := fun σ H Q => te σ H fun x H1 => rItemsU x H1 Q
/-- tuple(e.items()) -/
theorem pe_tupItems {X : Cx} {e : Expr} {te : TE} {p apos cpos pos : Pos} (hc : X.calm = true) (he : PE X e te) (hg : Gl X "tuple") (hm : X.mg "tuple" = none) (hbase : attributeBase e "items" X.env (eval e X.env) = eval e X.env := by rfl) (hline : (apos.endLine == cpos.line) = true := by rfl)
    (hs : starEach [.Call (.Attribute e "items" apos) [] [] cpos] X.env = (false, eval (.Call (.Attribute e "items" apos) [] [] cpos) X.env) :: starEach [] X.env := by rfl) :
    PE X (.Call (.Name "tuple" p) [.Call (.Attribute e "items" apos) [] [] cpos] [] pos) (tTupItems te) := by
  refine ⟨fun pins s σ H Q I hq => ?_⟩
  refine wpAny_Call_Name_kw (ld_blt I hg hm boot_tuple ?_)
  refine PyProof.Rows.callWith_type1 ?_ hs rfl
  rw [hs]
  show wpAny _ _ (spliced ((false, eval (.Call (.Attribute e "items" apos) [] [] cpos) X.env) :: backTo pos (starEach [] X.env))) _ _ s
  refine Calls.spliced_cons ?_
  refine wpAny_Call_method (T := "dict") (id := "dict.items") hbase rfl hline F.plainAttrs_dict F.slot_dict_items F.type_dict_items (thn (he.run pins s σ H _ I hq) fun u s1 ⟨x, H1, I1, rx, d, kvs, ex, hd, q⟩ => ?_)
  subst ex
  obtain rfl : u = Value.ref d := rx
  obtain ⟨hz, hs0, vs, kv, hdo⟩ := I1.hok d _ hd
  obtain ⟨ep, hat⟩ := hdo.dictAt
  have lk : kvs.length = vs.length := Paired.length kv
  have I2 : L2.Inv X pins σ H1 { s1 with heap := s1.heap.push { cls := .type "dict_items", data := .fields #[.ref d] } } := I1.kept (t' := s1.toks) fun b ob q => Heap.get?_push_of_some _ q
  refine ⟨hdo.typeIs, hdo.mapOf.noDict, ?_⟩
  show wpAny _ _ (callWith cpos (.builtin "dict.items") [.ref d] [] []) _ X.xe s1
  refine method_meetsIn F.slot_dict_items F.entry_dict_items rfl (PySem.evalArgs_none ⟨rfl, hdo.typeIs, F.args_dict_items_1 _, _, meets_dict_items (mixKind X.prog X.w) d hs0, ⟨vs, hdo⟩, ?_⟩)
  refine Calls.spliced_nil ?_
  refine call_tuple_items (knd := mixKind X.prog X.w) (kvs := vs) (ep := ep) (I1.ok.hd hc) ⟨_, Heap.get?_push_size _ rfl, rfl, rfl⟩ (hat.push _) (by omega) fun h' tk as hk hl hG => ?_
  obtain ⟨k1, k2, k3, J⟩ := pairs_laid (tk := tk) I2 kv (Nat.le_refl _) hk hl hG
  have low : ∀ t ∈ as, t < h'.objs.size := fun t ht => hG.there ht
  have npt : h'.objs.size ∉ as := fun z => Nat.lt_irrefl _ (low _ z)
  have J2 := J.laid (t' := tk) (h' := h'.push { cls := .type "tuple", data := .seq (as.map Value.ref).toArray }) (o := .tup (as.map V.ref)) (fun b ob q => Heap.get?_push_of_some _ q) (Nat.le_refl _)
    ⟨by rw [List.length_map]; omega, as.map Value.ref, LiI.vals_refs as, IsTup.new _ _⟩
  have hpn : putT H1 as kvs h'.objs.size = none := J.hok.fresh (Nat.le_refl _)
  have hp1 : H1 h'.objs.size = none := by rw [putT_off as kvs _ npt] at hpn; exact hpn
  refine ⟨.ref _, _, J2, rfl, q _ _ as (fun b o hb => ?_) hp1 k2 npt upd_same ?_⟩
  · rw [upd_ne (ne_of_none hb hp1)]
    exact k1 b o hb
  · have key : ∀ t ∈ as, upd (putT H1 as kvs) h'.objs.size (.tup (as.map V.ref)) t = putT H1 as kvs t := fun t ht => upd_ne (fun z => npt (z ▸ ht))
    clear J2 J hpn
    have go : ∀ {xs : List Addr} {ys : List (L2.Key × V)}, (∀ t ∈ xs, t ∈ as) → Paired (fun (t : Addr) (q : L2.Key × V) => putT H1 as kvs t = some (.tup [kV q.1, q.2])) xs ys →
        Paired (fun (t : Addr) (q : L2.Key × V) => upd (putT H1 as kvs) h'.objs.size (.tup (as.map V.ref)) t = some (.tup [kV q.1, q.2])) xs ys := by
      intro xs ys hx r
      induction r with
      | nil => exact .nil
      | cons a _ ih => exact .cons (by rw [key _ (hx _ List.mem_cons_self)]; exact a) (ih fun t ht => hx t (List.mem_cons_of_mem _ ht))
    exact go (fun t ht => ht) k3
end G

/-! G10 -/
namespace G
open PySem PySem.Spec PyProof.Rows L2
def CPowW (i j : Int) : Prop := 0 ≤ j ∧ (Builtin.Int.intBits i : Int) * j ≤ 2 ^ 27
/-- a ** b, greater numbers -/
theorem op_powW {X : Cx} : OpR X (binaryOp .Pow) (rI CPowW fun i j => .int (i ^ j.toNat)) := opI fun _ _ _ _ _ _ _ hc q => pow_int hc.1 hc.2 q
end G

/-! H1 -/
namespace G
open PySem PySem.Spec PyProof.Rows L2
/-! what stands behind the top: the built-ins' names, the defs -/
structure Blt (mg : Str → Option Value) : Prop where
  len : mg "len" = none
  isi : mg "isinstance" = none
  tup : mg "tuple" = none
  int : mg "int" = none
  bool : mg "bool" = none
  str : mg "str" = none
  all : mg "all" = none
  any : mg "any" = none
  zip : mg "zip" = none
  enu : mg "enumerate" = none
  rng : mg "range" = none
  min : mg "min" = none
  max : mg "max" = none
  sor : mg "sorted" = none
  set : mg "set" = none
  dict : mg "dict" = none
  sum : mg "sum" = none
  abs : mg "abs" = none
  lst : mg "list" = none
  gcd : mg "gcd" = some (.builtin "math.gcd")
structure DefB (K : PySem.W.Frag) (mg : Str → Option Value) (x : Str) (st : Stmt) (ps : List Str) : Prop where
  ex : ∃ (f : Addr) (fd : FuncData), C8.Def K mg x st f fd ∧ Binds K fd ps []
section
variable {P : Program} {w : World} {K : PySem.W.Frag} {mg : Str → Option Value} {base : Heap}
theorem calB {x : Str} {st : Stmt} {N ps : List Str} {k : Nat} {sp : Sp} (D : DefB K mg x st ps) (S : C8.scC N ps (C8.fnScope st) = true) (len : ∀ vs H Q E, sp vs H Q E → vs.length = ps.length)
    (hbody : ∀ (f : Addr) (cdv : Value) (A : Around) (outer : List Env) (s : Shared) (H : Hp) (vs : List V) (Q : VK) (E : XK), Room k (A.deeper (envOfC x (C8.fnScope st) s.heap.objs.size f cdv)) → sp vs H Q E →
      ∃ t, PSs (cxOf C8.CX0 P w K mg base N x (C8.fnScope st) f cdv A outer s H E).nox (C8.fnBody st) t ∧ t { nx := fun _ H' => Q .non H', rt := Q } (start N vs) H) : C8.Cal P w K mg base (k + 1) x sp [] := by
  obtain ⟨f, fd, F, b⟩ := D.ex
  exact C8.cal0 F b .nil (C8.fnScope_by S) len (hbody f)
end
section
variable {X : Cx} {a b c : Expr} {ta tb tc : TE} {t : TA} {p pos : Pos} {es : List Expr}
theorem t_isi (K : PySem.W.Frag) (B : Blt X.mg) (ha : PA X (a :: es) t) (hK : X.K = K := by rfl) (g : Gl X "isinstance" := by rfl) (he : starEach (a :: es) X.env = (false, eval a X.env) :: starEach es X.env := by rfl) (hpl : (backTo pos (starEach es X.env)).any (·.1) = false := by rfl) :
    PE X (.Call (.Name "isinstance" p) (a :: es) [] pos) (tCB (rIsi K) t) := by subst hK; exact pe_callB call_isi g B.isi boot_isinstance ha (he := he) (hpl := hpl)
def rLen (K : PySem.W.Frag) : List V → Hp → VK → Prop := fun xs H Q => ∃ p ys, xs = [.ref p] ∧ (SqL K H p ys ∨ SqT K H p ys) ∧ Q (.int ys.length) H
theorem t_len (K : PySem.W.Frag) (B : Blt X.mg) (ha : PA X (a :: es) t) (hK : X.K = K := by rfl) (g : Gl X "len" := by rfl) (he : starEach (a :: es) X.env = (false, eval a X.env) :: starEach es X.env := by rfl) (hpl : (backTo pos (starEach es X.env)).any (·.1) = false := by rfl) :
    PE X (.Call (.Name "len" p) (a :: es) [] pos) (tCB (rLen K) t) := by subst hK; exact pe_callB call_len_seq g B.len PySem.boot_len ha (he := he) (hpl := hpl)
def rLenS : List V → Hp → VK → Prop := fun xs H Q => ∃ z, xs = [.str z] ∧ z.length ≤ sizeLine ∧ Q (.int z.length) H
theorem t_lenS (B : Blt X.mg) (ha : PA X (a :: es) t) (g : Gl X "len" := by rfl) (he : starEach (a :: es) X.env = (false, eval a X.env) :: starEach es X.env := by rfl) (hpl : (backTo pos (starEach es X.env)).any (·.1) = false := by rfl) :
    PE X (.Call (.Name "len" p) (a :: es) [] pos) (tCB rLenS t) := pe_callB call_len_str g B.len PySem.boot_len ha (he := he) (hpl := hpl)
theorem t_gcd (B : Blt X.mg) (ha : PA X (a :: es) t) (g : Gl X "gcd" := by rfl) (he : starEach (a :: es) X.env = (false, eval a X.env) :: starEach es X.env := by rfl) (hpl : (backTo pos (starEach es X.env)).any (·.1) = false := by rfl) :
    PE X (.Call (.Name "gcd" p) (a :: es) [] pos) (tCB rGcd t) := pe_callBfun cr_gcd g B.gcd ha (he := he) (hpl := hpl)
theorem t_all (K : PySem.W.Frag) (hc : X.calm = true) (B : Blt X.mg) (ha : PA X (a :: es) t) (hK : X.K = K := by rfl) (g : Gl X "all" := by rfl) (he : starEach (a :: es) X.env = (false, eval a X.env) :: starEach es X.env := by rfl) (hpl : (backTo pos (starEach es X.env)).any (·.1) = false := by rfl) :
    PE X (.Call (.Name "all" p) (a :: es) [] pos) (tCB (rAll K) t) := by subst hK; exact pe_callB (cr_all hc) g B.all boot_all ha (he := he) (hpl := hpl)
theorem t_any (K : PySem.W.Frag) (hc : X.calm = true) (B : Blt X.mg) (ha : PA X (a :: es) t) (hK : X.K = K := by rfl) (g : Gl X "any" := by rfl) (he : starEach (a :: es) X.env = (false, eval a X.env) :: starEach es X.env := by rfl) (hpl : (backTo pos (starEach es X.env)).any (·.1) = false := by rfl) :
    PE X (.Call (.Name "any" p) (a :: es) [] pos) (tCB (rAny K) t) := by subst hK; exact pe_callB (cr_any hc) g B.any (by decide +kernel) ha (he := he) (hpl := hpl)
theorem t_min (K : PySem.W.Frag) (hc : X.calm = true) (B : Blt X.mg) (ha : PA X (a :: es) t) (hK : X.K = K := by rfl) (g : Gl X "min" := by rfl) (he : starEach (a :: es) X.env = (false, eval a X.env) :: starEach es X.env := by rfl) (hpl : (backTo pos (starEach es X.env)).any (·.1) = false := by rfl) :
    PE X (.Call (.Name "min" p) (a :: es) [] pos) (tCB (rMin K) t) := by subst hK; exact pe_callB (cr_min hc) g B.min boot_min ha (he := he) (hpl := hpl)
theorem t_max (K : PySem.W.Frag) (hc : X.calm = true) (B : Blt X.mg) (ha : PA X (a :: es) t) (hK : X.K = K := by rfl) (g : Gl X "max" := by rfl) (he : starEach (a :: es) X.env = (false, eval a X.env) :: starEach es X.env := by rfl) (hpl : (backTo pos (starEach es X.env)).any (·.1) = false := by rfl) :
    PE X (.Call (.Name "max" p) (a :: es) [] pos) (tCB (rMax K) t) := by subst hK; exact pe_callB (cr_max hc) g B.max boot_max ha (he := he) (hpl := hpl)
theorem t_gt (K : PySem.W.Frag) {es : List Expr} {k : Nat} {t : TGs} {n : Nat} (hc : X.calm = true) (h : PGs X es t) (hK : X.K = K := by rfl)
    (hn : (assignEach es X.env).length = n := by rfl) (hst : (assignEach es X.env).findIdx? (·.1) = none := by rfl) : PG X (.Tuple es k pos) (gTup K n t) := by subst hK; exact pg_tup hc h hn hst
theorem t_ty {n : String} {x : Str} (hm : X.mg x = none) (hv : bootBuiltins x = some (.type n)) (g : Gl X x := by rfl) (hn : x ≠ "__name__" := by decide) (hd : (x == ("__debug__" : Str)) = false := by decide) : PE X (.Name x pos) (tC (.ty n)) :=
  pe_bltn g hm hv rfl hn hd
/-- xs[i], t[i]: lists, tuples -/
theorem t_it (K : PySem.W.Frag) (ha : PE X a ta) (hb : PE X b tb) (hK : X.K = K := by rfl) (hs : PlainIx b := by exact fun _ _ => rfl) : PE X (.Subscript a b pos) (tOp (rIxT K) ta tb) := by subst hK; exact pe_ix ix_tup ha hb hs
theorem t_il (K : PySem.W.Frag) (ha : PE X a ta) (hb : PE X b tb) (hK : X.K = K := by rfl) (hs : PlainIx b := by exact fun _ _ => rfl) : PE X (.Subscript a b pos) (tOp (rIxL K) ta tb) := by subst hK; exact pe_ix ix_list ha hb hs
/-- o.f -/
theorem t_f (K : PySem.W.Frag) {e : Expr} {f : Str} (he : PE X e ta) (hK : X.K = K := by rfl) (hb : attributeBase e f X.env (eval e X.env) = eval e X.env := by rfl) : PE X (.Attribute e f pos) (tFld K ta f) := by subst hK; exact pe_fld he hb
end
theorem atI_0 {α : Type} {x : α} {xs : List α} {n : Nat} (h : xs[n]? = some x) : atI xs (n : Int) = some x := atI_nat h
end G

/-! H2 -/
namespace G
open PySem PySem.Spec PyProof.Rows L2
theorem same_upd {H H1 : Hp} {p : Addr} {o : HO} (s : Same H H1) (hp : H1 p = none) : Same H (upd H1 p o) := fun b u e => by
  rw [upd_ne (ne_of_none (s b u e) hp)]
  exact s b u e
theorem same_new {H : Hp} {p : Addr} {o : HO} (hp : H p = none) : Same H (upd H p o) := same_upd (Same.refl H) hp
theorem same_seqT {K : PySem.W.Frag} {H H' : Hp} {a : Addr} {xs : List V} (e : Same H H') (h : SqT K H a xs) : SqT K H' a xs := by
  rcases h with (h | ⟨o, h⟩) | h
  · exact .inl (.inl (e _ _ h))
  · exact .inl (.inr ⟨o, e _ _ h⟩)
  · exact .inr h
theorem yes_if {σ : L2.St} {H : Hp} {F G : Hp → Prop} (h : F H) : tYes σ H fun b H3 => if b = true then F H3 else G H3 := by
  show if true = true then F H else G H
  rw [if_pos rfl]
  exact h
/-- [f of each turn], what is told by f i = none left out: only new objects come -/
theorem lc_fm {J : It} {n : Nat} {G : Hp → Prop} {Y : Nat → Hp → V → Hp → Prop} (wk : Walk J n G Y) {g : TG} {tt : TT} {te : TE} {vs : List Nat} {σ : L2.St} {H1 : Hp} {D : Addr} {Qd : Hp → Prop} (f : Nat → Option V) (hn : n ≤ 100000) (hD : H1 D = none)
    (hG : ∀ H, Same H1 H → G H)
    (hs : ∀ (i : Nat) (x : V) (H H' : Hp) (Kk : V → Hp → Prop) (Kn : Hp → Prop), i < n → Same H1 H → Y i H x H' → (∀ y H4, f i = some y → Same H H4 → Kk y H4) → (f i = none → ∀ H3, Same H H3 → Kn H3) →
      g x (wipe σ vs) H' fun σ2 H2 => wipe σ2 vs = wipe σ vs ∧ tt σ2 H2 fun b H3 => if b = true then te σ2 H3 Kk else Kn H3)
    (hd : ∀ H, Same H1 H → H D = some (.lst ((List.range n).filterMap f)) → Qd H) :
    ∃ W : Nat → Nat → Hp → Prop, (∃ m, W 0 m (upd H1 D (.lst []))) ∧ ∀ i m H, W i m H →
      (J.stop i H ∧ Qd H) ∨ (J.go i H ∧ ∃ Nx : Hp → Prop, (∀ H', Nx H' → ∃ m', m' < m ∧ W (i + 1) m' H') ∧ ∀ x H', J.yld i H x H' → g x (wipe σ vs) H' fun σ2 H2 => wipe σ2 vs = wipe σ vs ∧ tt σ2 H2 fun b H3 =>
        if b = true then te σ2 H3 fun y H4 => ∃ acc, H4 D = some (.lst acc) ∧ acc.length < sizeLine ∧ Nx (upd H4 D (.lst (acc ++ [y]))) else Nx H3) := by
  refine lc_it wk (fun i H => Same H1 H ∧ H D = some (.lst ((List.range i).filterMap f))) ⟨same_new hD, upd_same⟩ (fun i H _ p => hG H p.1) (fun i x H H' hi p y => ?_) fun H p => hd H p.1 p.2
  obtain ⟨p1, p2⟩ := p
  refine hs i x H H' _ _ hi p1 y (fun v H4 e s4 => ⟨_, s4 _ _ p2, ?_, ?_, ?_⟩) (fun e H3 s3 => ⟨p1.trans s3, ?_⟩)
  · refine Nat.lt_of_le_of_lt (List.length_filterMap_le _ _) ?_
    rw [List.length_range, sizeLine_eq]
    omega
  · intro b o hb
    rw [upd_ne (ne_of_none hb hD)]
    exact s4 _ _ (p1 b o hb)
  · rw [upd_same, List.range_succ, List.filterMap_append]
    simp [e]
  · rw [List.range_succ, List.filterMap_append, s3 _ _ p2]
    simp [e]
theorem range_fm {α β : Type} (xs : List α) (f : α → Option β) : (List.range xs.length).filterMap (fun i => (xs[i]?).bind f) = xs.filterMap f := by
  induction xs with
  | nil => rfl
  | cons x xs ih =>
    rw [List.length_cons, List.range_succ_eq_map, List.filterMap_cons, List.filterMap_map]
    have e : ((fun i => ((x :: xs)[i]?).bind f) ∘ Nat.succ) = fun i => (xs[i]?).bind f := by
      funext i
      simp
    rw [e, ih, List.filterMap_cons]
    simp
theorem range_map {α β : Type} (xs : List α) (f : α → β) : (List.range xs.length).filterMap (fun i => (xs[i]?).map f) = xs.map f := by
  have e := range_fm xs (fun x => some (f x))
  rw [List.filterMap_eq_map'] at e
  rw [← e]
  congr 1
  funext i
  cases xs[i]? <;> rfl
/-- the tuples stay -/
def TupStay (H H' : Hp) : Prop := ∀ b xs, H b = some (.tup xs) → H' b = some (.tup xs)
theorem Same.tups {H H' : Hp} (s : Same H H') : TupStay H H' := fun b xs e => s b _ e
theorem tups_lst {H : Hp} {D : Addr} {xs ys : List V} (h : H D = some (.lst xs)) : TupStay H (upd H D (.lst ys)) := fun b zs e => by
  rw [upd_ne (ne_of e h (by intro z; cases z))]
  exact e
/-- [e for ..], no item left out: what is told of each item by its turn, and stays while tuples stay -/
theorem lc_rel {J : It} {n : Nat} {G : Hp → Prop} {Y : Nat → Hp → V → Hp → Prop} (wk : Walk J n G Y) {g : TG} {tt : TT} {te : TE} {vs : List Nat} {σ : L2.St} {H1 : Hp} {D : Addr} {Qd : Hp → Prop} (R : Nat → V → Hp → Prop) (hn : n ≤ 100000) (hD : H1 D = none)
    (hR : ∀ i v H H', TupStay H H' → R i v H → R i v H') (hG : ∀ H, Same H1 H → G H)
    (hs : ∀ (i : Nat) (x : V) (H H' : Hp) (Kk : V → Hp → Prop) (Kn : Hp → Prop), i < n → Same H1 H → Y i H x H' → (∀ y H4, R i y H4 → Same H H4 → Kk y H4) →
      g x (wipe σ vs) H' fun σ2 H2 => wipe σ2 vs = wipe σ vs ∧ tt σ2 H2 fun b H3 => if b = true then te σ2 H3 Kk else Kn H3)
    (hd : ∀ (ys : List V) H, Same H1 H → H D = some (.lst ys) → ys.length = n → (∀ i y, ys[i]? = some y → R i y H) → Qd H) :
    ∃ W : Nat → Nat → Hp → Prop, (∃ m, W 0 m (upd H1 D (.lst []))) ∧ ∀ i m H, W i m H →
      (J.stop i H ∧ Qd H) ∨ (J.go i H ∧ ∃ Nx : Hp → Prop, (∀ H', Nx H' → ∃ m', m' < m ∧ W (i + 1) m' H') ∧ ∀ x H', J.yld i H x H' → g x (wipe σ vs) H' fun σ2 H2 => wipe σ2 vs = wipe σ vs ∧ tt σ2 H2 fun b H3 =>
        if b = true then te σ2 H3 fun y H4 => ∃ acc, H4 D = some (.lst acc) ∧ acc.length < sizeLine ∧ Nx (upd H4 D (.lst (acc ++ [y]))) else Nx H3) := by
  refine lc_it wk (fun i H => Same H1 H ∧ ∃ ys : List V, H D = some (.lst ys) ∧ ys.length = i ∧ ∀ j y, ys[j]? = some y → R j y H) ⟨same_new hD, [], upd_same, rfl, fun j y e => by simp at e⟩ (fun i H _ p => hG H p.1) (fun i x H H' hi p y => ?_) fun H p => ?_
  · obtain ⟨p1, ys, p2, p3, p4⟩ := p
    refine hs i x H H' _ _ hi p1 y (fun v H4 r s4 => ?_)
    have d4 := s4 _ _ p2
    refine ⟨ys, d4, ?_, ?_, ys ++ [v], upd_same, by simp [p3], fun j z e => ?_⟩
    · rw [p3, sizeLine_eq]; omega
    · intro b o hb
      rw [upd_ne (ne_of_none hb hD)]
      exact s4 _ _ (p1 b o hb)
    · refine hR _ _ _ _ (tups_lst d4) ?_
      by_cases hj : j < ys.length
      · rw [List.getElem?_append_left hj] at e
        exact hR _ _ _ _ (Same.tups s4) (p4 j z e)
      · rw [List.getElem?_append_right (by omega)] at e
        have ej : j - ys.length = 0 := by
          have := (List.getElem?_eq_some_iff.mp e).1
          simp at this
          omega
        rw [ej] at e
        have ez : v = z := by simpa using e
        have ei : j = i := by omega
        rw [← ez, ei]
        exact r
  · obtain ⟨p1, ys, p2, p3, p4⟩ := p
    exact hd ys H p1 p2 p3 p4
end G

/-! D1 -/
namespace G
open PySem PySem.Spec PyProof.Rows L2
section
variable {P : Program} {w : World} {K : PySem.W.Frag} {mg : Str → Option Value} {base : Heap}
/-! ### exact.py -/
/-- (i, j), a tuple of two ints at t -/
abbrev Fr2 (K : PySem.W.Frag) (H : Hp) (t : Addr) (i j : Int) : Prop := SqT K H t [.int i, .int j]
def sp_fraction : Sp := fun vs H Q _ => ∃ a b : Int, vs = [.int a, .int b] ∧ 0 < b ∧ b < 1073741824 ∧
  ∀ p, H p = none → Q (.ref p) (upd H p (.tup [.int (a / (Nat.gcd a.natAbs b.natAbs : Nat)), .int (b / (Nat.gcd a.natAbs b.natAbs : Nat))]))
theorem c_fraction (B : Blt mg) (D : DefB K mg "fraction" s_fraction ["top", "bottom"]) : C8.Cal P w K mg base 1 "fraction" sp_fraction [] := by
  have S : C8.scC ["top", "bottom", "common"] ["top", "bottom"] (C8.fnScope s_fraction) = true := by decide +kernel
  have nd := (C8.fnScope_by S).nd
  refine calB D S (fun vs H Q E h => ?_) (fun f cdv A outer s H vs Q E hr h => ?_)
  · obtain ⟨a, b, rfl, _⟩ := h
    rfl
  obtain ⟨a, b, rfl, h0, h1, q⟩ := h
  refine ⟨_, pss_cons (ps_set (i := 2) nd rfl (.inl rfl) (t_gcd B (pa_cons (pv 0) (pa_cons (pv 1) pa_nil))))
    (pss_one (ps_ret (pe_tup (pa_cons (pe_op op_fdiv (pv 0) (pv 2)) (pa_cons (pe_op op_fdiv (pv 1) (pv 2)) pa_nil))))), ?_⟩
  have g0 : 0 < Nat.gcd a.natAbs b.natAbs := Nat.gcd_pos_of_pos_right _ (by omega)
  have g1 : Nat.gcd a.natAbs b.natAbs ≤ b.natAbs := Nat.gcd_le_right _ (by omega)
  refine ⟨_, rfl, _, rfl, _, _, rfl, _, rfl, _, rfl, _, _, rfl, rfl, ⟨by omega, by omega⟩, _, rfl, _, rfl, _, _, rfl, rfl, ⟨by omega, by omega⟩, (by show 2 ≤ sizeLine; decide), fun p hp => ?_⟩
  exact q p hp
def sp_is_at_most (K : PySem.W.Frag) : Sp := fun vs H Q _ => ∃ (t u : Addr) (a b c d : Int), vs = [.ref t, .ref u] ∧ Fr2 K H t a b ∧ Fr2 K H u c d ∧ (-(2 ^ 64) < a ∧ a < 2 ^ 64) ∧ (-(2 ^ 64) < c ∧ c < 2 ^ 64) ∧ Q (.bl (decide (a * d ≤ c * b))) H
theorem c_is_at_most (B : Blt mg) (D : DefB K mg "is_at_most" s_is_at_most ["one", "other"]) : C8.Cal P w K mg base 1 "is_at_most" (sp_is_at_most K) [] := by
  have S : C8.scC ["one", "other"] ["one", "other"] (C8.fnScope s_is_at_most) = true := by decide +kernel
  refine calB D S (fun vs H Q E h => ?_) (fun f cdv A outer s H vs Q E hr h => ?_)
  · obtain ⟨_, _, _, _, _, _, rfl, _⟩ := h
    rfl
  obtain ⟨t, u, a, b, c, d, rfl, ht, hu, ha, hc, q⟩ := h
  refine ⟨_, pss_one (ps_ret (pe_cmpR op_le (pe_op op_mul (t_it K (pv 0) pe_int) (t_it K (pv 1) pe_int)) (pe_op op_mul (t_it K (pv 1) pe_int) (t_it K (pv 0) pe_int)) (nomark _))), ?_⟩
  refine ⟨_, rfl, t, _, 0, _, rfl, rfl, ht, atI_0 (n := 0) rfl, _, rfl, u, _, 1, _, rfl, rfl, hu, atI_0 (n := 1) rfl, _, _, rfl, rfl, .inl ha, ?_⟩
  exact ⟨_, rfl, u, _, 0, _, rfl, rfl, hu, atI_0 (n := 0) rfl, _, rfl, t, _, 1, _, rfl, rfl, ht, atI_0 (n := 1) rfl, _, _, rfl, rfl, .inl hc, _, _, rfl, rfl, q⟩
/-! ### words.py -/
def sp_is_integer : Sp := fun vs H Q _ => ∃ i : Int, vs = [.int i] ∧ Q (.bl true) H
theorem c_is_integer (B : Blt mg) (D : DefB K mg "is_integer" s_is_integer ["value"]) : C8.Cal P w K mg base 1 "is_integer" sp_is_integer [] := by
  have S : C8.scC ["value"] ["value"] (C8.fnScope s_is_integer) = true := by decide +kernel
  refine calB D S (fun vs H Q E h => ?_) (fun f cdv A outer s H vs Q E hr h => ?_)
  · obtain ⟨i, rfl, _⟩ := h
    rfl
  obtain ⟨i, rfl, q⟩ := h
  refine ⟨_, pss_one (ps_ret (pe_and (t_isi K B (pa_cons (pv 0) (pa_cons (t_ty B.int PyProof.Rows.boot_int) pa_nil))) (pe_one (pe_not (t_isi K B (pa_cons (pv 0) (pa_cons (t_ty B.bool PyProof.Rows.boot_bool) pa_nil))))))), ?_⟩
  refine ⟨_, rfl, _, _, _, _, true, rfl, .ty _, .base (.int i), kit_ty (by decide +kernel), true, rfl, ?_⟩
  exact iteT ⟨_, rfl, _, _, _, _, false, rfl, .ty _, .base (.int i), kit_ty (by decide +kernel), false, rfl, q⟩
def sp_is_integer_from : Sp := fun vs H Q _ => ∃ i lo hi : Int, vs = [.int i, .int lo, .int hi] ∧ Q (.bl (decide (lo ≤ i) && decide (i ≤ hi))) H
theorem c_is_integer_from (B : Blt mg) (D : DefB K mg "is_integer_from" s_is_integer_from ["value", "least", "most"]) (C1 : C8.Cal P w K mg base 1 "is_integer" sp_is_integer []) : C8.Cal P w K mg base 2 "is_integer_from" sp_is_integer_from [] := by
  have S : C8.scC ["value", "least", "most"] ["value", "least", "most"] (C8.fnScope s_is_integer_from) = true := by decide +kernel
  refine calB D S (fun vs H Q E h => ?_) (fun f cdv A outer s H vs Q E hr h => ?_)
  · obtain ⟨i, lo, hi, rfl, _⟩ := h
    rfl
  obtain ⟨i, lo, hi, rfl, q⟩ := h
  refine ⟨_, pss_one (ps_ret (pe_and (C8.pe_c C1 hr (by decide) rfl (pa_cons (pv 0) pa_nil)) (pe_one (pe_chain op_le op_le (pv 1) (pv 0) (pv 2))))), ?_⟩
  refine ⟨_, rfl, i, rfl, true, rfl, iteT ?_⟩
  refine ⟨_, rfl, _, rfl, _, _, rfl, rfl, _, rfl, ?_⟩
  refine ite2 (fun h1 => ?_) (fun h1 => ?_)
  · refine ⟨_, rfl, _, _, rfl, rfl, ?_⟩
    rw [h1, Bool.true_and] at q
    exact q
  · rw [show decide (lo ≤ i) = false by simpa using h1, Bool.false_and] at q
    exact q
def sp_is_tick : Sp := fun vs H Q _ => ∃ i : Int, vs = [.int i] ∧ Q (.bl (decide (0 ≤ i) && decide (i ≤ 99999))) H
end
end G

/-! D2 -/
namespace G
open PySem PySem.Spec PyProof.Rows L2
abbrev abc : Str := "abcdefghijklmnopqrstuvwxyz"
def nameOk (z : Str) : Bool := decide (1 ≤ (z.length : Int)) && (decide ((z.length : Int) ≤ 6) && z.cps.toList.all fun c => decide (c ∈ abc.cps.toList))
def fracOk (a b : Int) : Bool := decide (1 ≤ b) && decide (Nat.gcd a.natAbs b.natAbs = 1)
section
variable {P : Program} {w : World} {K : PySem.W.Frag} {mg : Str → Option Value} {base : Heap}
def sp_is_pair : Sp := fun vs H Q _ => ∃ t xs, vs = [.ref t] ∧ H t = some (.tup xs) ∧ Q (.bl (decide ((xs.length : Int) = 2))) H
theorem c_is_pair (B : Blt mg) (D : DefB K mg "is_pair" s_is_pair ["value"]) : C8.Cal P w K mg base 1 "is_pair" sp_is_pair [] := by
  have S : C8.scC ["value"] ["value"] (C8.fnScope s_is_pair) = true := by decide +kernel
  refine calB D S (fun vs H Q E h => ?_) (fun f cdv A outer s H vs Q E hr h => ?_)
  · obtain ⟨t, xs, rfl, _⟩ := h
    rfl
  obtain ⟨t, xs, rfl, ht, q⟩ := h
  refine ⟨_, pss_one (ps_ret (pe_and (t_isi K B (pa_cons (pv 0) (pa_cons (t_ty B.tup PyProof.Rows.boot_tuple) pa_nil))) (pe_one (pe_cmpR op_eq (t_len K B (pa_cons (pv 0) pa_nil)) pe_int (nomark _))))), ?_⟩
  refine ⟨_, rfl, _, _, _, _, true, rfl, .ty _, .base (.tup ht), kit_ty (by decide +kernel), true, rfl, ?_⟩
  refine iteT ⟨_, rfl, _, _, rfl, .inr (SqT.of ht), rfl, ?_⟩
  have e : decide (V.int (xs.length : Nat) = V.int 2) = decide ((xs.length : Int) = 2) := by simp
  rw [e]
  exact q
def sp_is_fraction : Sp := fun vs H Q _ => ∃ t a b, vs = [.ref t] ∧ H t = some (.tup [.int a, .int b]) ∧ Q (.bl (fracOk a b)) H
theorem c_is_fraction (B : Blt mg) (D : DefB K mg "is_fraction" s_is_fraction ["value"]) (C1 : C8.Cal P w K mg base 1 "is_pair" sp_is_pair []) (C2 : C8.Cal P w K mg base 1 "is_integer" sp_is_integer []) : C8.Cal P w K mg base 2 "is_fraction" sp_is_fraction [] := by
  have S : C8.scC ["value"] ["value"] (C8.fnScope s_is_fraction) = true := by decide +kernel
  refine calB D S (fun vs H Q E h => ?_) (fun f cdv A outer s H vs Q E hr h => ?_)
  · obtain ⟨t, a, b, rfl, _⟩ := h
    rfl
  obtain ⟨t, a, b, rfl, ht, q⟩ := h
  refine ⟨_, pss_cons (ps_if (PW.pt (pw_or (pt_not (pt_val (C8.pe_c C1 hr (by decide) rfl (pa_cons (pv 0) pa_nil)))) (pw_or (pt_not (pt_val (C8.pe_c C2 hr (by decide) rfl (pa_cons (t_it K (pv 0) pe_int) pa_nil)))) (pw_or1 (pt_not (pt_val (C8.pe_c C2 hr (by decide) rfl (pa_cons (t_it K (pv 0) pe_int) pa_nil)))))))) (pss_one (ps_ret pe_bl)) pss_nil)
    (pss_one (ps_ret (pe_and (pe_cmpR op_ge (t_it K (pv 0) pe_int) pe_int (nomark _)) (pe_one (pe_cmpR op_eq (t_gcd B (pa_cons (t_it K (pv 0) pe_int) (pa_cons (t_it K (pv 0) pe_int) pa_nil))) pe_int (nomark _)))))), ?_⟩
  refine ⟨_, rfl, t, _, rfl, ht, true, rfl, iteF ?_⟩
  refine ⟨_, rfl, t, _, 0, _, rfl, rfl, SqT.of ht, atI_0 (n := 0) rfl, a, rfl, true, rfl, iteF ?_⟩
  refine ⟨_, rfl, t, _, 1, _, rfl, rfl, SqT.of ht, atI_0 (n := 1) rfl, b, rfl, true, rfl, iteF ?_⟩
  refine ⟨_, rfl, t, _, 1, _, rfl, rfl, SqT.of ht, atI_0 (n := 1) rfl, _, _, rfl, rfl, _, rfl, ?_⟩
  unfold fracOk at q
  refine ite2 (fun h1 => ?_) (fun h1 => ?_)
  · refine ⟨_, rfl, t, _, 0, _, rfl, rfl, SqT.of ht, atI_0 (n := 0) rfl, _, rfl, t, _, 1, _, rfl, rfl, SqT.of ht, atI_0 (n := 1) rfl, _, _, rfl, rfl, ?_⟩
    have e : decide (V.int ((Nat.gcd a.natAbs b.natAbs : Nat) : Int) = V.int 1) = decide (Nat.gcd a.natAbs b.natAbs = 1) := by
      apply decide_eq_decide.mpr
      constructor
      · intro z; injection z with z; omega
      · intro z; rw [z]; rfl
    rw [e]
    rw [h1, Bool.true_and] at q
    exact q
  · rw [show decide (1 ≤ b) = false by simpa using h1, Bool.false_and] at q
    exact q
/-- a stretch that a line may tell -/
def strOk (a b c d : Int) : Bool := fracOk a b && fracOk c d && decide (0 < a) && decide (a ≤ b) && decide (d ≤ c) && decide (c ≤ 99 * d)
def sp_is_stretch : Sp := fun vs H Q _ => ∃ t u a b c d, vs = [.ref t, .ref u] ∧ H t = some (.tup [.int a, .int b]) ∧ H u = some (.tup [.int c, .int d]) ∧ strOk a b c d = true ∧ a < 2 ^ 60 ∧ c < 2 ^ 60 ∧ ∀ H', Same H H' → Q (.bl true) H'
theorem c_is_stretch (B : Blt mg) (D : DefB K mg "is_stretch" s_is_stretch ["p", "q"]) (C1 : C8.Cal P w K mg base 2 "is_fraction" sp_is_fraction []) (C2 : C8.Cal P w K mg base 1 "is_at_most" (sp_is_at_most K) []) : C8.Cal P w K mg base 3 "is_stretch" sp_is_stretch [] := by
  have S : C8.scC ["p", "q"] ["p", "q"] (C8.fnScope s_is_stretch) = true := by decide +kernel
  refine calB D S (fun vs H Q E h => ?_) (fun f cdv A outer s H vs Q E hr h => ?_)
  · obtain ⟨t, u, a, b, c, d, rfl, _⟩ := h
    rfl
  obtain ⟨t, u, a, b, c, d, rfl, ht, hu, ok, ha, hc, q⟩ := h
  refine ⟨_, pss_cons (ps_if (PW.pt (pw_or (pt_not (pt_val (C8.pe_c C1 hr (by decide) rfl (pa_cons (pv 0) pa_nil)))) (pw_or1 (pt_not (pt_val (C8.pe_c C1 hr (by decide) rfl (pa_cons (pv 1) pa_nil))))))) (pss_one (ps_ret pe_bl)) pss_nil)
    (pss_one (ps_ret (pe_and (pe_cmpR op_gt (t_it K (pv 0) pe_int) pe_int (nomark _)) (pe_and (C8.pe_c C2 hr (by decide) rfl (pa_cons (pv 0) (pa_cons (pe_tup (pa_cons pe_int (pa_cons pe_int pa_nil))) pa_nil)))
      (pe_and (C8.pe_c C2 hr (by decide) rfl (pa_cons (pe_tup (pa_cons pe_int (pa_cons pe_int pa_nil))) (pa_cons (pv 1) pa_nil))) (pe_one (C8.pe_c C2 hr (by decide) rfl (pa_cons (pv 1) (pa_cons (pe_tup (pa_cons pe_int (pa_cons pe_int pa_nil))) pa_nil))))))))), ?_⟩
  unfold strOk at ok
  simp only [Bool.and_eq_true, decide_eq_true_eq] at ok
  obtain ⟨⟨⟨⟨⟨f1, f2⟩, h1⟩, h2⟩, h3⟩, h4⟩ := ok
  have b1 : 1 ≤ b := by unfold fracOk at f1; simp only [Bool.and_eq_true, decide_eq_true_eq] at f1; exact f1.1
  have d1 : 1 ≤ d := by unfold fracOk at f2; simp only [Bool.and_eq_true, decide_eq_true_eq] at f2; exact f2.1
  refine ⟨_, rfl, t, a, b, rfl, ht, ?_⟩
  rw [f1]
  refine ⟨true, rfl, iteF ⟨_, rfl, u, c, d, rfl, hu, ?_⟩⟩
  rw [f2]
  refine ⟨true, rfl, iteF ?_⟩
  refine ⟨_, rfl, t, _, 0, _, rfl, rfl, SqT.of ht, atI_0 (n := 0) rfl, _, _, rfl, rfl, _, rfl, ?_⟩
  rw [show decide ((0 : Int) < a) = true from decide_eq_true h1]
  refine iteT ⟨_, rfl, (by show 2 ≤ sizeLine; decide), fun p1 hp1 => ?_⟩
  have s1 : Same H (upd H p1 (.tup [.int 1, .int 1])) := same_new hp1
  refine ⟨t, p1, a, b, 1, 1, rfl, SqT.of (s1 _ _ ht), SqT.of upd_same, ⟨by omega, by omega⟩, ⟨by omega, by omega⟩, _, rfl, ?_⟩
  rw [show decide (a * 1 ≤ 1 * b) = true from decide_eq_true (by omega)]
  refine iteT ⟨(by show 2 ≤ sizeLine; decide), fun p2 hp2 => ?_⟩
  have s2 : Same H (upd (upd H p1 (.tup [.int 1, .int 1])) p2 (.tup [.int 1, .int 1])) := same_upd s1 hp2
  refine ⟨_, rfl, p2, u, 1, 1, c, d, rfl, SqT.of upd_same, SqT.of (s2 _ _ hu), ⟨by omega, by omega⟩, ⟨by omega, by omega⟩, _, rfl, ?_⟩
  rw [show decide (1 * d ≤ c * 1) = true from decide_eq_true (by omega)]
  refine iteT ⟨_, rfl, (by show 2 ≤ sizeLine; decide), fun p3 hp3 => ?_⟩
  have s3 := same_upd (o := .tup [.int 99, .int 1]) s2 hp3
  refine ⟨u, p3, c, d, 99, 1, rfl, SqT.of (s3 _ _ hu), SqT.of upd_same, ⟨by omega, by omega⟩, ⟨by omega, by omega⟩, ?_⟩
  rw [show decide (c * 1 ≤ 99 * d) = true from decide_eq_true (by omega)]
  exact q _ s3
def sp_is_name : Sp := fun vs H Q _ => ∃ z : Str, vs = [.str z] ∧ z.length ≤ 1000 ∧ ∀ H', Same H H' → Q (.bl (nameOk z)) H'
theorem c_is_name (B : Blt mg) (L : ∃ u, mg "LETTERS" = some u ∧ RelV (.str abc) u) (D : DefB K mg "is_name" s_is_name ["value"]) : C8.Cal P w K mg base 1 "is_name" sp_is_name [] := by
  have S : C8.scC ["value", "sign"] ["value"] (C8.fnScope s_is_name) = true := by decide +kernel
  have nd := (C8.fnScope_by S).nd
  refine calB D S (fun vs H Q E h => ?_) (fun f cdv A outer s H vs Q E hr h => ?_)
  · obtain ⟨z, rfl, _⟩ := h
    rfl
  obtain ⟨z, rfl, hz, q⟩ := h
  refine ⟨_, pss_cons (ps_if (PW.pt (pw_or (pt_not (pt_val (t_isi K B (pa_cons (pv 0) (pa_cons (t_ty B.str PyProof.Rows.boot_str) pa_nil))))) (pw_or1 (pt_not (pt_chain op_le op_le pe_int (t_lenS B (pa_cons (pv 0) pa_nil)) pe_int))))) (pss_one (ps_ret pe_bl)) pss_nil)
    (pss_one (ps_ret (t_all K rfl B (pa_cons (pe_lc (own := [("sign", 1)]) (g := gName 1) (tt := tYes) rfl nd (pi_str (pv 0)) (blkOk_by (N := ["value", "sign"]) (sc := C8.fnScope s_is_name) (by decide +kernel)) (fun _ _ _ _ _ => pg_name (i := 1) nd rfl (.inl rfl)) (fun _ _ _ _ _ => pts_nil)
      (fun _ _ _ _ _ => pe_cmpR op_in_sign (pv 1) (C8.pe_gc rfl L) rfl)) pa_nil)))), ?_⟩
  refine ⟨_, rfl, _, _, _, _, true, rfl, .ty _, .base (.str z), kit_ty (by decide +kernel), true, rfl, iteF ?_⟩
  unfold nameOk at q
  have small : z.length ≤ sizeLine := Nat.le_trans hz (by decide)
  refine ⟨_, rfl, z, rfl, small, _, _, rfl, rfl, _, rfl, ?_⟩
  refine ite2 (fun h1 => ?_) (fun h1 => ?_)
  · rw [h1, Bool.true_and] at q
    refine ⟨_, _, rfl, rfl, _, rfl, ?_⟩
    refine ite2 (fun h2 => ?_) (fun h2 => ?_)
    · have h3 : decide ((z.length : Int) ≤ 6) = false := by simpa using h2
      rw [h3, Bool.false_and] at q
      exact q H (Same.refl H)
    · have h3 : decide ((z.length : Int) ≤ 6) = true := by simpa using h2
      rw [h3, Bool.true_and] at q
      refine ⟨_, rfl, z, rfl, fun Dd hD => ?_⟩
      refine lc_fm walk_str (fun i => (z.cps.toList[i]?).map fun c => .bl (decide (c ∈ abc.cps.toList))) (by show z.length ≤ 100000; omega) hD (fun _ _ => trivial) ?_ ?_
      · rintro i x H3 H2 Kk Kn hi s2 ⟨rfl, c, hc, rfl⟩ k1 k2
        refine ⟨rfl, yes_if ⟨_, rfl, c, abc, rfl, rfl, k1 _ _ ?_ (Same.refl _)⟩⟩
        rw [Array.getElem?_toList, hc]
        rfl
      · intro H2 s2 hl
        have e : (List.range z.cps.size).filterMap (fun i => (z.cps.toList[i]?).map fun c => V.bl (decide (c ∈ abc.cps.toList))) = (z.cps.toList.map fun c => decide (c ∈ abc.cps.toList)).map V.bl := by
          rw [← Array.length_toList, range_map, List.map_map]
          rfl
        rw [e] at hl
        refine ⟨Dd, _, rfl, SqL.of hl, ?_⟩
        rw [List.all_map]
        exact q H2 s2
  · have h3 : decide (1 ≤ (z.length : Int)) = false := by simpa using h1
    rw [h3, Bool.false_and] at q
    exact ⟨false, rfl, iteT (q H (Same.refl H))⟩
end
end G

/-! D3 -/
namespace G
open PySem PySem.Spec PyProof.Rows L2
abbrev numS (n : Nat) : Str := Str.ofString (toString ((n : Nat) : Int))
theorem numS_S (n : Nat) : numS n = SX.S (TL.numL n) := SX.num_S n
theorem numS_inj {m n : Nat} (h : numS m = numS n) : m = n := by
  rw [numS_S, numS_S] at h
  exact TL.numL_inj (SX.S_inj h)
theorem numS_len {n : Nat} (h : n < 1000000000) : (numS n).length ≤ 9 := by
  rw [numS_S, SX.S_len]
  exact TL.numL_len (by decide) (by omega)
section
variable {P : Program} {w : World} {K : PySem.W.Frag} {mg : Str → Option Value} {base : Heap}
def sp_read_integer : Sp := fun vs H Q _ => ∃ n : Nat, vs = [.str (numS n)] ∧ n < 1000000000 ∧ Q (.int n) H
theorem c_read_integer (B : Blt mg) (D : DefB K mg "read_integer" s_read_integer ["word"]) : C8.Cal P w K mg base 1 "read_integer" sp_read_integer [] := by
  have S : C8.scC ["word", "number"] ["word"] (C8.fnScope s_read_integer) = true := by decide +kernel
  have nd := (C8.fnScope_by S).nd
  refine calB D S (fun vs H Q E h => ?_) (fun f cdv A outer s H vs Q E hr h => ?_)
  · obtain ⟨n, rfl, _⟩ := h
    rfl
  obtain ⟨n, rfl, hn, q⟩ := h
  have hl := numS_len hn
  refine ⟨_, pss_cons (ps_try_thru0 (pss_one (ps_set (i := 1) nd rfl (.inl rfl) (pe_callTy call_int_str (by rfl) B.int PyProof.Rows.boot_int (pa_cons (pv 0) pa_nil)))))
    (pss_one (ps_ret (pe_ifExp (pt_cmpR op_eq (pe_callTy call_str_int (by rfl) B.str PyProof.Rows.boot_str (pa_cons (pv 1) pa_nil)) (pv 0) (nomark _)) (pv 1) pe_non))), ?_⟩
  have e1 : PySem.intText? (numS n) = some (n : Int) := TL.int_num (by
    have := hl
    rw [numS_S, SX.S_len] at this
    omega)
  refine ⟨_, rfl, _, (n : Int), rfl, e1, by omega, ?_⟩
  refine ⟨_, rfl, _, rfl, ?_, _, rfl, rfl, ?_⟩
  · have h2 : (n : Int).natAbs < 2 ^ 30 := by omega
    exact Nat.lt_of_lt_of_le (PySem.Flt.log2_lt_of (by decide) h2) (by decide)
  · refine ⟨true, ?_, iteT ?_⟩
    · show V.bl (decide (V.str (numS n) = V.str (numS n))) = V.bl true
      simp
    · exact ⟨_, rfl, q⟩
/-- the word of a fraction: a, or a/b -/
def fracWord (z : Str) (a b : Nat) : Prop := (z = numS a ∧ b = 1) ∨ (z = SX.S (TL.numL a ++ (47 :: [] ++ TL.numL b)) ∧ b ≠ 1)
def sp_read_fraction : Sp := fun vs H Q _ => ∃ (z : Str) (a b : Nat), vs = [.str z] ∧ fracWord z a b ∧ a < 1000000000 ∧ b < 1000000000 ∧ fracOk a b = true ∧ ∀ H' t, Same H H' → H' t = some (.tup [.int a, .int b]) → Q (.ref t) H'
theorem c_read_fraction (B : Blt mg) (D : DefB K mg "read_fraction" s_read_fraction ["word"]) (C1 : C8.Cal P w K mg base 1 "read_integer" sp_read_integer []) (C2 : C8.Cal P w K mg base 2 "is_fraction" sp_is_fraction []) : C8.Cal P w K mg base 3 "read_fraction" sp_read_fraction [] := by
  have S : C8.scC ["word", "top", "bar", "bottom", "value"] ["word"] (C8.fnScope s_read_fraction) = true := by decide +kernel
  have nd := (C8.fnScope_by S).nd
  refine calB D S (fun vs H Q E h => ?_) (fun f cdv A outer s H vs Q E hr h => ?_)
  · obtain ⟨z, a, b, rfl, _⟩ := h
    rfl
  obtain ⟨z, a, b, rfl, hz, ha, hb, ok, q⟩ := h
  refine ⟨_, pss_cons (ps_asg (pe_partition (pv 0) pe_str) (pg_tup rfl (pgs_cons (pg_name (i := 1) nd rfl (.inl rfl)) (pgs_cons (pg_name (i := 2) nd rfl (.inl rfl)) (pgs_cons (pg_name (i := 3) nd rfl (.inl rfl)) pgs_nil)))))
    (pss_cons (ps_if (pt_cmpR op_eq (pv 3) pe_str (nomark _)) (pss_one (ps_ret pe_non)) pss_nil)
    (pss_cons (ps_set (i := 4) nd rfl (.inl rfl) (pe_tup (pa_cons (C8.pe_c C1 hr (by decide) rfl (pa_cons (pv 1) pa_nil)) (pa_cons (pe_ifExp (pt_truth (pv 2) (by intro _; rfl)) (C8.pe_c C1 hr (by decide) rfl (pa_cons (pv 3) pa_nil)) pe_int) pa_nil))))
    (pss_one (ps_ret (pe_ifExp (pt_val (C8.pe_c C2 hr (by decide) rfl (pa_cons (pv 4) pa_nil))) (pv 4) pe_non))))), ?_⟩
  have l47 : ("/" : Str) = SX.S (47 :: []) := by decide +kernel
  have la := numS_len ha
  have lb := numS_len hb
  rw [numS_S, SX.S_len] at la lb
  have zl : z.length ≤ 30 := by
    rcases hz with ⟨rfl, _⟩ | ⟨rfl, _⟩
    · rw [numS_S, SX.S_len]; omega
    · rw [SX.S_len]; simp; omega
  have slash : (47 : Nat) ∉ TL.numL a := TL.numL_free (.inl (by decide))
  refine ⟨_, rfl, ⟨_, rfl⟩, _, _, rfl, rfl, (by decide +kernel), Nat.le_trans zl (by decide), fun p hp => ?_⟩
  have s1 := same_new (o := .tup [.str (Txt.partition z "/").1, .str (Txt.partition z "/").2.1, .str (Txt.partition z "/").2.2]) hp
  refine ⟨p, _, rfl, SqT.of upd_same, rfl, ?_⟩
  rcases hz with ⟨rfl, rfl⟩ | ⟨rfl, hb1⟩
  · have e : Txt.partition (numS a) "/" = (numS a, SX.S [], SX.S []) := by
      rw [l47, numS_S]
      exact SX.partition_none (by simp) (SX.par_head_none slash)
    rw [e] at s1 ⊢
    refine ⟨_, _, rfl, _, _, rfl, _, _, rfl, rfl, ?_⟩
    refine ⟨_, rfl, rfl, _, rfl, ?_⟩
    have ne : decide (V.str (SX.S []) = V.str "1") = false := by decide +kernel
    show if decide (V.str (SX.S []) = V.str "1") = true then _ else _
    rw [ne]
    refine iteF ⟨_, rfl, a, rfl, ha, _, rfl, false, ⟨by show (SX.S []).length ≤ sizeLine; decide, by show false = (((SX.S []).length : Int) != 0); decide⟩, iteF ⟨by show 2 ≤ sizeLine; decide, fun t ht => ?_⟩⟩
    refine ⟨_, rfl, t, a, 1, rfl, upd_same, ?_⟩
    have ok' : fracOk (a : Int) 1 = true := ok
    rw [ok']
    exact ⟨true, rfl, iteT ⟨_, rfl, q _ t (same_upd s1 ht) upd_same⟩⟩
  · have e : Txt.partition (SX.S (TL.numL a ++ (47 :: [] ++ TL.numL b))) "/" = (numS a, SX.S [47], numS b) := by
      rw [l47, numS_S, numS_S]
      exact SX.partition_some (by simp) (SX.par_head _ slash)
    rw [e] at s1 ⊢
    refine ⟨_, _, rfl, _, _, rfl, _, _, rfl, rfl, ?_⟩
    refine ⟨_, rfl, rfl, _, rfl, ?_⟩
    have one : ("1" : Str) = numS 1 := by decide +kernel
    have ne : decide (V.str (numS b) = V.str "1") = false := by
      refine decide_eq_false fun z => ?_
      injection z with z
      rw [one] at z
      exact hb1 (numS_inj z)
    show if decide (V.str (numS b) = V.str "1") = true then _ else _
    rw [ne]
    refine iteF ⟨_, rfl, a, rfl, ha, _, rfl, true, ⟨by show (SX.S [47]).length ≤ sizeLine; decide, by show true = (((SX.S [47]).length : Int) != 0); decide⟩, iteT ⟨_, rfl, b, rfl, hb, by show 2 ≤ sizeLine; decide, fun t ht => ?_⟩⟩
    refine ⟨_, rfl, t, a, b, rfl, upd_same, ?_⟩
    rw [ok]
    exact ⟨true, rfl, iteT ⟨_, rfl, q _ t (same_upd s1 ht) upd_same⟩⟩
end
end G

/-! D4 -/
namespace G
open PySem PySem.Spec PyProof.Rows L2
/-- the tuples (name, ticks) at ts -/
abbrev PairsAt (H : Hp) : List Addr → List (Str × Int) → Prop := Paired fun (t : Addr) (c : Str × Int) => H t = some (.tup [.str c.1, .int c.2])
theorem PairsAt.stay {H H' : Hp} {ts : List Addr} {cs : List (Str × Int)} (s : TupStay H H') (h : PairsAt H ts cs) : PairsAt H' ts cs := Paired.mapP h fun _ _ z => s _ _ z
theorem paired_at {α β : Type} {F : α → β → Prop} : ∀ {xs : List α} {ys : List β}, Paired F xs ys → ∀ {i : Nat} {x : α}, xs[i]? = some x → ∃ y, ys[i]? = some y ∧ F x y
  | _, _, .nil, i, x, h => by cases h
  | _, _, .cons r t, 0, x, h => by
    have e := Option.some.inj h
    subst e
    exact ⟨_, rfl, r⟩
  | _, _, .cons r t, i + 1, x, h => paired_at t h
theorem map_get_ref {ts : List Addr} {i : Nat} {x : V} (h : (ts.map V.ref)[i]? = some x) : ∃ t, ts[i]? = some t ∧ x = .ref t := by
  rw [List.getElem?_map] at h
  cases e : ts[i]? with
  | none => rw [e] at h; cases h
  | some t => rw [e] at h; exact ⟨t, rfl, (Option.some.inj h).symm⟩
def stepOk (c : Str × Int) : Bool := nameOk c.1 && (decide (1 ≤ c.2) && decide (c.2 ≤ 999))
def courseForm (cs : List (Str × Int)) : Bool := decide (1 ≤ (cs.length : Int)) && (decide ((cs.length : Int) ≤ 24) && cs.all stepOk)
section
variable {P : Program} {w : World} {K : PySem.W.Frag} {mg : Str → Option Value} {base : Heap}
def sp_is_course_form : Sp := fun vs H Q _ => ∃ t ts cs, vs = [.ref t] ∧ H t = some (.tup (ts.map V.ref)) ∧ PairsAt H ts cs ∧ (∀ c ∈ cs, c.1.length ≤ 1000) ∧ cs.length ≤ 1000 ∧ ∀ H', Same H H' → Q (.bl (courseForm cs)) H'
/-- the lengths and the owners, as a court holds them -/
abbrev lenT (ln : List ((Str × Str) × Int)) : List (List L2.Key × V) := ln.map fun q => ([.inr q.1.1, .inr q.1.2], .int q.2)
abbrev strT (ow : List (Str × Str)) : List (L2.Key × V) := ow.map fun q => (.inr q.1, .str q.2)
def courseOk (ln : List ((Str × Str) × Int)) (ow : List (Str × Str)) : Str → List (Str × Int) → Bool
  | p, [] => (ow.lookup p).isSome
  | p, (e, n) :: r => match ln.lookup (p, e) with
    | none => false
    | some m => decide (m ≤ n) && courseOk ln ow e r
end
end G

/-! D5 -/
namespace G
open PySem PySem.Spec PyProof.Rows L2
/-! what a court is to a run: lengths, owners, starts -/
structure CourtD where
  ln : List ((Str × Str) × Int)
  ow : List (Str × Str)
  st : List (Str × Str)
/-- a class of the text whose objects have these fields -/
structure ClsF (K : PySem.W.Frag) (C : Addr) (fs : List Str) : Prop where
  cl : Cls K C
  no : ∀ f ∈ fs, NoAttr K C f
abbrev courtFs : List Str := ["text", "stretch", "places", "ways", "players", "delays", "balls", "rooms", "owners", "starts", "told_delays", "lengths", "distances"]
structure CourtAt (H : Hp) (CC c : Addr) (cd : CourtD) : Prop where
  ex : ∃ (dx L O S : Addr) (fs : List (Str × V)), H c = some (.ins CC dx fs) ∧ fs.lookup ("lengths" : Str) = some (.ref L) ∧ H L = some (.dT (lenT cd.ln)) ∧ fs.lookup ("owners" : Str) = some (.ref O) ∧ H O = some (.dK (strT cd.ow)) ∧
    fs.lookup ("starts" : Str) = some (.ref S) ∧ H S = some (.dK (strT cd.st))
theorem CourtAt.stay {H H' : Hp} {CC c : Addr} {cd : CourtD} (h : CourtAt H CC c cd) (s : Same H H') : CourtAt H' CC c cd := by
  obtain ⟨dx, L, O, S, fs, h1, h2, h3, h4, h5, h6, h7⟩ := h.ex
  exact ⟨dx, L, O, S, fs, s _ _ h1, h2, s _ _ h3, h4, s _ _ h5, h6, s _ _ h7⟩
theorem valV_lenT (ln : List ((Str × Str) × Int)) (a b : Str) : valV (lenT ln) [.inr a, .inr b] = (ln.lookup (a, b)).map V.int := by
  induction ln with
  | nil => rfl
  | cons q r ih =>
    obtain ⟨⟨x, y⟩, n⟩ := q
    have hd : lenT (((x, y), n) :: r) = ([.inr x, .inr y], V.int n) :: lenT r := rfl
    by_cases e : x = a ∧ y = b
    · obtain ⟨rfl, rfl⟩ := e
      rw [hd, valV_pos rfl, List.lookup_cons]
      simp
    · have n1 : ¬ ([.inr x, .inr y] : List L2.Key) = [.inr a, .inr b] := fun z => e (by simpa using z)
      have n2 : ((a, b) == (x, y)) = false := by
        rw [beq_eq_false_iff_ne]
        intro z
        exact e ⟨(congrArg Prod.fst z).symm, (congrArg Prod.snd z).symm⟩
      rw [hd, valV_neg n1, ih, List.lookup_cons, n2]
theorem valV_strT (ow : List (Str × Str)) (a : Str) : valV (strT ow) (.inr a) = (ow.lookup a).map V.str := by
  induction ow with
  | nil => rfl
  | cons q r ih =>
    obtain ⟨x, y⟩ := q
    have hd : strT ((x, y) :: r) = (.inr x, V.str y) :: strT r := rfl
    by_cases e : x = a
    · subst e
      rw [hd, valV_pos rfl, List.lookup_cons]
      simp
    · have n1 : ¬ (Sum.inr x : L2.Key) = .inr a := fun z => e (Sum.inr.inj z)
      have n2 : (a == x) = false := beq_eq_false_iff_ne.mpr fun z => e z.symm
      rw [hd, valV_neg n1, ih, List.lookup_cons, n2]
section
variable {P : Program} {w : World} {K : PySem.W.Frag} {mg : Str → Option Value} {base : Heap}
def sp_is_course (CC : Addr) : Sp := fun vs H Q _ => ∃ c p t ts cs cd, vs = [.ref c, .str p, .ref t] ∧ CourtAt H CC c cd ∧ H t = some (.tup (ts.map V.ref)) ∧ PairsAt H ts cs ∧ (∀ c ∈ cs, c.1.length ≤ 1000) ∧ cs.length ≤ 1000 ∧
  courseForm cs = true ∧ courseOk cd.ln cd.ow p cs = true ∧ ∀ H', Same H H' → Q (.bl true) H'
end
end G

/-! D6 -/
namespace G
open PySem PySem.Spec PyProof.Rows L2
/-- a strike's tuple at s, its course at c -/
structure StrikeAt (H : Hp) (s : Addr) (k : Int) (b : Str) (c : Addr) (cs : List (Str × Int)) : Prop where
  tup : H s = some (.tup [.int k, .str b, .ref c])
  crs : ∃ ts, H c = some (.tup (ts.map V.ref)) ∧ PairsAt H ts cs
theorem StrikeAt.stay {H H' : Hp} {s c : Addr} {k : Int} {b : Str} {cs : List (Str × Int)} (t : TupStay H H') (h : StrikeAt H s k b c cs) : StrikeAt H' s k b c cs := by
  obtain ⟨ts, h1, h2⟩ := h.crs
  exact ⟨t _ _ h.tup, ts, t _ _ h1, h2.stay t⟩
def strikeForm (k : Int) (b : Str) (cs : List (Str × Int)) : Bool := (decide (0 ≤ k) && decide (k ≤ 99999)) && nameOk b && courseForm cs
theorem refs_pairs {H : Hp} : ∀ {ps : List Str} {ns : List Nat} {ys : List V}, ps.length = ns.length → ys.length = ns.length →
    (∀ (i : Nat) (y : V), ys[i]? = some y → ∃ (u : Addr) (p : Str) (n : Nat), y = V.ref u ∧ ps[i]? = some p ∧ ns[i]? = some n ∧ H u = some (HO.tup [V.str p, V.int n])) → ∃ ts : List Addr, ys = ts.map V.ref ∧ PairsAt H ts (ps.zip (ns.map fun n => ((n : Nat) : Int)))
  | [], [], [], _, _, _ => ⟨[], rfl, .nil⟩
  | [], [], _ :: _, _, h, _ => by cases h
  | _ :: _, [], _, h, _, _ => by cases h
  | [], _ :: _, _, h, _, _ => by cases h
  | _ :: _, _ :: _, [], _, h, _ => by cases h
  | p :: ps, n :: ns, y :: ys, h1, h2, h => by
    obtain ⟨ts, e, r⟩ := refs_pairs (ps := ps) (ns := ns) (ys := ys) (by simpa using h1) (by simpa using h2) fun i z hz => by
      obtain ⟨u, p', n', q1, q2, q3, q4⟩ := h (i + 1) z (by simpa using hz)
      exact ⟨u, p', n', q1, by simpa using q2, by simpa using q3, q4⟩
    obtain ⟨u, p', n', q1, q2, q3, q4⟩ := h 0 y rfl
    cases q2
    cases q3
    exact ⟨u :: ts, by rw [q1, e]; rfl, .cons q4 r⟩
section
variable {P : Program} {w : World} {K : PySem.W.Frag} {mg : Str → Option Value} {base : Heap}
def sp_is_strike_form : Sp := fun vs H Q _ => ∃ s k b c cs, vs = [.ref s] ∧ StrikeAt H s k b c cs ∧ strikeForm k b cs = true ∧ b.length ≤ 1000 ∧ (∀ c ∈ cs, c.1.length ≤ 1000) ∧ cs.length ≤ 1000 ∧ ∀ H', Same H H' → Q (.bl true) H'
/-- the strike, read off a line -/
def sp_read_strike : Sp := fun vs H Q _ => ∃ (z b : Str) (k : Nat) (ps : List Str) (ns : List Nat), vs = [.str z] ∧ z.length ≤ 4000 ∧ ps.length = ns.length ∧ ps.length ≤ 1000 ∧
  (∃ ws : List Str, Txt.split z " " = ("strike" : Str) :: numS k :: b :: ws ∧ 1 ≤ ns.length ∧ ws.length = 2 * ns.length ∧ pickV ((("strike" : Str) :: numS k :: b :: ws).map V.str) (some 3) none 2 = ps.map V.str ∧ pickV ((("strike" : Str) :: numS k :: b :: ws).map V.str) (some 4) none 2 = (ns.map numS).map V.str) ∧
  k < 1000000000 ∧ (∀ n ∈ ns, n < 1000000000) ∧ strikeForm k b (ps.zip (ns.map fun n => ((n : Nat) : Int))) = true ∧ b.length ≤ 1000 ∧ (∀ p ∈ ps, p.length ≤ 1000) ∧
  ∀ H' s c, Same H H' → StrikeAt H' s k b c (ps.zip (ns.map fun n => ((n : Nat) : Int))) → Q (.ref s) H'
end
end G

/-! R1 -/
namespace G
open PySem PySem.Spec PyProof.Rows L2
/-! dicts with text keys, by what is true of each value -/
section
variable {α : Type}
def putA (qs : List (Str × α)) (a : Str) (y : α) : List (Str × α) := if (qs.any fun q => decide (q.1 = a)) = true then qs.map (fun q => if q.1 = a then (q.1, y) else q) else qs ++ [(a, y)]
def dropA (qs : List (Str × α)) (a : Str) : List (Str × α) := qs.filter fun q => decide (q.1 ≠ a)
abbrev KR (R : V → α → Prop) : List (L2.Key × V) → List (Str × α) → Prop := Paired fun (kv : L2.Key × V) (q : Str × α) => kv.1 = Sum.inr q.1 ∧ R kv.2 q.2
variable {R R' : V → α → Prop} {kvs : List (L2.Key × V)} {qs : List (Str × α)}
theorem KR.imp (h : KR R kvs qs) (i : ∀ v y, R v y → R' v y) : KR R' kvs qs := Paired.mapP h fun _ _ z => ⟨z.1, i _ _ z.2⟩
theorem KR.none (h : KR R kvs qs) {a : Str} (e : qs.lookup a = none) : valV kvs (.inr a) = none := by
  induction h with
  | nil => rfl
  | @cons p q ps qs' hp t ih =>
    obtain ⟨q1, q2⟩ := q
    rw [List.lookup_cons] at e
    cases hb : a == q1 with
    | true => rw [hb] at e; cases e
    | false =>
      rw [hb] at e
      have n : ¬ p.1 = Sum.inr a := by
        rw [hp.1]
        intro z
        exact (beq_eq_false_iff_ne.mp hb) (Sum.inr.inj z).symm
      rw [valV_neg n]
      exact ih e
theorem KR.some (h : KR R kvs qs) {a : Str} {y : α} (e : qs.lookup a = Option.some y) : ∃ v, valV kvs (.inr a) = Option.some v ∧ R v y := by
  induction h with
  | nil => cases e
  | @cons p q ps qs' hp t ih =>
    obtain ⟨q1, q2⟩ := q
    rw [List.lookup_cons] at e
    cases hb : a == q1 with
    | true =>
      rw [hb] at e
      have ea : a = q1 := eq_of_beq hb
      have n : p.1 = Sum.inr a := by rw [hp.1, ea]
      refine ⟨p.2, valV_pos n, ?_⟩
      cases e
      exact hp.2
    | false =>
      rw [hb] at e
      have n : ¬ p.1 = Sum.inr a := by
        rw [hp.1]
        intro z
        exact (beq_eq_false_iff_ne.mp hb) (Sum.inr.inj z).symm
      rw [valV_neg n]
      exact ih e
theorem KR.isSome (h : KR R kvs qs) (a : Str) : (valV kvs (.inr a)).isSome = (qs.lookup a).isSome := by
  cases e : qs.lookup a with
  | none => rw [h.none e] <;> rfl
  | some y =>
    obtain ⟨v, hv, _⟩ := h.some e
    rw [hv] <;> rfl
theorem KR.put (h : KR R kvs qs) (a : Str) {v : V} {y : α} (r : R v y) : KR R (putK kvs (.inr a) v) (putA qs a y) := by
  have hany : (kvs.any fun kv => decide (kv.1 = Sum.inr a)) = qs.any fun q => decide (q.1 = a) := by
    induction h with
    | nil => rfl
    | @cons p q ps qs' hp t ih =>
      rw [List.any_cons, List.any_cons, ih, hp.1]
      simp
  unfold putK putA
  rw [hany]
  by_cases c : (qs.any fun q => decide (q.1 = a)) = true
  · rw [if_pos c, if_pos c]
    clear c hany
    induction h with
    | nil => exact .nil
    | @cons p q ps qs' hp t ih =>
      rw [List.map_cons, List.map_cons]
      refine .cons ?_ ih
      by_cases e : q.1 = a
      · rw [if_pos e, if_pos (by rw [hp.1, e])]
        exact ⟨hp.1, r⟩
      · rw [if_neg e, if_neg (by rw [hp.1]; intro z; exact e (Sum.inr.inj z))]
        exact hp
  · rw [if_neg c, if_neg c]
    exact Paired.snoc h ⟨rfl, r⟩
theorem KR.drop (h : KR R kvs qs) (a : Str) : KR R (dropK kvs (.inr a)) (dropA qs a) := by
  unfold dropK dropA
  induction h with
  | nil => exact .nil
  | @cons p q ps qs' hp t ih =>
    rw [List.filter_cons, List.filter_cons]
    by_cases e : q.1 = a
    · have e' : p.1 = Sum.inr a := by rw [hp.1, e]
      rw [if_neg (by simp [e']), if_neg (by simp [e])]
      exact ih
    · have e' : ¬ p.1 = Sum.inr a := by rw [hp.1]; intro z; exact e (Sum.inr.inj z)
      rw [if_pos (by simp [e']), if_pos (by simp [e])]
      exact .cons hp ih
theorem KR.length (h : KR R kvs qs) : kvs.length = qs.length := Paired.length h
theorem KR.at (h : KR R kvs qs) {i : Nat} {k : L2.Key} {v : V} (e : kvs[i]? = Option.some (k, v)) : ∃ a y, qs[i]? = Option.some (a, y) ∧ k = Sum.inr a ∧ R v y := by
  obtain ⟨q, h1, h2, h3⟩ := paired_at h e
  exact ⟨q.1, q.2, h1, h2, h3⟩
theorem length_putA (qs : List (Str × α)) (a : Str) (y : α) : (putA qs a y).length ≤ qs.length + 1 := by
  unfold putA
  split
  · rw [List.length_map]; omega
  · rw [List.length_append, List.length_cons, List.length_nil]; omega
end
/-! a run -/
abbrev Leg := Str × Str × Int × Int
structure RunD where
  tick : Int
  places : List (Str × Str)
  left : List (Str × List (Str × Int))
  flights : List (Str × Leg)
  legs : List (Str × List Leg)
  meets : List (Int × Str × List Str)
  strikers : List (Str × Str)
structure RA where
  pl : Addr
  lf : Addr
  fl : Addr
  lg : Addr
  me : Addr
  st : Addr
  ls : List Addr
def CourseAt (H : Hp) (t : Addr) (cs : List (Str × Int)) : Prop := ∃ ts, H t = some (.tup (ts.map V.ref)) ∧ PairsAt H ts cs
theorem CourseAt.stay {H H' : Hp} {t : Addr} {cs : List (Str × Int)} (s : TupStay H H') (h : CourseAt H t cs) : CourseAt H' t cs := by
  obtain ⟨ts, h1, h2⟩ := h
  exact ⟨ts, s _ _ h1, h2.stay s⟩
abbrev LegAt (H : Hp) (t : Addr) (g : Leg) : Prop := H t = some (.tup [.str g.1, .str g.2.1, .int g.2.2.1, .int g.2.2.2])
abbrev LfR (H : Hp) (v : V) (cs : List (Str × Int)) : Prop := ∃ t, v = .ref t ∧ CourseAt H t cs
abbrev FlR (H : Hp) (v : V) (g : Leg) : Prop := ∃ t, v = .ref t ∧ LegAt H t g
abbrev StR (v : V) (y : Str) : Prop := v = .str y
/-- the legs' lists at ls -/
abbrev LgR (H : Hp) : List Addr → List (Str × List Leg) → Prop := Paired fun (l : Addr) (q : Str × List Leg) => ∃ ts, H l = some (.lst (ts.map V.ref)) ∧ Paired (LegAt H) ts q.2
abbrev MeAt (H : Hp) (t : Addr) (m : Int × Str × List Str) : Prop := ∃ u, H t = some (.tup [.int m.1, .str m.2.1, .ref u]) ∧ H u = some (.tup (m.2.2.map V.str))
abbrev SkAt (H : Hp) (t : Addr) (m : Str × Str) : Prop := H t = some (.tup [.str m.1, .str m.2])
def lgT : List (Str × List Leg) → List Addr → List (L2.Key × V)
  | q :: qs, l :: ls => (.inr q.1, .ref l) :: lgT qs ls
  | _, _ => []
abbrev runFs (c : Addr) (k : Int) (A : RA) : List (Str × V) := [("court", .ref c), ("tick", .int k), ("places", .ref A.pl), ("left", .ref A.lf), ("flights", .ref A.fl), ("legs", .ref A.lg), ("meetings", .ref A.me), ("strikers", .ref A.st)]
theorem rf_court {c : Addr} {k : Int} {A : RA} : (runFs c k A).lookup ("court" : Str) = some (.ref c) := by kernel_rfl
theorem rf_tick {c : Addr} {k : Int} {A : RA} : (runFs c k A).lookup ("tick" : Str) = some (.int k) := by kernel_rfl
theorem rf_places {c : Addr} {k : Int} {A : RA} : (runFs c k A).lookup ("places" : Str) = some (.ref A.pl) := by kernel_rfl
theorem rf_left {c : Addr} {k : Int} {A : RA} : (runFs c k A).lookup ("left" : Str) = some (.ref A.lf) := by kernel_rfl
theorem rf_flights {c : Addr} {k : Int} {A : RA} : (runFs c k A).lookup ("flights" : Str) = some (.ref A.fl) := by kernel_rfl
theorem rf_legs {c : Addr} {k : Int} {A : RA} : (runFs c k A).lookup ("legs" : Str) = some (.ref A.lg) := by kernel_rfl
theorem rf_meets {c : Addr} {k : Int} {A : RA} : (runFs c k A).lookup ("meetings" : Str) = some (.ref A.me) := by kernel_rfl
theorem rf_strikers {c : Addr} {k : Int} {A : RA} : (runFs c k A).lookup ("strikers" : Str) = some (.ref A.st) := by kernel_rfl
theorem rf_putTick {c : Addr} {k j : Int} {A : RA} : putF ("tick" : Str) (.int j) (runFs c k A) = runFs c j A := by kernel_rfl
structure RunAt (CR : Addr) (H0 H : Hp) (r c : Addr) (A : RA) (rd : RunD) : Prop where
  s0 : Same H0 H
  ob : ∃ dx, H r = some (.ins CR dx (runFs c rd.tick A))
  pl : ∃ kvs, H A.pl = some (.dK kvs) ∧ KR StR kvs rd.places
  lf : ∃ kvs, H A.lf = some (.dK kvs) ∧ KR (LfR H) kvs rd.left
  fl : ∃ kvs, H A.fl = some (.dK kvs) ∧ KR (FlR H) kvs rd.flights
  lg : H A.lg = some (.dK (lgT rd.legs A.ls)) ∧ LgR H A.ls rd.legs
  me : ∃ ts, H A.me = some (.lst (ts.map V.ref)) ∧ Paired (MeAt H) ts rd.meets
  st : ∃ ts, H A.st = some (.lst (ts.map V.ref)) ∧ Paired (SkAt H) ts rd.strikers
  new : ∀ a ∈ r :: A.pl :: A.lf :: A.fl :: A.lg :: A.me :: A.st :: A.ls, H0 a = none
  kn : (rd.legs.map (·.1)).Nodup
  nd : (r :: A.pl :: A.lf :: A.fl :: A.lg :: A.me :: A.st :: A.ls).Nodup
end G

/-! R2 -/
namespace G
open PySem PySem.Spec PyProof.Rows L2
theorem tups_upd {H : Hp} {a : Addr} {o u : HO} (h : H a = some u) (n : ∀ xs, u ≠ .tup xs) : TupStay H (upd H a o) := fun b zs e => by
  rw [upd_ne (ne_of e h (fun z => n zs z.symm))]
  exact e
theorem LgR.stay {H H' : Hp} : ∀ {ls : List Addr} {qs : List (Str × List Leg)}, (∀ l ∈ ls, H' l = H l) → TupStay H H' → LgR H ls qs → LgR H' ls qs
  | _, _, _, _, .nil => .nil
  | l :: ls, q :: qs, k, s, .cons ⟨ts, h1, h2⟩ t => .cons ⟨ts, by rw [k l List.mem_cons_self]; exact h1, Paired.mapP h2 fun _ _ z => s _ _ z⟩ (LgR.stay (fun x hx => k x (List.mem_cons_of_mem _ hx)) s t)
theorem lg_none {H : Hp} : ∀ {ls : List Addr} {qs : List (Str × List Leg)} {a : Str}, LgR H ls qs → qs.lookup a = none → valV (lgT qs ls) (.inr a) = none
  | _, _, _, .nil, _ => rfl
  | l :: ls, (b, g) :: qs, a, .cons _ t, e => by
    rw [List.lookup_cons] at e
    cases hb : a == b with
    | true => rw [hb] at e; cases e
    | false =>
      rw [hb] at e
      show valV ((Sum.inr b, V.ref l) :: lgT qs ls) (.inr a) = none
      rw [valV_neg (fun z => (beq_eq_false_iff_ne.mp hb) (Sum.inr.inj z).symm)]
      exact lg_none t e
theorem lg_find {H : Hp} : ∀ {ls : List Addr} {qs : List (Str × List Leg)} {a : Str} {g : List Leg}, LgR H ls qs → qs.lookup a = some g →
    ∃ l ts, valV (lgT qs ls) (.inr a) = some (.ref l) ∧ l ∈ ls ∧ H l = some (.lst (ts.map V.ref)) ∧ Paired (LegAt H) ts g
  | _, _, _, _, .nil, e => by cases e
  | l :: ls, (b, g0) :: qs, a, g, .cons ⟨ts, h1, h2⟩ t, e => by
    rw [List.lookup_cons] at e
    cases hb : a == b with
    | true =>
      rw [hb] at e
      cases e
      have ea : a = b := eq_of_beq hb
      subst ea
      exact ⟨l, ts, valV_pos rfl, List.mem_cons_self, h1, h2⟩
    | false =>
      rw [hb] at e
      obtain ⟨l', ts', q1, q2, q3, q4⟩ := lg_find t e
      refine ⟨l', ts', ?_, List.mem_cons_of_mem _ q2, q3, q4⟩
      show valV ((Sum.inr b, V.ref l) :: lgT qs ls) (.inr a) = _
      rw [valV_neg (fun z => (beq_eq_false_iff_ne.mp hb) (Sum.inr.inj z).symm)]
      exact q1
theorem putA_head {α : Type} {a : Str} {g y : α} {qs : List (Str × α)} (h : a ∉ qs.map (·.1)) : putA ((a, g) :: qs) a y = (a, y) :: qs := by
  unfold putA
  rw [if_pos (by simp), List.map_cons, if_pos rfl]
  congr 1
  have : ∀ q ∈ qs, (if q.1 = a then (q.1, y) else q) = q := fun q hq => by
    rw [if_neg]
    intro z
    exact h (z ▸ List.mem_map_of_mem hq)
  rw [List.map_congr_left this, List.map_id']
theorem putA_tail {α : Type} {a b : Str} {g y : α} {qs : List (Str × α)} (h : b ≠ a) : putA ((b, g) :: qs) a y = (b, g) :: putA qs a y := by
  unfold putA
  have e : (((b, g) :: qs).any fun q => decide (q.1 = a)) = qs.any fun q => decide (q.1 = a) := by simp [h]
  rw [e]
  by_cases c : (qs.any fun q => decide (q.1 = a)) = true
  · rw [if_pos c, if_pos c, List.map_cons, if_neg h]
  · rw [if_neg c, if_neg c]
    rfl
/-- a leg more for one of the balls -/
theorem lg_app {H : Hp} {t : Addr} {leg : Leg} : ∀ {ls : List Addr} {qs : List (Str × List Leg)} {a : Str} {g : List Leg} {l : Addr} {ts : List Addr}, LgR H ls qs → ls.Nodup → (qs.map (·.1)).Nodup → qs.lookup a = some g → valV (lgT qs ls) (.inr a) = some (.ref l) → H l = some (.lst (ts.map V.ref)) →
    LegAt H t leg → LgR (upd H l (.lst ((ts ++ [t]).map V.ref))) ls (putA qs a (g ++ [leg])) ∧ lgT (putA qs a (g ++ [leg])) ls = lgT qs ls ∧ (putA qs a (g ++ [leg])).map (·.1) = qs.map (·.1)
  | _, _, _, _, _, _, .nil, _, _, e, _, _, _ => by cases e
  | l0 :: ls, (b, g0) :: qs, a, g, l, ts, .cons ⟨ts0, h1, h2⟩ tl, hn, hk, e, ev, hl, ht => by
    have hn' := List.nodup_cons.mp hn
    have hk' : b ∉ qs.map (·.1) ∧ (qs.map (·.1)).Nodup := List.nodup_cons.mp hk
    have stay : TupStay H (upd H l (.lst ((ts ++ [t]).map V.ref))) := tups_lst hl
    rw [List.lookup_cons] at e
    cases hb : a == b with
    | true =>
      rw [hb] at e
      cases e
      have ea : a = b := eq_of_beq hb
      subst ea
      have el : l0 = l := by
        have q : valV ((Sum.inr a, V.ref l0) :: lgT qs ls) (.inr a) = some (.ref l) := ev
        rw [valV_pos rfl] at q
        injection q with q
        injection q with q
      subst el
      rw [putA_head hk'.1]
      refine ⟨.cons ⟨ts ++ [t], upd_same, ?_⟩ (LgR.stay (fun x hx => upd_ne fun z => hn'.1 (z ▸ hx)) stay tl), rfl, rfl⟩
      have e2 : ts0 = ts := by
        rw [h1] at hl
        injection hl with hl
        injection hl with hl
        have inj : ∀ {xs ys : List Addr}, xs.map V.ref = ys.map V.ref → xs = ys := fun {xs} => by
          induction xs with
          | nil => intro ys h; cases ys with | nil => rfl | cons _ _ => cases h
          | cons x xs ih => intro ys h; cases ys with
            | nil => cases h
            | cons y ys =>
              rw [List.map_cons, List.map_cons] at h
              injection h with p1 p2
              injection p1 with p1
              rw [p1, ih p2]
        exact inj hl
      subst e2
      exact Paired.snoc (Paired.mapP h2 fun _ _ z => stay _ _ z) (stay _ _ ht)
    | false =>
      rw [hb] at e
      have ne : b ≠ a := fun z => (beq_eq_false_iff_ne.mp hb) z.symm
      have ev' : valV (lgT qs ls) (.inr a) = some (.ref l) := by
        have q : valV ((Sum.inr b, V.ref l0) :: lgT qs ls) (.inr a) = some (.ref l) := ev
        rw [valV_neg (fun z => ne (Sum.inr.inj z))] at q
        exact q
      obtain ⟨l', ts', f1, f2, f3, f4⟩ := lg_find tl e
      have ell : l' = l := by rw [ev'] at f1; injection f1 with f1; injection f1 with f1; exact f1.symm
      subst ell
      obtain ⟨i1, i2, i3⟩ := lg_app (t := t) (leg := leg) tl hn'.2 hk'.2 e ev' hl ht
      rw [putA_tail ne]
      refine ⟨.cons ⟨ts0, ?_, Paired.mapP h2 fun _ _ z => stay _ _ z⟩ i1, ?_, ?_⟩
      · rw [upd_ne (show l0 ≠ l' from fun z => hn'.1 (by rw [z]; exact f2))]
        exact h1
      · show (Sum.inr b, V.ref l0) :: lgT (putA qs a (g ++ [leg])) ls = _
        rw [i2]
        rfl
      · rw [List.map_cons, i3]
        rfl
section
variable {CR : Addr} {H0 H H' : Hp} {r c : Addr} {A : RA} {rd : RunD}
theorem RunAt.grow (R : RunAt CR H0 H r c A rd) (s : Same H H') : RunAt CR H0 H' r c A rd := by
  have t := Same.tups s
  obtain ⟨dx, h1⟩ := R.ob
  obtain ⟨k1, a1, b1⟩ := R.pl
  obtain ⟨k2, a2, b2⟩ := R.lf
  obtain ⟨k3, a3, b3⟩ := R.fl
  obtain ⟨a4, b4⟩ := R.lg
  obtain ⟨t5, a5, b5⟩ := R.me
  obtain ⟨t6, a6, b6⟩ := R.st
  have lgs : ∀ {ls : List Addr} {qs : List (Str × List Leg)}, LgR H ls qs → LgR H' ls qs := fun {ls qs} h => Paired.mapP h fun _ _ ⟨ts, q1, q2⟩ => ⟨ts, s _ _ q1, Paired.mapP q2 fun _ _ z => s _ _ z⟩
  exact ⟨R.s0.trans s, ⟨dx, s _ _ h1⟩, ⟨k1, s _ _ a1, b1⟩, ⟨k2, s _ _ a2, b2.imp fun _ _ ⟨x, e, z⟩ => ⟨x, e, z.stay t⟩⟩, ⟨k3, s _ _ a3, b3.imp fun _ _ ⟨x, e, z⟩ => ⟨x, e, s _ _ z⟩⟩, ⟨s _ _ a4, lgs b4⟩,
    ⟨t5, s _ _ a5, Paired.mapP b5 fun _ _ ⟨u, z1, z2⟩ => ⟨u, s _ _ z1, s _ _ z2⟩⟩, ⟨t6, s _ _ a6, Paired.mapP b6 fun _ _ z => s _ _ z⟩, R.new, R.kn, R.nd⟩
/-- one of its own objects is changed, no tuple: the rest is as it was -/
theorem RunAt.own (R : RunAt CR H0 H r c A rd) {a : Addr} {o u : HO} (ha : a ∈ r :: A.pl :: A.lf :: A.fl :: A.lg :: A.me :: A.st :: A.ls) (hu : H a = some u) (n : ∀ xs, u ≠ .tup xs) :
    Same H0 (upd H a o) ∧ TupStay H (upd H a o) ∧ ∀ b ∈ r :: A.pl :: A.lf :: A.fl :: A.lg :: A.me :: A.st :: A.ls, b ≠ a → (upd H a o) b = H b :=
  ⟨fun b v e => by rw [upd_ne (ne_of_none e (R.new a ha))]; exact R.s0 _ _ e, tups_upd hu n, fun b _ hb => upd_ne hb⟩
end
end G

/-! R3 -/
namespace G
open PySem PySem.Spec PyProof.Rows L2
section
variable {CR : Addr} {H0 H H' : Hp} {r c : Addr} {A : RA} {rd : RunD}
theorem RunAt.setTick (R : RunAt CR H0 H r c A rd) {dy : Addr} (k : Int) : RunAt CR H0 (upd H r (.ins CR dy (runFs c k A))) r c A { rd with tick := k } := by
  have nd := R.nd
  obtain ⟨dx, h1⟩ := R.ob
  obtain ⟨k1, a1, b1⟩ := R.pl
  obtain ⟨k2, a2, b2⟩ := R.lf
  obtain ⟨k3, a3, b3⟩ := R.fl
  obtain ⟨a4, b4⟩ := R.lg
  obtain ⟨t5, a5, b5⟩ := R.me
  obtain ⟨t6, a6, b6⟩ := R.st
  obtain ⟨s0, ts, ot⟩ := R.own (a := r) (o := .ins CR dy (runFs c k A)) (by simp) h1 (fun _ z => by cases z)
  exact ⟨s0, ⟨_, upd_same⟩, ⟨k1, (ot _ (by simp) (fun z => by simp [z] at nd)).trans a1, b1⟩, ⟨k2, (ot _ (by simp) (fun z => by simp [z] at nd)).trans a2, b2.imp fun _ _ ⟨x, e, z⟩ => ⟨x, e, z.stay ts⟩⟩, ⟨k3, (ot _ (by simp) (fun z => by simp [z] at nd)).trans a3, b3.imp fun _ _ ⟨x, e, z⟩ => ⟨x, e, ts _ _ z⟩⟩, ⟨(ot _ (by simp) (fun z => by simp [z] at nd)).trans a4, b4.stay (fun l hl => ot l (by simp [hl]) (fun z => by simp [z] at nd <;> simp_all)) ts⟩, ⟨t5, (ot _ (by simp) (fun z => by simp [z] at nd)).trans a5, Paired.mapP b5 fun _ _ ⟨u, z1, z2⟩ => ⟨u, ts _ _ z1, ts _ _ z2⟩⟩, ⟨t6, (ot _ (by simp) (fun z => by simp [z] at nd)).trans a6, Paired.mapP b6 fun _ _ z => ts _ _ z⟩, R.new, R.kn, R.nd⟩

theorem RunAt.setPlaces (R : RunAt CR H0 H r c A rd) {kvs : List (L2.Key × V)} {qs : List (Str × Str)} (k : KR StR kvs qs) : RunAt CR H0 (upd H A.pl (.dK kvs)) r c A { rd with places := qs } := by
  have nd := R.nd
  obtain ⟨dx, h1⟩ := R.ob
  obtain ⟨k1, a1, b1⟩ := R.pl
  obtain ⟨k2, a2, b2⟩ := R.lf
  obtain ⟨k3, a3, b3⟩ := R.fl
  obtain ⟨a4, b4⟩ := R.lg
  obtain ⟨t5, a5, b5⟩ := R.me
  obtain ⟨t6, a6, b6⟩ := R.st
  obtain ⟨s0, ts, ot⟩ := R.own (a := A.pl) (o := .dK kvs) (by simp) a1 (fun _ z => by cases z)
  exact ⟨s0, ⟨dx, (ot _ (by simp) (fun z => by simp [z] at nd)).trans h1⟩, ⟨_, upd_same, k⟩, ⟨k2, (ot _ (by simp) (fun z => by simp [z] at nd)).trans a2, b2.imp fun _ _ ⟨x, e, z⟩ => ⟨x, e, z.stay ts⟩⟩, ⟨k3, (ot _ (by simp) (fun z => by simp [z] at nd)).trans a3, b3.imp fun _ _ ⟨x, e, z⟩ => ⟨x, e, ts _ _ z⟩⟩, ⟨(ot _ (by simp) (fun z => by simp [z] at nd)).trans a4, b4.stay (fun l hl => ot l (by simp [hl]) (fun z => by simp [z] at nd <;> simp_all)) ts⟩, ⟨t5, (ot _ (by simp) (fun z => by simp [z] at nd)).trans a5, Paired.mapP b5 fun _ _ ⟨u, z1, z2⟩ => ⟨u, ts _ _ z1, ts _ _ z2⟩⟩, ⟨t6, (ot _ (by simp) (fun z => by simp [z] at nd)).trans a6, Paired.mapP b6 fun _ _ z => ts _ _ z⟩, R.new, R.kn, R.nd⟩

theorem RunAt.setLeft (R : RunAt CR H0 H r c A rd) {kvs : List (L2.Key × V)} {qs : List (Str × List (Str × Int))} (k : KR (LfR H) kvs qs) : RunAt CR H0 (upd H A.lf (.dK kvs)) r c A { rd with left := qs } := by
  have nd := R.nd
  obtain ⟨dx, h1⟩ := R.ob
  obtain ⟨k1, a1, b1⟩ := R.pl
  obtain ⟨k2, a2, b2⟩ := R.lf
  obtain ⟨k3, a3, b3⟩ := R.fl
  obtain ⟨a4, b4⟩ := R.lg
  obtain ⟨t5, a5, b5⟩ := R.me
  obtain ⟨t6, a6, b6⟩ := R.st
  obtain ⟨s0, ts, ot⟩ := R.own (a := A.lf) (o := .dK kvs) (by simp) a2 (fun _ z => by cases z)
  exact ⟨s0, ⟨dx, (ot _ (by simp) (fun z => by simp [z] at nd)).trans h1⟩, ⟨k1, (ot _ (by simp) (fun z => by simp [z] at nd)).trans a1, b1⟩, ⟨_, upd_same, k.imp fun _ _ ⟨x, e, z⟩ => ⟨x, e, z.stay ts⟩⟩, ⟨k3, (ot _ (by simp) (fun z => by simp [z] at nd)).trans a3, b3.imp fun _ _ ⟨x, e, z⟩ => ⟨x, e, ts _ _ z⟩⟩, ⟨(ot _ (by simp) (fun z => by simp [z] at nd)).trans a4, b4.stay (fun l hl => ot l (by simp [hl]) (fun z => by simp [z] at nd <;> simp_all)) ts⟩, ⟨t5, (ot _ (by simp) (fun z => by simp [z] at nd)).trans a5, Paired.mapP b5 fun _ _ ⟨u, z1, z2⟩ => ⟨u, ts _ _ z1, ts _ _ z2⟩⟩, ⟨t6, (ot _ (by simp) (fun z => by simp [z] at nd)).trans a6, Paired.mapP b6 fun _ _ z => ts _ _ z⟩, R.new, R.kn, R.nd⟩

theorem RunAt.setFlights (R : RunAt CR H0 H r c A rd) {kvs : List (L2.Key × V)} {qs : List (Str × Leg)} (k : KR (FlR H) kvs qs) : RunAt CR H0 (upd H A.fl (.dK kvs)) r c A { rd with flights := qs } := by
  have nd := R.nd
  obtain ⟨dx, h1⟩ := R.ob
  obtain ⟨k1, a1, b1⟩ := R.pl
  obtain ⟨k2, a2, b2⟩ := R.lf
  obtain ⟨k3, a3, b3⟩ := R.fl
  obtain ⟨a4, b4⟩ := R.lg
  obtain ⟨t5, a5, b5⟩ := R.me
  obtain ⟨t6, a6, b6⟩ := R.st
  obtain ⟨s0, ts, ot⟩ := R.own (a := A.fl) (o := .dK kvs) (by simp) a3 (fun _ z => by cases z)
  exact ⟨s0, ⟨dx, (ot _ (by simp) (fun z => by simp [z] at nd)).trans h1⟩, ⟨k1, (ot _ (by simp) (fun z => by simp [z] at nd)).trans a1, b1⟩, ⟨k2, (ot _ (by simp) (fun z => by simp [z] at nd)).trans a2, b2.imp fun _ _ ⟨x, e, z⟩ => ⟨x, e, z.stay ts⟩⟩, ⟨_, upd_same, k.imp fun _ _ ⟨x, e, z⟩ => ⟨x, e, ts _ _ z⟩⟩, ⟨(ot _ (by simp) (fun z => by simp [z] at nd)).trans a4, b4.stay (fun l hl => ot l (by simp [hl]) (fun z => by simp [z] at nd <;> simp_all)) ts⟩, ⟨t5, (ot _ (by simp) (fun z => by simp [z] at nd)).trans a5, Paired.mapP b5 fun _ _ ⟨u, z1, z2⟩ => ⟨u, ts _ _ z1, ts _ _ z2⟩⟩, ⟨t6, (ot _ (by simp) (fun z => by simp [z] at nd)).trans a6, Paired.mapP b6 fun _ _ z => ts _ _ z⟩, R.new, R.kn, R.nd⟩

theorem RunAt.setMeets (R : RunAt CR H0 H r c A rd) {us : List Addr} {ms : List (Int × Str × List Str)} (k : Paired (MeAt H) us ms) : RunAt CR H0 (upd H A.me (.lst (us.map V.ref))) r c A { rd with meets := ms } := by
  have nd := R.nd
  obtain ⟨dx, h1⟩ := R.ob
  obtain ⟨k1, a1, b1⟩ := R.pl
  obtain ⟨k2, a2, b2⟩ := R.lf
  obtain ⟨k3, a3, b3⟩ := R.fl
  obtain ⟨a4, b4⟩ := R.lg
  obtain ⟨t5, a5, b5⟩ := R.me
  obtain ⟨t6, a6, b6⟩ := R.st
  obtain ⟨s0, ts, ot⟩ := R.own (a := A.me) (o := .lst (us.map V.ref)) (by simp) a5 (fun _ z => by cases z)
  exact ⟨s0, ⟨dx, (ot _ (by simp) (fun z => by simp [z] at nd)).trans h1⟩, ⟨k1, (ot _ (by simp) (fun z => by simp [z] at nd)).trans a1, b1⟩, ⟨k2, (ot _ (by simp) (fun z => by simp [z] at nd)).trans a2, b2.imp fun _ _ ⟨x, e, z⟩ => ⟨x, e, z.stay ts⟩⟩, ⟨k3, (ot _ (by simp) (fun z => by simp [z] at nd)).trans a3, b3.imp fun _ _ ⟨x, e, z⟩ => ⟨x, e, ts _ _ z⟩⟩, ⟨(ot _ (by simp) (fun z => by simp [z] at nd)).trans a4, b4.stay (fun l hl => ot l (by simp [hl]) (fun z => by simp [z] at nd <;> simp_all)) ts⟩, ⟨_, upd_same, Paired.mapP k fun _ _ ⟨u, z1, z2⟩ => ⟨u, ts _ _ z1, ts _ _ z2⟩⟩, ⟨t6, (ot _ (by simp) (fun z => by simp [z] at nd)).trans a6, Paired.mapP b6 fun _ _ z => ts _ _ z⟩, R.new, R.kn, R.nd⟩

theorem RunAt.setStrikers (R : RunAt CR H0 H r c A rd) {us : List Addr} {ms : List (Str × Str)} (k : Paired (SkAt H) us ms) : RunAt CR H0 (upd H A.st (.lst (us.map V.ref))) r c A { rd with strikers := ms } := by
  have nd := R.nd
  obtain ⟨dx, h1⟩ := R.ob
  obtain ⟨k1, a1, b1⟩ := R.pl
  obtain ⟨k2, a2, b2⟩ := R.lf
  obtain ⟨k3, a3, b3⟩ := R.fl
  obtain ⟨a4, b4⟩ := R.lg
  obtain ⟨t5, a5, b5⟩ := R.me
  obtain ⟨t6, a6, b6⟩ := R.st
  obtain ⟨s0, ts, ot⟩ := R.own (a := A.st) (o := .lst (us.map V.ref)) (by simp) a6 (fun _ z => by cases z)
  exact ⟨s0, ⟨dx, (ot _ (by simp) (fun z => by simp [z] at nd)).trans h1⟩, ⟨k1, (ot _ (by simp) (fun z => by simp [z] at nd)).trans a1, b1⟩, ⟨k2, (ot _ (by simp) (fun z => by simp [z] at nd)).trans a2, b2.imp fun _ _ ⟨x, e, z⟩ => ⟨x, e, z.stay ts⟩⟩, ⟨k3, (ot _ (by simp) (fun z => by simp [z] at nd)).trans a3, b3.imp fun _ _ ⟨x, e, z⟩ => ⟨x, e, ts _ _ z⟩⟩, ⟨(ot _ (by simp) (fun z => by simp [z] at nd)).trans a4, b4.stay (fun l hl => ot l (by simp [hl]) (fun z => by simp [z] at nd <;> simp_all)) ts⟩, ⟨t5, (ot _ (by simp) (fun z => by simp [z] at nd)).trans a5, Paired.mapP b5 fun _ _ ⟨u, z1, z2⟩ => ⟨u, ts _ _ z1, ts _ _ z2⟩⟩, ⟨_, upd_same, Paired.mapP k fun _ _ z => ts _ _ z⟩, R.new, R.kn, R.nd⟩

/-- a leg more -/
theorem RunAt.appLeg (R : RunAt CR H0 H r c A rd) {t l : Addr} {leg : Leg} {a : Str} {g : List Leg} {ts : List Addr} (e : rd.legs.lookup a = some g) (ev : valV (lgT rd.legs A.ls) (.inr a) = some (.ref l)) (hl : H l = some (.lst (ts.map V.ref))) (ht : LegAt H t leg) :
    RunAt CR H0 (upd H l (.lst ((ts ++ [t]).map V.ref))) r c A { rd with legs := putA rd.legs a (g ++ [leg]) } := by
  have nd := R.nd
  obtain ⟨dx, h1⟩ := R.ob
  obtain ⟨k1, a1, b1⟩ := R.pl
  obtain ⟨k2, a2, b2⟩ := R.lf
  obtain ⟨k3, a3, b3⟩ := R.fl
  obtain ⟨a4, b4⟩ := R.lg
  obtain ⟨t5, a5, b5⟩ := R.me
  obtain ⟨t6, a6, b6⟩ := R.st
  obtain ⟨l', ts', f1, f2, f3, f4⟩ := lg_find b4 e
  have ell : l' = l := by rw [ev] at f1; injection f1 with f1; injection f1 with f1; exact f1.symm
  subst ell
  obtain ⟨s0, tsy, ot⟩ := R.own (a := l') (o := .lst ((ts ++ [t]).map V.ref)) (by simp [f2]) hl (fun _ z => by cases z)
  have nls : A.ls.Nodup := by
    simp only [List.nodup_cons] at nd
    exact nd.2.2.2.2.2.2.2
  obtain ⟨i1, i2, i3⟩ := lg_app b4 nls R.kn e ev hl ht
  have ne : ∀ x ∈ [r, A.pl, A.lf, A.fl, A.lg, A.me, A.st], x ≠ l' := fun x hx z => by
    subst z
    simp only [List.nodup_cons, List.mem_cons, not_or] at nd
    simp only [List.mem_cons, List.not_mem_nil, or_false] at hx
    obtain ⟨n1, n2, n3, n4, n5, n6, n7, _⟩ := nd
    rcases hx with e | e | e | e | e | e | e <;> rw [e] at f2 <;> simp_all
  exact ⟨s0, ⟨dx, (ot _ (by simp) (ne _ (by simp))).trans h1⟩, ⟨k1, (ot _ (by simp) (ne _ (by simp))).trans a1, b1⟩, ⟨k2, (ot _ (by simp) (ne _ (by simp))).trans a2, b2.imp fun _ _ ⟨x, e, z⟩ => ⟨x, e, z.stay tsy⟩⟩,
    ⟨k3, (ot _ (by simp) (ne _ (by simp))).trans a3, b3.imp fun _ _ ⟨x, e, z⟩ => ⟨x, e, tsy _ _ z⟩⟩, ⟨by rw [i2]; exact (ot _ (by simp) (ne _ (by simp))).trans a4, i1⟩,
    ⟨t5, (ot _ (by simp) (ne _ (by simp))).trans a5, Paired.mapP b5 fun _ _ ⟨u, z1, z2⟩ => ⟨u, tsy _ _ z1, tsy _ _ z2⟩⟩, ⟨t6, (ot _ (by simp) (ne _ (by simp))).trans a6, Paired.mapP b6 fun _ _ z => tsy _ _ z⟩, R.new, by rw [i3]; exact R.kn, R.nd⟩
end
end G

/-! R4 -/
namespace G
open PySem PySem.Spec PyProof.Rows L2
structure MetB (K : PySem.W.Frag) (C : Addr) (m qual : Str) (st : Stmt) (ps : List Str) : Prop where
  ex : ∃ (f : Addr) (fd : FuncData), Meth K C m f ∧ C8.Fun K m qual st f fd ∧ Binds K fd ps []
theorem upd_comm {H : Hp} {a b : Addr} {o u : HO} (h : a ≠ b) : upd (upd H a o) b u = upd (upd H b u) a o := by
  funext x
  by_cases e1 : x = b
  · subst e1
    rw [upd_same, upd_ne (fun z => h z.symm), upd_same]
  · rw [upd_ne e1]
    by_cases e2 : x = a
    · subst e2
      rw [upd_same, upd_same]
    · rw [upd_ne e2, upd_ne e2, upd_ne e1]
section
variable {P : Program} {w : World} {K : PySem.W.Frag} {mg : Str → Option Value} {base : Heap}
theorem metB {C : Addr} {m qual : Str} {st : Stmt} {N ps : List Str} {k : Nat} {sp : Sp} (c : Cls K C) (D : MetB K C m qual st ps) (S : C8.scC N ps (C8.fnScope st) = true) (len : ∀ vs H Q E, sp vs H Q E → vs.length = ps.length)
    (hbody : ∀ (f : Addr) (cdv : Value) (A : Around) (outer : List Env) (s : Shared) (H : Hp) (vs : List V) (Q : VK) (E : XK), Room k (A.deeper (envOfC qual (C8.fnScope st) s.heap.objs.size f cdv)) → sp vs H Q E →
      ∃ t, PSs (cxOf C8.CX0 P w K mg base N qual (C8.fnScope st) f cdv A outer s H E).nox (C8.fnBody st) t ∧ t { nx := fun _ H' => Q .non H', rt := Q } (start N vs) H) : C8.Met P w K mg base (k + 1) C m sp [] := by
  obtain ⟨f, fd, me, F, b⟩ := D.ex
  exact C8.met0 c me F b (C8.fnScope_by S) len (hbody f)
def flyStep (rd : RunD) (b : Str) : Option RunD :=
  match rd.left.lookup b with
  | none => none
  | some [] => some rd
  | some ((pl, tk) :: _) => if (rd.flights.lookup b).isSome = true then some rd else
    match rd.places.lookup b, rd.legs.lookup b with
    | some p, some g => if g.length < 100000 ∧ rd.flights.length < 100000 then
        some { rd with flights := putA rd.flights b (p, pl, rd.tick, rd.tick + tk), legs := putA rd.legs b (g ++ [(p, pl, rd.tick, rd.tick + tk)]) } else none
    | _, _ => none
def flyAll : List Str → RunD → Option RunD
  | [], rd => some rd
  | b :: bs, rd => (flyStep rd b).bind (flyAll bs)
def flyOff (rd : RunD) : Option RunD := flyAll (rd.places.map (·.1)) rd
abbrev runFN : List Str := ["court", "tick", "places", "left", "flights", "legs", "meetings", "strikers"]
theorem flyStep_places {rd rd' : RunD} {b : Str} (h : flyStep rd b = some rd') : rd'.places = rd.places := by
  unfold flyStep at h
  split at h
  · cases h
  · cases h; rfl
  · split at h
    · cases h; rfl
    · split at h
      · split at h
        · cases h; rfl
        · cases h
      · cases h
def sp_fly_off (CR : Addr) : Sp := fun vs H Q _ => ∃ H0 r c A rd rd', vs = [.ref r] ∧ RunAt CR H0 H r c A rd ∧ flyOff rd = some rd' ∧ ∀ H', RunAt CR H0 H' r c A rd' → Q .non H'
end
end G

/-! R5 -/
namespace G
open PySem PySem.Spec PyProof.Rows L2
theorem lt_irr (a : List Nat) : ltCps a a = false := by
  rw [ltCps_eq]
  exact decide_eq_false (List.lt_irrefl a)
theorem lt_anti {x y : Str} (h1 : ltCps x.cps.toList y.cps.toList = false) (h2 : ltCps y.cps.toList x.cps.toList = false) : x = y := by
  rw [ltCps_eq] at h1 h2
  have a1 := of_decide_eq_false h1
  have a2 := of_decide_eq_false h2
  refine PySem.W.str_of_cps ?_
  exact List.le_antisymm a2 a1
theorem lt_trans' {x y z : Str} (h1 : ltCps y.cps.toList x.cps.toList = false) (h2 : ltCps z.cps.toList y.cps.toList = false) : ltCps z.cps.toList x.cps.toList = false := by
  rw [ltCps_eq] at h1 h2 ⊢
  have a1 := of_decide_eq_false h1
  have a2 := of_decide_eq_false h2
  refine decide_eq_false ?_
  exact List.le_trans (l₁ := x.cps.toList) (l₂ := y.cps.toList) (l₃ := z.cps.toList) a1 a2
theorem rising_pw : ∀ (p : Str) (l : List Str), risingS p l = true → (p :: l).Pairwise (fun a b => ltCps b.cps.toList a.cps.toList = false)
  | p, [], _ => List.pairwise_singleton _ _
  | p, x :: r, h => by
    have h' : (!ltCps x.cps.toList p.cps.toList && risingS x r) = true := h
    rw [Bool.and_eq_true, Bool.not_eq_true'] at h'
    have ih := rising_pw x r h'.2
    refine List.pairwise_cons.mpr ⟨fun y hy => ?_, ih⟩
    rcases List.mem_cons.mp hy with rfl | hy
    · exact h'.1
    · exact lt_trans' h'.1 (List.rel_of_pairwise_cons ih hy)
theorem sorted_pw : ∀ {l : List Str}, sortedS l = true → l.Pairwise (fun a b => ltCps b.cps.toList a.cps.toList = false)
  | [], _ => List.Pairwise.nil
  | x :: r, h => rising_pw x r h
def insS (x : Str) : List Str → List Str
  | [] => [x]
  | y :: r => if ltCps y.cps.toList x.cps.toList = true then y :: insS x r else x :: y :: r
def sortL : List Str → List Str
  | [] => []
  | x :: r => insS x (sortL r)
theorem ins_perm (x : Str) : ∀ l : List Str, (insS x l).Perm (x :: l)
  | [] => .refl _
  | y :: r => by
    unfold insS
    split
    · exact ((ins_perm x r).cons y).trans (List.Perm.swap x y r)
    · exact .refl _
theorem ins_pw (x : Str) : ∀ l : List Str, l.Pairwise (fun a b => ltCps b.cps.toList a.cps.toList = false) → (insS x l).Pairwise (fun a b => ltCps b.cps.toList a.cps.toList = false)
  | [], _ => List.pairwise_singleton _ _
  | y :: r, h => by
    have h2 := List.pairwise_cons.mp h
    unfold insS
    split
    · rename_i c
      refine List.pairwise_cons.mpr ⟨fun z hz => ?_, ins_pw x r h2.2⟩
      rcases List.mem_cons.mp ((ins_perm x r).mem_iff.mp hz) with rfl | hz
      · rw [ltCps_eq] at c ⊢
        exact decide_eq_false (List.lt_asymm (of_decide_eq_true c))
      · exact h2.1 z hz
    · rename_i c
      have c' : ltCps y.cps.toList x.cps.toList = false := by simpa using c
      refine List.pairwise_cons.mpr ⟨fun z hz => ?_, h⟩
      rcases List.mem_cons.mp hz with rfl | hz
      · exact c'
      · exact lt_trans' c' (h2.1 z hz)
theorem sort_perm : ∀ l : List Str, (sortL l).Perm l
  | [] => .refl _
  | x :: r => (ins_perm x _).trans ((sort_perm r).cons x)
theorem sort_pw : ∀ l : List Str, (sortL l).Pairwise (fun a b => ltCps b.cps.toList a.cps.toList = false)
  | [] => .nil
  | x :: r => ins_pw x _ (sort_pw r)
theorem sort_the {ys xs : List Str} (p : ys.Perm xs) (h : sortedS ys = true) : ys = sortL xs :=
  List.Perm.eq_of_pairwise (fun a b _ _ h1 h2 => (lt_anti h1 h2).symm) (sorted_pw h) (sort_pw xs) (p.trans (sort_perm xs).symm)
end G

/-! R6 -/
namespace G
open PySem PySem.Spec PyProof.Rows L2
theorem cut_from1 (xs : List V) : cutV xs (some 1) none = xs.drop 1 := by
  unfold cutV HT.sIx
  cases xs with
  | nil => rfl
  | cons x xs =>
    simp
theorem cut_to1 (xs : List V) : cutV xs none (some 1) = xs.take 1 := by
  unfold cutV HT.sIx
  cases xs with
  | nil => rfl
  | cons x xs =>
    simp
def leftsOf (lf : List (Str × List (Str × Int))) : List Str → Option (List (List (Str × Int)))
  | [] => some []
  | b :: bs => match lf.lookup b, leftsOf lf bs with
    | some c, some cs => some (c :: cs)
    | _, _ => none
theorem leftsOf_at {lf : List (Str × List (Str × Int))} : ∀ {bs : List Str} {cs : List (List (Str × Int))}, leftsOf lf bs = some cs → cs.length = bs.length ∧ ∀ (i : Nat) (b : Str), bs[i]? = some b → ∃ c, cs[i]? = some c ∧ lf.lookup b = some c
  | [], cs, h => by
    cases h
    exact ⟨rfl, fun i b e => by simp at e⟩
  | b :: bs, cs, h => by
    unfold leftsOf at h
    cases e1 : lf.lookup b with
    | none => rw [e1] at h; cases h
    | some c =>
    cases e2 : leftsOf lf bs with
    | none => rw [e1, e2] at h; cases h
    | some cs' =>
    rw [e1, e2] at h
    cases h
    obtain ⟨l, k⟩ := leftsOf_at e2
    refine ⟨by simp [l], fun i x e => ?_⟩
    cases i with
    | zero => cases e; exact ⟨c, rfl, e1⟩
    | succ i => exact k i x e
def putLefts : List Str → List (List (Str × Int)) → List (Str × List (Str × Int)) → List (Str × List (Str × Int))
  | b :: bs, c :: cs, lf => putLefts bs cs (putA lf b c)
  | _, _, lf => lf
def meet (rd : RunD) (p : Str) (bs : List Str) : Option RunD := match leftsOf rd.left bs with
  | none => none
  | some cs => if rd.left.length + bs.length < 100000 ∧ bs.length < 50 ∧ rd.meets.length < 100000 then
      some { rd with left := putLefts bs (cs.drop 1 ++ cs.take 1) rd.left, meets := rd.meets ++ [(rd.tick, p, bs)] } else none
theorem RunAt.there {CR : Addr} {H0 H : Hp} {r c : Addr} {A : RA} {rd : RunD} (R : RunAt CR H0 H r c A rd) : ∀ a ∈ r :: A.pl :: A.lf :: A.fl :: A.lg :: A.me :: A.st :: A.ls, H a ≠ none := fun a ha z => by
  obtain ⟨dx, h1⟩ := R.ob
  obtain ⟨k1, a1, b1⟩ := R.pl
  obtain ⟨k2, a2, b2⟩ := R.lf
  obtain ⟨k3, a3, b3⟩ := R.fl
  obtain ⟨a4, b4⟩ := R.lg
  obtain ⟨t5, a5, b5⟩ := R.me
  obtain ⟨t6, a6, b6⟩ := R.st
  have hls : ∀ {ls : List Addr} {qs : List (Str × List Leg)}, LgR H ls qs → ∀ l ∈ ls, H l ≠ none := fun {ls qs} h => by
    induction h with
    | nil => intro l hl; cases hl
    | cons p t ih =>
      obtain ⟨ts, q1, q2⟩ := p
      intro l hl e
      rcases List.mem_cons.mp hl with rfl | hl
      · rw [q1] at e; cases e
      · exact ih l hl e
  simp only [List.mem_cons] at ha
  rcases ha with rfl | rfl | rfl | rfl | rfl | rfl | rfl | ha
  · rw [h1] at z; cases z
  · rw [a1] at z; cases z
  · rw [a2] at z; cases z
  · rw [a3] at z; cases z
  · rw [a4] at z; cases z
  · rw [a5] at z; cases z
  · rw [a6] at z; cases z
  · exact hls b4 a ha z
abbrev ownR (r : Addr) (A : RA) : List Addr := r :: A.pl :: A.lf :: A.fl :: A.lg :: A.me :: A.st :: A.ls
theorem ref_map {ts : List Addr} {i : Nat} {t : Addr} (h : ts[i]? = some t) : (ts.map V.ref)[i]? = some (.ref t) := by rw [List.getElem?_map, h]; rfl
section
variable {P : Program} {w : World} {K : PySem.W.Frag} {mg : Str → Option Value} {base : Heap}
def sp_meet (CR : Addr) : Sp := fun vs H Q _ => ∃ H0 r c A rd rd' p bl bs, vs = [.ref r, .str p, .ref bl] ∧ RunAt CR H0 H r c A rd ∧ H bl = some (.lst (bs.map V.str)) ∧ bl ∉ ownR r A ∧ meet rd p bs = some rd' ∧
  ∀ H', RunAt CR H0 H' r c A rd' → (∀ b o, H b = some o → b ∉ ownR r A → H' b = some o) → Q .non H'
end
end G

/-! R7 -/
namespace G
open PySem PySem.Spec PyProof.Rows L2
open Classical in
/-- the heap without the run's own objects -/
noncomputable def lessH (H : Hp) (r : Addr) (A : RA) : Hp := fun b => if b ∈ ownR r A then none else H b
section
variable {CR : Addr} {H0 H H' : Hp} {r c : Addr} {A : RA} {rd rd' : RunD}
theorem less_some {b : Addr} {o : HO} (h : H b = some o) (n : b ∉ ownR r A) : lessH H r A b = some o := by
  unfold lessH
  rw [if_neg n]
  exact h
theorem RunAt.rebase (R : RunAt CR H0 H r c A rd) : RunAt CR (lessH H r A) H r c A rd :=
  ⟨fun b o e => by
    unfold lessH at e
    split at e
    · cases e
    · exact e, R.ob, R.pl, R.lf, R.fl, R.lg, R.me, R.st, fun a ha => by unfold lessH; rw [if_pos ha], R.kn, R.nd⟩
theorem RunAt.base (R : RunAt CR H0 H r c A rd) (R' : RunAt CR (lessH H r A) H' r c A rd') : RunAt CR H0 H' r c A rd' :=
  ⟨fun b o e => R'.s0 b o (less_some (R.s0 b o e) (fun hb => by rw [R.new b hb] at e; cases e)), R'.ob, R'.pl, R'.lf, R'.fl, R'.lg, R'.me, R'.st, R.new, R'.kn, R'.nd⟩
theorem RunAt.hand (R : RunAt CR H0 H r c A rd) (s0 : Same H0 H') (t : TupStay H H') (s : ∀ a ∈ ownR r A, ∀ o, H a = some o → H' a = some o) : RunAt CR H0 H' r c A rd := by
  obtain ⟨dx, h1⟩ := R.ob
  obtain ⟨k1, a1, b1⟩ := R.pl
  obtain ⟨k2, a2, b2⟩ := R.lf
  obtain ⟨k3, a3, b3⟩ := R.fl
  obtain ⟨a4, b4⟩ := R.lg
  obtain ⟨t5, a5, b5⟩ := R.me
  obtain ⟨t6, a6, b6⟩ := R.st
  have lgs : ∀ {ls : List Addr} {qs : List (Str × List Leg)}, (∀ l ∈ ls, ∀ o, H l = some o → H' l = some o) → LgR H ls qs → LgR H' ls qs := fun {ls qs} k h => by
    induction h with
    | nil => exact .nil
    | cons p _ ih =>
      obtain ⟨ts, q1, q2⟩ := p
      exact .cons ⟨ts, k _ List.mem_cons_self _ q1, Paired.mapP q2 fun _ _ z => t _ _ z⟩ (ih fun l hl => k l (List.mem_cons_of_mem _ hl))
  exact ⟨s0, ⟨dx, s _ (by simp [ownR]) _ h1⟩, ⟨k1, s _ (by simp [ownR]) _ a1, b1⟩, ⟨k2, s _ (by simp [ownR]) _ a2, b2.imp fun _ _ ⟨x, e, z⟩ => ⟨x, e, z.stay t⟩⟩, ⟨k3, s _ (by simp [ownR]) _ a3, b3.imp fun _ _ ⟨x, e, z⟩ => ⟨x, e, t _ _ z⟩⟩, ⟨s _ (by simp [ownR]) _ a4, lgs (fun l hl => s l (by simp [ownR, hl])) b4⟩,
    ⟨t5, s _ (by simp [ownR]) _ a5, Paired.mapP b5 fun _ _ ⟨u, z1, z2⟩ => ⟨u, t _ _ z1, t _ _ z2⟩⟩, ⟨t6, s _ (by simp [ownR]) _ a6, Paired.mapP b6 fun _ _ z => t _ _ z⟩, R.new, R.kn, R.nd⟩
/-- an object that is not its own is changed, no tuple -/
theorem RunAt.other (R : RunAt CR H0 H r c A rd) {x : Addr} {o u : HO} (hx : x ∉ ownR r A) (h0 : H0 x = none) (hu : H x = some u) (n : ∀ xs, u ≠ .tup xs) : RunAt CR H0 (upd H x o) r c A rd :=
  R.hand (fun b v e => by rw [upd_ne (ne_of_none e h0)]; exact R.s0 _ _ e) (tups_upd hu n) fun a ha v e => by
    have nx : a ≠ x := fun z => hx (z ▸ ha)
    rw [upd_ne nx]
    exact e
theorem RunAt.notTup (R : RunAt CR H0 H r c A rd) {b : Addr} {xs : List V} (h : H b = some (.tup xs)) : b ∉ ownR r A := fun hb => by
  obtain ⟨dx, h1⟩ := R.ob
  obtain ⟨k1, a1, b1⟩ := R.pl
  obtain ⟨k2, a2, b2⟩ := R.lf
  obtain ⟨k3, a3, b3⟩ := R.fl
  obtain ⟨a4, b4⟩ := R.lg
  obtain ⟨t5, a5, b5⟩ := R.me
  obtain ⟨t6, a6, b6⟩ := R.st
  have hls : ∀ {ls : List Addr} {qs : List (Str × List Leg)}, LgR H ls qs → b ∈ ls → False := fun {ls qs} h1 => by
    induction h1 with
    | nil => intro hl; cases hl
    | cons p t ih =>
      obtain ⟨ts, q1, q2⟩ := p
      intro hl
      rcases List.mem_cons.mp hl with rfl | hl
      · rw [q1] at h; cases h
      · exact ih hl
  simp only [ownR, List.mem_cons] at hb
  rcases hb with rfl | rfl | rfl | rfl | rfl | rfl | rfl | ha
  · rw [h1] at h; cases h
  · rw [a1] at h; cases h
  · rw [a2] at h; cases h
  · rw [a3] at h; cases h
  · rw [a4] at h; cases h
  · rw [a5] at h; cases h
  · rw [a6] at h; cases h
  · exact hls b4 ha
end
/-! texts by a text, in lists of their own: places, the balls that came there -/
def cmT : List (Str × List Str) → List Addr → List (L2.Key × V)
  | q :: qs, l :: ls => (.inr q.1, .ref l) :: cmT qs ls
  | _, _ => []
abbrev CmR (H : Hp) : List Addr → List (Str × List Str) → Prop := Paired fun (l : Addr) (q : Str × List Str) => H l = some (.lst (q.2.map V.str))
theorem CmR.stay {H H' : Hp} : ∀ {ls : List Addr} {qs : List (Str × List Str)}, (∀ l ∈ ls, ∀ o, H l = some o → H' l = some o) → CmR H ls qs → CmR H' ls qs
  | _, _, _, .nil => .nil
  | l :: ls, q :: qs, k, .cons h t => .cons (k l List.mem_cons_self _ h) (CmR.stay (fun x hx => k x (List.mem_cons_of_mem _ hx)) t)
theorem cm_none {H : Hp} : ∀ {ls : List Addr} {qs : List (Str × List Str)} {a : Str}, CmR H ls qs → qs.lookup a = none → valV (cmT qs ls) (.inr a) = none
  | _, _, _, .nil, _ => rfl
  | l :: ls, (b, g) :: qs, a, .cons _ t, e => by
    rw [List.lookup_cons] at e
    cases hb : a == b with
    | true => rw [hb] at e; cases e
    | false =>
      rw [hb] at e
      show valV ((Sum.inr b, V.ref l) :: cmT qs ls) (.inr a) = none
      rw [valV_neg (fun z => (beq_eq_false_iff_ne.mp hb) (Sum.inr.inj z).symm)]
      exact cm_none t e
theorem cm_find {H : Hp} : ∀ {ls : List Addr} {qs : List (Str × List Str)} {a : Str} {g : List Str}, CmR H ls qs → qs.lookup a = some g →
    ∃ l, valV (cmT qs ls) (.inr a) = some (.ref l) ∧ l ∈ ls ∧ H l = some (.lst (g.map V.str))
  | _, _, _, _, .nil, e => by cases e
  | l :: ls, (b, g0) :: qs, a, g, .cons h1 t, e => by
    rw [List.lookup_cons] at e
    cases hb : a == b with
    | true =>
      rw [hb] at e
      cases e
      have ea : a = b := eq_of_beq hb
      subst ea
      exact ⟨l, valV_pos rfl, List.mem_cons_self, h1⟩
    | false =>
      rw [hb] at e
      obtain ⟨l', q1, q2, q3⟩ := cm_find t e
      refine ⟨l', ?_, List.mem_cons_of_mem _ q2, q3⟩
      show valV ((Sum.inr b, V.ref l) :: cmT qs ls) (.inr a) = _
      rw [valV_neg (fun z => (beq_eq_false_iff_ne.mp hb) (Sum.inr.inj z).symm)]
      exact q1
theorem cm_app {H : Hp} : ∀ {ls : List Addr} {qs : List (Str × List Str)} {a b : Str} {g : List Str} {l : Addr}, CmR H ls qs → ls.Nodup → (qs.map (·.1)).Nodup → qs.lookup a = some g → valV (cmT qs ls) (.inr a) = some (.ref l) →
    CmR (upd H l (.lst (g.map V.str ++ [.str b]))) ls (putA qs a (g ++ [b])) ∧ cmT (putA qs a (g ++ [b])) ls = cmT qs ls ∧ (putA qs a (g ++ [b])).map (·.1) = qs.map (·.1)
  | _, _, _, _, _, _, .nil, _, _, e, _ => by cases e
  | l0 :: ls, (b0, g0) :: qs, a, b, g, l, .cons h1 tl, hn, hk, e, ev => by
    have hn' := List.nodup_cons.mp hn
    have hk' : b0 ∉ qs.map (·.1) ∧ (qs.map (·.1)).Nodup := List.nodup_cons.mp hk
    rw [List.lookup_cons] at e
    cases hb : a == b0 with
    | true =>
      rw [hb] at e
      cases e
      have ea : a = b0 := eq_of_beq hb
      subst ea
      have el : l0 = l := by
        have q : valV ((Sum.inr a, V.ref l0) :: cmT qs ls) (.inr a) = some (.ref l) := ev
        rw [valV_pos rfl] at q
        injection q with q
        injection q with q
      subst el
      rw [putA_head hk'.1]
      exact ⟨.cons (by rw [upd_same, List.map_append]; rfl) (CmR.stay (fun x hx o z => by have nx : x ≠ l0 := (fun z => hn'.1 (z ▸ hx)); rw [upd_ne nx]; exact z) tl), rfl, rfl⟩
    | false =>
      rw [hb] at e
      have ne : b0 ≠ a := fun z => (beq_eq_false_iff_ne.mp hb) z.symm
      have ev' : valV (cmT qs ls) (.inr a) = some (.ref l) := by
        have q : valV ((Sum.inr b0, V.ref l0) :: cmT qs ls) (.inr a) = some (.ref l) := ev
        rw [valV_neg (fun z => ne (Sum.inr.inj z))] at q
        exact q
      obtain ⟨l', f1, f2, f3⟩ := cm_find tl e
      have ell : l' = l := by rw [ev'] at f1; injection f1 with f1; injection f1 with f1; exact f1.symm
      subst ell
      obtain ⟨i1, i2, i3⟩ := cm_app (b := b) tl hn'.2 hk'.2 e ev'
      rw [putA_tail ne]
      refine ⟨.cons ?_ i1, ?_, ?_⟩
      · rw [upd_ne (show l0 ≠ l' from fun z => hn'.1 (by rw [z]; exact f2))]
        exact h1
      · show (Sum.inr b0, V.ref l0) :: cmT (putA qs a (g ++ [b])) ls = _
        rw [i2]
        rfl
      · rw [List.map_cons, i3]
        rfl
theorem cmT_keys {H : Hp} : ∀ {ls : List Addr} {qs : List (Str × List Str)}, CmR H ls qs → (cmT qs ls).map (·.1) = (qs.map (·.1)).map Sum.inr
  | _, _, .nil => rfl
  | _ :: _, _ :: _, .cons _ t => by
    show Sum.inr _ :: (cmT _ _).map (·.1) = _
    rw [cmT_keys t]
    rfl
theorem cmT_snoc {H : Hp} {a : Str} {g : List Str} {l : Addr} : ∀ {ls : List Addr} {qs : List (Str × List Str)}, CmR H ls qs → cmT (qs ++ [(a, g)]) (ls ++ [l]) = cmT qs ls ++ [(.inr a, .ref l)]
  | _, _, .nil => rfl
  | _ :: _, _ :: _, .cons _ t => by
    show (Sum.inr _, V.ref _) :: cmT (_ ++ _) (_ ++ _) = _
    rw [cmT_snoc t]
    rfl
theorem lookup_any {α : Type} {a : Str} : ∀ {qs : List (Str × α)}, qs.lookup a = none → (qs.any fun q => decide (q.1 = a)) = false
  | [], _ => rfl
  | (b, g) :: qs, e => by
    rw [List.lookup_cons] at e
    cases hb : a == b with
    | true => rw [hb] at e; cases e
    | false =>
      rw [hb] at e
      rw [List.any_cons, lookup_any e]
      simp
      exact fun z => (beq_eq_false_iff_ne.mp hb) z.symm
theorem putA_new {α : Type} {qs : List (Str × α)} {a : Str} {y : α} (e : qs.lookup a = none) : putA qs a y = qs ++ [(a, y)] := by
  unfold putA
  rw [lookup_any e]
  rfl
theorem valV_any {kvs : List (L2.Key × V)} {k : L2.Key} : valV kvs k = none → (kvs.any fun kv => decide (kv.1 = k)) = false := by
  induction kvs with
  | nil => intro _; rfl
  | cons p kvs ih =>
    intro e
    by_cases c : p.1 = k
    · rw [valV_pos c] at e; cases e
    · rw [valV_neg c] at e
      rw [List.any_cons, ih e]
      simp [c]
theorem putK_new {kvs : List (L2.Key × V)} {k : L2.Key} {v : V} (e : valV kvs k = none) : putK kvs k v = kvs ++ [(k, v)] := by
  unfold putK
  rw [valV_any e]
  rfl
structure CameAt (Hb H : Hp) (r : Addr) (A : RA) (d : Addr) (ls : List Addr) (cm : List (Str × List Str)) : Prop where
  hd : H d = some (.dK (cmT cm ls))
  hl : CmR H ls cm
  nd : (d :: ls).Nodup
  kn : (cm.map (·.1)).Nodup
  new : ∀ x ∈ d :: ls, Hb x = none ∧ x ∉ ownR r A
theorem CameAt.hand {Hb H H' : Hp} {r : Addr} {A : RA} {d : Addr} {ls : List Addr} {cm : List (Str × List Str)} (C : CameAt Hb H r A d ls cm) (k : ∀ x ∈ d :: ls, ∀ o, H x = some o → H' x = some o) : CameAt Hb H' r A d ls cm :=
  ⟨k d List.mem_cons_self _ C.hd, C.hl.stay fun l hl o e => k l (List.mem_cons_of_mem _ hl) o e, C.nd, C.kn, C.new⟩
theorem CameAt.same {Hb H H' : Hp} {r : Addr} {A : RA} {d : Addr} {ls : List Addr} {cm : List (Str × List Str)} (C : CameAt Hb H r A d ls cm) (s : Same H H') : CameAt Hb H' r A d ls cm := C.hand fun x _ o e => s x o e
theorem CameAt.own {Hb H : Hp} {r : Addr} {A : RA} {d : Addr} {ls : List Addr} {cm : List (Str × List Str)} (C : CameAt Hb H r A d ls cm) {x : Addr} {u : HO} (hx : x ∈ ownR r A) : CameAt Hb (upd H x u) r A d ls cm := C.hand fun y hy o e => by
  have n : y ≠ x := fun z => (C.new y hy).2 (z ▸ hx)
  rw [upd_ne n]
  exact e
/-- one more at a place that is there -/
theorem CameAt.app {Hb H : Hp} {r : Addr} {A : RA} {d l : Addr} {ls : List Addr} {cm : List (Str × List Str)} (C : CameAt Hb H r A d ls cm) {a b : Str} {g : List Str} (e : cm.lookup a = some g) (ev : valV (cmT cm ls) (.inr a) = some (.ref l)) :
    CameAt Hb (upd H l (.lst (g.map V.str ++ [.str b]))) r A d ls (putA cm a (g ++ [b])) := by
  obtain ⟨l', f1, f2, f3⟩ := cm_find C.hl e
  have ell : l' = l := by rw [ev] at f1; injection f1 with f1; injection f1 with f1; exact f1.symm
  subst ell
  have nd := List.nodup_cons.mp C.nd
  obtain ⟨i1, i2, i3⟩ := cm_app (b := b) C.hl nd.2 C.kn e ev
  have n : d ≠ l' := fun z => nd.1 (z ▸ f2)
  exact ⟨by rw [upd_ne n, i2]; exact C.hd, i1, C.nd, by rw [i3]; exact C.kn, C.new⟩
/-- a place more -/
theorem CameAt.put {Hb H : Hp} {r : Addr} {A : RA} {d l : Addr} {ls : List Addr} {cm : List (Str × List Str)} (C : CameAt Hb H r A d ls cm) {a : Str} (e : cm.lookup a = none) (hl : H l = some (.lst [])) (h0 : Hb l = none) (hn : l ∉ ownR r A) (hd : l ∉ d :: ls) :
    CameAt Hb (upd H d (.dK (putK (cmT cm ls) (.inr a) (.ref l)))) r A d (ls ++ [l]) (cm ++ [(a, [])]) := by
  have nd := List.nodup_cons.mp C.nd
  have ev := cm_none C.hl e
  have n : ∀ x ∈ ls, x ≠ d := fun x hx z => nd.1 (z ▸ hx)
  have hd' : l ≠ d ∧ l ∉ ls := by simpa using hd
  refine ⟨by rw [upd_same, putK_new ev, cmT_snoc C.hl], Paired.snoc (C.hl.stay fun x hx o z => by rw [upd_ne (n x hx)]; exact z) (by rw [upd_ne hd'.1]; exact hl), ?_, ?_, ?_⟩
  · rw [← List.cons_append, List.nodup_append]
    refine ⟨C.nd, by simp, fun x hx y hy z => ?_⟩
    have : y = l := by simpa using hy
    subst this
    exact hd (z ▸ hx)
  · rw [List.map_append, List.nodup_append]
    refine ⟨C.kn, by simp, fun x hx y hy z => ?_⟩
    have : y = a := by simpa using hy
    subst this
    subst z
    obtain ⟨q, hq, e2⟩ := List.mem_map.mp hx
    have z1 := lookup_any e
    rw [List.any_eq_false] at z1
    exact z1 q hq (by simp [e2])
  · intro x hx
    rw [← List.cons_append, List.mem_append] at hx
    rcases hx with hx | hx
    · exact C.new x hx
    · have : x = l := by simpa using hx
      subst this
      exact ⟨h0, hn⟩
def comeStep (s : RunD × List (Str × List Str)) (b : Str) : Option (RunD × List (Str × List Str)) :=
  match s.1.flights.lookup b, s.1.left.lookup b with
  | some g, some (_ :: l) => if s.1.places.length < 100000 ∧ s.1.left.length < 100000 ∧ s.2.length < 50 ∧ ((s.2.lookup g.2.1).getD []).length < 50 then
      some ({ s.1 with flights := dropA s.1.flights b, places := putA s.1.places b g.2.1, left := putA s.1.left b l }, putA s.2 g.2.1 ((s.2.lookup g.2.1).getD [] ++ [b])) else none
  | _, _ => none
def comeAll : List Str → RunD × List (Str × List Str) → Option (RunD × List (Str × List Str))
  | [], s => some s
  | b :: bs, s => (comeStep s b).bind (comeAll bs)
def meetAll (cm : List (Str × List Str)) : List Str → RunD → Option RunD
  | [], rd => some rd
  | p :: ps, rd => match cm.lookup p with
    | none => none
    | some bs => if 1 < bs.length then (meet rd p bs).bind (meetAll cm ps) else meetAll cm ps rd
def comingOf (rd : RunD) (q : Str × Leg) : Option Str := match rd.flights.lookup q.1 with
  | some g => if g.2.2.2 = rd.tick then some q.1 else none
  | none => none
def coming (rd : RunD) : List Str := rd.flights.filterMap (comingOf rd)
def come (rd : RunD) : Option RunD := if rd.flights.length < 60 then
  (comeAll (sortL (coming rd)) (rd, [])).bind fun s => if s.2.length < 60 then meetAll s.2 (sortL (s.2.map (·.1))) s.1 else none
  else none
end G

/-! R8 -/
namespace G
open PySem PySem.Spec PyProof.Rows L2
theorem iteT' {c : Bool} {a b : Prop} (e : c = true) (h : a) : if c = true then a else b := by rw [if_pos e]; exact h
theorem iteF' {c : Bool} {a b : Prop} (e : c = false) (h : b) : if c = true then a else b := by rw [if_neg (by rw [e]; decide)]; exact h
theorem putA_snoc {α : Type} {a : Str} {g y : α} : ∀ {qs : List (Str × α)}, qs.lookup a = none → putA (qs ++ [(a, g)]) a y = qs ++ [(a, y)]
  | [], _ => putA_head (by simp)
  | (b, h) :: qs, e => by
    rw [List.lookup_cons] at e
    cases hb : a == b with
    | true => rw [hb] at e; cases e
    | false =>
      rw [hb] at e
      rw [List.cons_append, putA_tail (fun z => (beq_eq_false_iff_ne.mp hb) z.symm), putA_snoc e]
      rfl
section
variable {P : Program} {w : World} {K : PySem.W.Frag} {mg : Str → Option Value} {base : Heap}
def sp_come (CR : Addr) : Sp := fun vs H Q _ => ∃ H0 r c A rd rd', vs = [.ref r] ∧ RunAt CR H0 H r c A rd ∧ come rd = some rd' ∧ ∀ H', RunAt CR H0 H' r c A rd' → Q .non H'
end
end G

/-! R9 -/
namespace G
open PySem PySem.Spec PyProof.Rows L2
def minL : Int → List Int → Int
  | m, [] => m
  | m, x :: xs => minL (min m x) xs
theorem minL_le : ∀ (m : Int) (xs : List Int), minL m xs ≤ m ∧ (∀ x ∈ xs, minL m xs ≤ x) ∧ (minL m xs = m ∨ minL m xs ∈ xs)
  | m, [] => ⟨Int.le_refl _, (fun x hx => by cases hx), .inl rfl⟩
  | m, x :: xs => by
    obtain ⟨h1, h2, h3⟩ := minL_le (min m x) xs
    have e : minL m (x :: xs) = minL (min m x) xs := rfl
    rw [e]
    refine ⟨by omega, fun y hy => ?_, ?_⟩
    · rcases List.mem_cons.mp hy with rfl | hy
      · omega
      · exact h2 y hy
    · rcases h3 with h3 | h3
      · by_cases c : m ≤ x
        · left; omega
        · right; rw [h3]; have : min m x = x := by omega
          rw [this]; simp
      · exact .inr (List.mem_cons_of_mem _ h3)
theorem minL_the {m : Int} {xs : List Int} {k : Int} (h1 : k ∈ m :: xs) (h2 : ∀ y ∈ m :: xs, k ≤ y) : k = minL m xs := by
  obtain ⟨a, b, c⟩ := minL_le m xs
  have l1 : minL m xs ≤ k := by
    rcases List.mem_cons.mp h1 with rfl | h
    · exact a
    · exact b k h
  have l2 : k ≤ minL m xs := by
    rcases c with c | c
    · rw [c]; exact h2 m List.mem_cons_self
    · exact h2 _ (List.mem_cons_of_mem _ c)
  omega
def endsOf (rd : RunD) : List Int := rd.flights.map fun q => q.2.2.2.2
def goStep (rd : RunD) (k : Int) : Option RunD := (flyOff rd).bind fun r1 => if r1.flights.length < 60 then come { r1 with tick := minL k (endsOf r1) } else none
def goTo : Nat → RunD → Int → Option RunD
  | 0, rd, k => if rd.tick < k then none else some rd
  | n + 1, rd, k => if rd.tick < k then (goStep rd k).bind fun r1 => goTo n r1 k else some rd
/-- the ends of all flights -/
theorem ends_lc {H : Hp} {kvs : List (L2.Key × V)} {rd : RunD} (b : KR (FlR H) kvs rd.flights) {i : Nat} {k : L2.Key} {v : V} (e : kvs[i]? = some (k, v)) : ∃ (t : Addr) (y : Leg), v = .ref t ∧ LegAt H t y ∧ ((rd.flights[i]?).map fun q => V.int q.2.2.2.2) = some (.int y.2.2.2) := by
  obtain ⟨a, y, h1, rfl, t, rfl, h2⟩ := b.at e
  exact ⟨t, y, rfl, h2, by rw [h1]; rfl⟩
section
variable {P : Program} {w : World} {K : PySem.W.Frag} {mg : Str → Option Value} {base : Heap}
def sp_go_to (CR : Addr) : Sp := fun vs H Q _ => ∃ H0 r c A rd rd' k n, vs = [.ref r, .int k] ∧ RunAt CR H0 H r c A rd ∧ goTo n rd k = some rd' ∧ ∀ H', RunAt CR H0 H' r c A rd' → Q .non H'
end
end G

/-! R10 -/
namespace G
open PySem PySem.Spec PyProof.Rows L2
/-- the least end of all flights, if there is one -/
def leastEnd (rd : RunD) : Option Int := match endsOf rd with
  | [] => none
  | x :: xs => some (minL x xs)
def finLoop : Nat → RunD → Option RunD
  | 0, rd => if rd.flights.length = 0 then some rd else none
  | n + 1, rd => match leastEnd rd with
    | none => some rd
    | some k => if rd.flights.length < 60 then (goTo 30 rd k).bind fun r1 => (flyOff r1).bind (finLoop n) else none
def finish (n : Nat) (rd : RunD) : Option RunD := (flyOff rd).bind (finLoop n)
section
variable {P : Program} {w : World} {K : PySem.W.Frag} {mg : Str → Option Value} {base : Heap}
def sp_finish (CR : Addr) : Sp := fun vs H Q _ => ∃ H0 r c A rd rd' n, vs = [.ref r] ∧ RunAt CR H0 H r c A rd ∧ finish n rd = some rd' ∧ ∀ H', RunAt CR H0 H' r c A rd' → Q .non H'
end
end G

/-! R11 -/
namespace G
open PySem PySem.Spec PyProof.Rows L2
def takeR (cd : CourtD) (rd : RunD) (k : Int) (b : Str) (cs : List (Str × Int)) : Option RunD := match goTo 40 rd k with
  | none => none
  | some r1 => match r1.places.lookup b, r1.flights.lookup b with
    | some p, none => match cd.ow.lookup p with
      | some o => if courseOk cd.ln cd.ow p cs = true ∧ r1.left.length < 100000 ∧ r1.strikers.length < 100000 then some { r1 with left := putA r1.left b cs, strikers := r1.strikers ++ [(o, p)] } else none
      | none => none
    | _, _ => none
theorem CourtAt.less {CR CC : Addr} {H0 H : Hp} {r c : Addr} {A : RA} {rd : RunD} {cd : CourtD} (h : CourtAt H0 CC c cd) (R : RunAt CR H0 H r c A rd) : CourtAt (lessH H r A) CC c cd := by
  have k : ∀ {b : Addr} {o : HO}, H0 b = some o → lessH H r A b = some o := fun {b o} e => less_some (R.s0 _ _ e) fun hb => by rw [R.new b hb] at e; cases e
  obtain ⟨dx, L, O, S, fs, h1, h2, h3, h4, h5, h6, h7⟩ := h.ex
  exact ⟨dx, L, O, S, fs, k h1, h2, k h3, h4, k h5, h6, k h7⟩
section
variable {P : Program} {w : World} {K : PySem.W.Frag} {mg : Str → Option Value} {base : Heap}
def sp_take (CR CC : Addr) : Sp := fun vs H Q _ => ∃ H0 r c A rd rd' s k b ct cs cd, vs = [.ref r, .ref s] ∧ RunAt CR H0 H r c A rd ∧ CourtAt H0 CC c cd ∧ StrikeAt H s k b ct cs ∧ courseForm cs = true ∧ (∀ x ∈ cs, x.1.length ≤ 1000) ∧ cs.length ≤ 1000 ∧
  takeR cd rd k b cs = some rd' ∧ ∀ H', RunAt CR H0 H' r c A rd' → Q (.bl true) H'
end
end G

/-! G11 -/
namespace G
open PySem PySem.Spec PyProof.Rows L2
section
variable {X : Cx}
/-- dict(d): a copy -/
def rDcopy : List V → Hp → VK → Prop := fun xs H Q => ∃ (a : Addr) (kvs : List (L2.Key × V)), xs = [.ref a] ∧ Rd H a (.dK kvs) ∧ ∀ p, H p = none → Q (.ref p) (upd H p (.dK kvs))
theorem call_dcopy : CallR X (.type "dict") rDcopy := by
  intro pins s σ H xs us Q I r h
  obtain ⟨a, kvs, rfl, hd, q⟩ := h
  rw [Vals.ref1 r]
  exact d_copyOf I hd fun p s' hp I' => ⟨.ref p, _, I', rfl, q p hp⟩
theorem dc_it {J : It} {n : Nat} {G : Hp → Prop} {Y : Nat → Hp → V → Hp → Prop} (w : Walk J n G Y) {g : TG} {tt : TT} {tk tv : TE} {vs : List Nat} {σ : L2.St} {H1 : Hp} {D : Addr} {Qd : Hp → Prop} (Pv : Nat → Hp → Prop) (h0 : Pv 0 (upd H1 D (.dK []))) (hG : ∀ i H, i ≤ n → Pv i H → G H)
    (hs : ∀ i x H H', i < n → Pv i H → Y i H x H' → g x (wipe σ vs) H' fun σ2 H2 => wipe σ2 vs = wipe σ vs ∧ tt σ2 H2 fun b H3 =>
      if b = true then tk σ2 H3 fun y H4 => tv σ2 H4 fun z H5 => ∃ kvs k, y = kV k ∧ H5 D = some (.dK kvs) ∧ kvs.length < sizeLine ∧ Pv (i + 1) (upd H5 D (.dK (putK kvs k z))) else Pv (i + 1) H3) (hd : ∀ H, Pv n H → Qd H) :
    ∃ W : Nat → Nat → Hp → Prop, (∃ m, W 0 m (upd H1 D (.dK []))) ∧ ∀ i m H, W i m H →
      (J.stop i H ∧ Qd H) ∨ (J.go i H ∧ ∃ Nx : Hp → Prop, (∀ H', Nx H' → ∃ m', m' < m ∧ W (i + 1) m' H') ∧ ∀ x H', J.yld i H x H' → g x (wipe σ vs) H' fun σ2 H2 => wipe σ2 vs = wipe σ vs ∧ tt σ2 H2 fun b H3 =>
        if b = true then tk σ2 H3 fun y H4 => tv σ2 H4 fun z H5 => ∃ kvs k, y = kV k ∧ H5 D = some (.dK kvs) ∧ kvs.length < sizeLine ∧ Nx (upd H5 D (.dK (putK kvs k z))) else Nx H3) := by
  refine ⟨fun i m H => m = n - i ∧ i ≤ n ∧ Pv i H, ⟨n, by simp, Nat.zero_le _, h0⟩, ?_⟩
  rintro i m H ⟨rfl, hi, p⟩
  have q := hG i H hi p
  by_cases hlt : i < n
  · exact .inr ⟨w.goes i H hlt q, Pv (i + 1), fun H' p' => ⟨n - (i + 1), by omega, rfl, hlt, p'⟩, fun x H' y => hs i x H H' hlt p (w.yields i H x H' hlt q y)⟩
  · have e : i = n := by omega
    subst e
    exact .inl ⟨w.stops H q, hd H p⟩
end
end G

/-! R12 -/
namespace G
open PySem PySem.Spec PyProof.Rows L2
structure MakB (K : PySem.W.Frag) (mg : Str → Option Value) (C : Addr) (x qual : Str) (st : Stmt) (ps : List Str) : Prop where
  ex : ∃ (f : Addr) (fd : FuncData), Mk K C f ∧ mg x = some (.ref C) ∧ C8.Fun K "__init__" qual st f fd ∧ Binds K fd ps []
def initR (cd : CourtD) : RunD := ⟨0, cd.st, cd.st.map fun q => (q.1, []), [], cd.st.map fun q => (q.1, []), [], []⟩
theorem look_take {α β : Type} {qs : List (Str × α)} {i : Nat} {q : Str × α} {z : β} (h : (qs.map (·.1)).Nodup) (e : qs[i]? = some q) : ((qs.take i).map fun q => (q.1, z)).lookup q.1 = none := by
  rw [List.lookup_eq_none_iff]
  intro p hp
  obtain ⟨u, hu, rfl⟩ := List.mem_map.mp hp
  obtain ⟨j, hj, ej⟩ := List.mem_iff_getElem.mp hu
  rw [List.length_take] at hj
  rw [List.getElem_take] at ej
  have hi := (List.getElem?_eq_some_iff.mp e)
  obtain ⟨hi1, hi2⟩ := hi
  have n := List.pairwise_iff_getElem.mp h j i (by rw [List.length_map]; omega) (by rw [List.length_map]; exact hi1) (by omega)
  rw [List.getElem_map, List.getElem_map, ej, hi2] at n
  simp
  exact fun z => n z.symm
theorem kr_strT : ∀ (l : List (Str × Str)), KR StR (strT l) l
  | [] => .nil
  | _ :: l => .cons ⟨rfl, rfl⟩ (kr_strT l)
theorem lgT_snoc {H : Hp} {a : Str} {g : List Leg} {l : Addr} : ∀ {ls : List Addr} {qs : List (Str × List Leg)}, LgR H ls qs → lgT (qs ++ [(a, g)]) (ls ++ [l]) = lgT qs ls ++ [(.inr a, .ref l)]
  | _, _, .nil => rfl
  | _ :: _, _ :: _, .cons _ t => by
    show (Sum.inr _, V.ref _) :: lgT (_ ++ _) (_ ++ _) = _
    rw [lgT_snoc t]
    rfl
theorem strT_at {l : List (Str × Str)} {i : Nat} {k : L2.Key} {v : V} (e : (strT l)[i]? = some (k, v)) : ∃ q, l[i]? = some q ∧ k = .inr q.1 ∧ v = .str q.2 := by
  rw [List.getElem?_map] at e
  cases h : l[i]? with
  | none => rw [h] at e; cases e
  | some q => rw [h] at e; cases e; exact ⟨q, rfl, rfl, rfl⟩
theorem take_snoc {α β : Type} {qs : List α} {i : Nat} {q : α} (f : α → β) (e : qs[i]? = some q) : (qs.take (i + 1)).map f = (qs.take i).map f ++ [f q] := by
  obtain ⟨h1, h2⟩ := List.getElem?_eq_some_iff.mp e
  rw [List.take_succ, e, List.map_append]
  rfl
theorem same_old {H H1 : Hp} {p : Addr} {o : HO} (s : Same H H1) (hp : H p = none) : Same H (upd H1 p o) := fun b u e => by
  rw [upd_ne (ne_of_none e hp)]
  exact s b u e
theorem same_unlock {H Hl : Hp} {a : Addr} {u v : HO} (e : H a = some u) (s : Same (upd H a v) Hl) : Same H (upd Hl a u) := fun b o eb => by
  by_cases z : b = a
  · rw [z, e] at eb
    rw [z, upd_same]
    exact eb
  · rw [upd_ne z]
    exact s _ _ (by rw [upd_ne z]; exact eb)
/-- what is there but x stays -/
def Up (x : Addr) (H H' : Hp) : Prop := ∀ b o, b ≠ x → H b = some o → H' b = some o
theorem Up.same {x : Addr} {H H' : Hp} (s : Same H H') : Up x H H' := fun b o _ e => s b o e
theorem Up.own {x : Addr} {H : Hp} {o : HO} : Up x H (upd H x o) := fun b u n e => by rw [upd_ne n]; exact e
theorem Up.trans {x : Addr} {H H' H'' : Hp} (a : Up x H H') (b : Up x H' H'') : Up x H H'' := fun c o n e => b c o n (a c o n e)
section
variable {P : Program} {w : World} {K : PySem.W.Frag} {mg : Str → Option Value} {base : Heap}
theorem makB {C : Addr} {x qual : Str} {st : Stmt} {N ps : List Str} {k : Nat} {sp : Sp} (D : MakB K mg C x qual st ps) (S : C8.scC N ps (C8.fnScope st) = true) (len : ∀ vs H Q E, sp vs H Q E → vs.length = ps.length)
    (hbody : ∀ (f : Addr) (cdv : Value) (A : Around) (outer : List Env) (s : Shared) (H : Hp) (vs : List V) (Q : VK) (E : XK), Room k (A.deeper (envOfC qual (C8.fnScope st) s.heap.objs.size f cdv)) → sp vs H Q E →
      ∃ t, PSs (cxOf C8.CX0 P w K mg base N qual (C8.fnScope st) f cdv A outer s H E).nox (C8.fnBody st) t ∧ t { nx := fun _ H' => Q .non H', rt := Q } (start N vs) H) : C8.Mak P w K mg base (k + 1) x C sp [] := by
  obtain ⟨f, fd, M, hm, F, b⟩ := D.ex
  exact C8.mak0 M hm F b .nil (C8.fnScope_by S) len (hbody f)
def sp_run_init (CR CC : Addr) : Sp := fun vs H Q _ => ∃ H0 x dx c cd, vs = [.ref x, .ref c] ∧ Same H0 H ∧ H0 x = none ∧ H x = some (.ins CR dx []) ∧ CourtAt H0 CC c cd ∧ (cd.st.map (·.1)).Nodup ∧ cd.st.length < 60 ∧
  ∀ A H', RunAt CR H0 H' x c A (initR cd) → Q .non H'
end
end G

/-! P1 -/
namespace G
open PySem PySem.Spec PyProof.Rows L2
theorem atI_last {α : Type} {xs : List α} {x : α} : atI (xs ++ [x]) (-1) = some x := by
  unfold atI ixN
  simp only [List.length_append, List.length_cons, List.length_nil]
  rw [if_neg (by decide), if_pos (by omega)]
  have e : (-1 + ((xs.length + (0 + 1) : Nat) : Int)).toNat = xs.length := by omega
  simp only [Option.bind_some]
  rw [e]
  simp
theorem cut_to2 (a b c : V) : cutV [a, b, c] none (some 2) = [a, b] := by
  unfold cutV HT.sIx
  simp
/-- the strikes that stand, the last one (k0, b0) behind all -/
def LastAt (H : Hp) : List Addr → Option (Int × Str) → Prop
  | ts, none => ts = []
  | ts, some p => ∃ us t c cs, ts = us ++ [t] ∧ StrikeAt H t p.1 p.2 c cs
def behind (o : Option (Int × Str)) (k : Int) (b : Str) : Bool := match o with
  | none => true
  | some p => lt2 p.1 p.2 k b
section
variable {P : Program} {w : World} {K : PySem.W.Frag} {mg : Str → Option Value} {base : Heap}
def sp_is_behind : Sp := fun vs H Q _ => ∃ l ts s k b ct cs o, vs = [.ref l, .ref s] ∧ H l = some (.lst (ts.map V.ref)) ∧ ts.length < 40 ∧ StrikeAt H s k b ct cs ∧ LastAt H ts o ∧ behind o k b = true ∧ ∀ H', Same H H' → Q (.bl true) H'
end
end G

/-! P2 -/
namespace G
open PySem PySem.Spec PyProof.Rows L2
/-- a statement that is not reached -/
theorem ps_dead {X : Cx} {st : Stmt} : PS X st (fun _ _ _ => False) := ⟨fun _ _ _ _ _ _ h => h.elim⟩
theorem walk_ek {K : PySem.W.Frag} {k : Int} {a : Addr} {xs : List V} : Walk (Iek K k a) xs.length (fun H => SqL K H a xs) (YPair (fun i => some (.int (k + (i : Nat)))) (fun i => xs[i]?)) := by
  refine ⟨fun i _ hi q => ⟨xs, xs[i], q, by simp [hi]⟩, fun _ q => ⟨xs, q, Nat.le_refl _⟩, fun i H v H' _ q y => ?_⟩
  obtain ⟨T, x, h1, h2, h3, h4⟩ := y
  exact ⟨T, .int (k + (i : Nat)), x, h1, h2, h3, rfl, h4 xs q⟩
structure LineD where
  z : Str
  k : Nat
  b : Str
  ps : List Str
  ns : List Nat
def LineD.cs (d : LineD) : List (Str × Int) := d.ps.zip (d.ns.map fun n => ((n : Nat) : Int))
/-- a line that is read as this strike -/
def LineOk (d : LineD) : Prop := d.z.length ≤ 4000 ∧ d.ps.length = d.ns.length ∧ d.ps.length ≤ 1000 ∧
  (∃ ws : List Str, Txt.split d.z " " = ("strike" : Str) :: numS d.k :: d.b :: ws ∧ 1 ≤ d.ns.length ∧ ws.length = 2 * d.ns.length ∧ pickV ((("strike" : Str) :: numS d.k :: d.b :: ws).map V.str) (some 3) none 2 = d.ps.map V.str ∧ pickV ((("strike" : Str) :: numS d.k :: d.b :: ws).map V.str) (some 4) none 2 = (d.ns.map numS).map V.str) ∧
  d.k < 1000000000 ∧ (∀ n ∈ d.ns, n < 1000000000) ∧ strikeForm d.k d.b (d.ps.zip (d.ns.map fun n => ((n : Nat) : Int))) = true ∧ d.b.length ≤ 1000 ∧ (∀ p ∈ d.ps, p.length ≤ 1000)
def readAll (cd : CourtD) : List LineD → Option (Int × Str) → Nat → RunD → Option RunD
  | [], _, _, rd => some rd
  | d :: ds, o, n, rd => if behind o d.k d.b = true ∧ n < 40 then (takeR cd rd d.k d.b d.cs).bind (readAll cd ds (some (d.k, d.b)) (n + 1)) else none
def SksAt (H : Hp) : List Addr → List LineD → Prop := Paired fun (t : Addr) (d : LineD) => ∃ c, StrikeAt H t d.k d.b c d.cs
section
variable {P : Program} {w : World} {K : PySem.W.Frag} {mg : Str → Option Value} {base : Heap}
def sp_read_strikes (CR CC : Addr) : Sp := fun vs H Q _ => ∃ H0 r c A rd rd' z ds cd, vs = [.ref r, .str z] ∧ RunAt CR H0 H r c A rd ∧ CourtAt H0 CC c cd ∧ z.length ≤ 100000 ∧ Txt.split z "\n" = ("play" : Str) :: ds.map LineD.z ∧ (∀ d ∈ ds, LineOk d) ∧ ds.length ≤ 40 ∧
  readAll cd ds none 0 rd = some rd' ∧ ∀ H' s ts, RunAt CR H0 H' r c A rd' → H' s = some (.tup (ts.map V.ref)) → SksAt H' ts ds → Q (.ref s) H'
end
end G

/-! P3 -/
namespace G
open PySem PySem.Spec PyProof.Rows L2
theorem RunAt.low {CR : Addr} {H0 H1 H : Hp} {r c : Addr} {A : RA} {rd : RunD} (R : RunAt CR H1 H r c A rd) (s : Same H0 H1) : RunAt CR H0 H r c A rd :=
  ⟨s.trans R.s0, R.ob, R.pl, R.lf, R.fl, R.lg, R.me, R.st, (fun a ha => by
    cases e : H0 a with
    | none => rfl
    | some o => exact absurd ((R.new a ha).symm.trans (s _ _ e)) (by simp)), R.kn, R.nd⟩
abbrev playFN : List Str := ["run", "court", "text", "strikes"]
abbrev playFs (r c : Addr) (z : Str) (s : Addr) : List (Str × V) := [("run", .ref r), ("court", .ref c), ("text", .str z), ("strikes", .ref s)]
theorem qf_run {r c s : Addr} {z : Str} : (playFs r c z s).lookup ("run" : Str) = some (.ref r) := by kernel_rfl
theorem qf_court {r c s : Addr} {z : Str} : (playFs r c z s).lookup ("court" : Str) = some (.ref c) := by kernel_rfl
/-- a play: its court at c, its text z, its strikes ds, its run at the end -/
structure PlayAt (CP CR : Addr) (H : Hp) (x c : Addr) (z : Str) (ds : List LineD) (rd : RunD) : Prop where
  ex : ∃ (dx r s : Addr) (A : RA) (Hb : Hp) (ts : List Addr), H x = some (.ins CP dx (playFs r c z s)) ∧ RunAt CR Hb H r c A rd ∧ H s = some (.tup (ts.map V.ref)) ∧ SksAt H ts ds
theorem PlayAt.stay {CP CR : Addr} {H H' : Hp} {x c : Addr} {z : Str} {ds : List LineD} {rd : RunD} (h : PlayAt CP CR H x c z ds rd) (s : Same H H') : PlayAt CP CR H' x c z ds rd := by
  obtain ⟨dx, r, t, A, Hb, ts, h1, h2, h3, h4⟩ := h.ex
  exact ⟨dx, r, t, A, Hb, ts, s _ _ h1, h2.grow s, s _ _ h3, Paired.mapP h4 fun _ _ ⟨c, w⟩ => ⟨c, w.stay (Same.tups s)⟩⟩
def playOf (cd : CourtD) (ds : List LineD) (n : Nat) : Option RunD := (readAll cd ds none 0 (initR cd)).bind (finish n)
def TextOk (z : Str) (ds : List LineD) : Prop := z.length ≤ 100000 ∧ Txt.split z "\n" = ("play" : Str) :: ds.map LineD.z ∧ (∀ d ∈ ds, LineOk d) ∧ ds.length ≤ 40
section
variable {P : Program} {w : World} {K : PySem.W.Frag} {mg : Str → Option Value} {base : Heap}
def sp_play_init (CP CR CC : Addr) : Sp := fun vs H Q _ => ∃ H0 x dx c cd z ds n rd, vs = [.ref x, .ref c, .str z] ∧ Same H0 H ∧ H0 x = none ∧ H x = some (.ins CP dx []) ∧ CourtAt H0 CC c cd ∧ (cd.st.map (·.1)).Nodup ∧ cd.st.length < 60 ∧
  TextOk z ds ∧ playOf cd ds n = some rd ∧ ∀ H', Same H0 H' → PlayAt CP CR H' x c z ds rd → Q .non H'
end
end G

/-! P4 -/
namespace G
open PySem PySem.Spec PyProof.Rows L2
inductive Spot where
  | at (p : Str)
  | on (a b : Str) (n m : Int)
def whereL : List Leg → Str → Int → Spot
  | [], p, _ => .at p
  | (a, b, l, c) :: gs, p, t => if l < t ∧ t < c then .on a b (t - l) (c - l) else whereL gs (if c ≤ t then b else p) t
theorem whereL_cons {a b : Str} {l c t : Int} {gs : List Leg} {p : Str} : whereL ((a, b, l, c) :: gs) p t = if l < t ∧ t < c then .on a b (t - l) (c - l) else whereL gs (if c ≤ t then b else p) t := rfl
/-- a spot, as its tuple tells it -/
def SpotAt (H : Hp) (s : Addr) : Spot → Prop
  | .at p => H s = some (.tup [.str "at", .str p])
  | .on a b n m => ∃ u, H s = some (.tup [.str "on", .str a, .str b, .ref u]) ∧ H u = some (.tup [.int (n / ((Int.gcd n m : Nat) : Int)), .int (m / ((Int.gcd n m : Nat) : Int))])
section
variable {P : Program} {w : World} {K : PySem.W.Frag} {mg : Str → Option Value} {base : Heap}
def sp_is_knownD : Sp := fun vs H Q _ => ∃ d kvs v, vs = [.str v, .ref d] ∧ H d = some (.dK kvs) ∧ (valV kvs (.inr v)).isSome = true ∧ Q (.bl true) H
theorem c_is_knownD (B : Blt mg) (D : DefB K mg "is_known" s_is_known ["value", "names"]) : C8.Cal P w K mg base 1 "is_known" sp_is_knownD [] := by
  have S : C8.scC ["value", "names"] ["value", "names"] (C8.fnScope s_is_known) = true := by decide +kernel
  refine calB D S (fun vs H Q E h => ?_) (fun f cdv A0 outer s H vs Q E hr h => ?_)
  · obtain ⟨_, _, _, rfl, _⟩ := h
    rfl
  obtain ⟨d, kvs, v, rfl, hd, hv, q⟩ := h
  have hu := hu_of hr
  refine ⟨_, pss_one (ps_ret (pe_and (t_isi K B (pa_cons (pv 0) (pa_cons (t_ty B.str PyProof.Rows.boot_str) pa_nil))) (pe_one (pe_cmp (pc_din hu (pv 0) (pv 1)) rfl)))), ?_⟩
  refine ⟨_, rfl, _, _, _, _, true, rfl, .ty _, .base (.str _), kit_ty (by decide +kernel), true, rfl, iteT' rfl ?_⟩
  refine ⟨_, rfl, _, rfl, d, _, rfl, DGet.k (k := Sum.inr v) hd, ?_⟩
  rw [hv]
  exact q
def sp_check_ball (CC : Addr) : Sp := fun vs H Q _ => ∃ c b cd, vs = [.ref c, .str b] ∧ CourtAt H CC c cd ∧ (cd.st.lookup b).isSome = true ∧ Q .non H
def sp_check_tick : Sp := fun vs H Q _ => ∃ i : Int, vs = [.int i] ∧ 0 ≤ i ∧ i ≤ 99999 ∧ Q .non H
def sp_where (CP CR CC : Addr) : Sp := fun vs H Q _ => ∃ x c z ds rd cd b t p g, vs = [.ref x, .str b, .int t] ∧ PlayAt CP CR H x c z ds rd ∧ CourtAt H CC c cd ∧ 0 ≤ t ∧ t ≤ 99999 ∧ cd.st.lookup b = some p ∧ rd.legs.lookup b = some g ∧ (∀ e ∈ g, e.2.2.2 - e.2.2.1 < 1073741824) ∧
  ∀ H' s, Same H H' → SpotAt H' s (whereL g p t) → Q (.ref s) H'
end
end G

/-! P5 -/
namespace G
open PySem PySem.Spec PyProof.Rows L2
theorem lc2_it {J : It} {n : Nat} {G : Hp → Prop} {Y : Nat → Hp → V → Hp → Prop} (w : Walk J n G Y) {wi1 : TI} {g g1 : TG} {tt tt1 : TT} {te : TE} {vs vs1 : List Nat} {σ : L2.St} {H1 : Hp} {D : Addr} {Qd : Hp → Prop} (Pv : Nat → Hp → Prop) (h0 : Pv 0 (upd H1 D (.lst []))) (hG : ∀ i H, i ≤ n → Pv i H → G H)
    (hs : ∀ i x H H', i < n → Pv i H → Y i H x H' → g x (wipe σ vs) H' fun σ2 H2 => wipe σ2 vs = wipe σ vs ∧ tt σ2 H2 fun b H3 =>
      if b = true then wi1 σ2 H3 fun J1 H4 => ∃ W1 : Nat → Nat → Hp → Prop, (∃ m, W1 0 m H4) ∧ ∀ j k H, W1 j k H →
        (J1.stop j H ∧ Pv (i + 1) H) ∨ (J1.go j H ∧ ∃ Nx1 : Hp → Prop, (∀ H', Nx1 H' → ∃ k', k' < k ∧ W1 (j + 1) k' H') ∧ ∀ x H', J1.yld j H x H' → g1 x (wipe σ2 vs1) H' fun σ3 H5 => wipe σ3 vs1 = wipe σ2 vs1 ∧ tt1 σ3 H5 fun b H6 =>
          if b = true then te σ3 H6 fun y H7 => ∃ acc, H7 D = some (.lst acc) ∧ acc.length < sizeLine ∧ Nx1 (upd H7 D (.lst (acc ++ [y]))) else Nx1 H6) else Pv (i + 1) H3) (hd : ∀ H, Pv n H → Qd H) :
    ∃ W : Nat → Nat → Hp → Prop, (∃ m, W 0 m (upd H1 D (.lst []))) ∧ ∀ i m H, W i m H →
      (J.stop i H ∧ Qd H) ∨ (J.go i H ∧ ∃ Nx : Hp → Prop, (∀ H', Nx H' → ∃ m', m' < m ∧ W (i + 1) m' H') ∧ ∀ x H', J.yld i H x H' → g x (wipe σ vs) H' fun σ2 H2 => wipe σ2 vs = wipe σ vs ∧ tt σ2 H2 fun b H3 =>
    if b = true then wi1 σ2 H3 fun J1 H4 => ∃ W1 : Nat → Nat → Hp → Prop, (∃ m, W1 0 m H4) ∧ ∀ j k H, W1 j k H →
      (J1.stop j H ∧ Nx H) ∨ (J1.go j H ∧ ∃ Nx1 : Hp → Prop, (∀ H', Nx1 H' → ∃ k', k' < k ∧ W1 (j + 1) k' H') ∧ ∀ x H', J1.yld j H x H' → g1 x (wipe σ2 vs1) H' fun σ3 H5 => wipe σ3 vs1 = wipe σ2 vs1 ∧ tt1 σ3 H5 fun b H6 =>
        if b = true then te σ3 H6 fun y H7 => ∃ acc, H7 D = some (.lst acc) ∧ acc.length < sizeLine ∧ Nx1 (upd H7 D (.lst (acc ++ [y]))) else Nx1 H6)
    else Nx H3) := by
  refine ⟨fun i m H => m = n - i ∧ i ≤ n ∧ Pv i H, ⟨n, by simp, Nat.zero_le _, h0⟩, ?_⟩
  rintro i m H ⟨rfl, hi, p⟩
  have q := hG i H hi p
  by_cases hlt : i < n
  · exact .inr ⟨w.goes i H hlt q, Pv (i + 1), fun H' p' => ⟨n - (i + 1), by omega, rfl, hlt, p'⟩, fun x H' y => hs i x H H' hlt p (w.yields i H x H' hlt q y)⟩
  · have e : i = n := by omega
    subst e
    exact .inl ⟨w.stops H q, hd H p⟩
theorem in_it {J : It} {n : Nat} {G : Hp → Prop} {Y : Nat → Hp → V → Hp → Prop} (w : Walk J n G Y) {g1 : TG} {tt1 : TT} {te : TE} {vs1 : List Nat} {σ2 : L2.St} {H4 : Hp} {D : Addr} {Nx : Hp → Prop} (Pv : Nat → Hp → Prop) (h0 : Pv 0 H4) (hG : ∀ i H, i ≤ n → Pv i H → G H)
    (hs : ∀ i x H H', i < n → Pv i H → Y i H x H' → g1 x (wipe σ2 vs1) H' fun σ3 H5 => wipe σ3 vs1 = wipe σ2 vs1 ∧ tt1 σ3 H5 fun b H6 =>
          if b = true then te σ3 H6 fun y H7 => ∃ acc, H7 D = some (.lst acc) ∧ acc.length < sizeLine ∧ Pv (i + 1) (upd H7 D (.lst (acc ++ [y]))) else Pv (i + 1) H6) (hd : ∀ H, Pv n H → Nx H) :
    ∃ W1 : Nat → Nat → Hp → Prop, (∃ m, W1 0 m H4) ∧ ∀ j k H, W1 j k H →
      (J.stop j H ∧ Nx H) ∨ (J.go j H ∧ ∃ Nx1 : Hp → Prop, (∀ H', Nx1 H' → ∃ k', k' < k ∧ W1 (j + 1) k' H') ∧ ∀ x H', J.yld j H x H' → g1 x (wipe σ2 vs1) H' fun σ3 H5 => wipe σ3 vs1 = wipe σ2 vs1 ∧ tt1 σ3 H5 fun b H6 =>
        if b = true then te σ3 H6 fun y H7 => ∃ acc, H7 D = some (.lst acc) ∧ acc.length < sizeLine ∧ Nx1 (upd H7 D (.lst (acc ++ [y]))) else Nx1 H6) := by
  refine ⟨fun i m H => m = n - i ∧ i ≤ n ∧ Pv i H, ⟨n, by simp, Nat.zero_le _, h0⟩, ?_⟩
  rintro i m H ⟨rfl, hi, p⟩
  have q := hG i H hi p
  by_cases hlt : i < n
  · exact .inr ⟨w.goes i H hlt q, Pv (i + 1), fun H' p' => ⟨n - (i + 1), by omega, rfl, hlt, p'⟩, fun x H' y => hs i x H H' hlt p (w.yields i H x H' hlt q y)⟩
  · have e : i = n := by omega
    subst e
    exact .inl ⟨w.stops H q, hd H p⟩
def maxL : Int → List Int → Int
  | m, [] => m
  | m, x :: xs => maxL (max m x) xs
theorem maxL_ge : ∀ (m : Int) (xs : List Int), m ≤ maxL m xs ∧ (∀ x ∈ xs, x ≤ maxL m xs) ∧ (maxL m xs = m ∨ maxL m xs ∈ xs)
  | m, [] => ⟨Int.le_refl _, (fun x hx => by cases hx), .inl rfl⟩
  | m, x :: xs => by
    obtain ⟨h1, h2, h3⟩ := maxL_ge (max m x) xs
    have e : maxL m (x :: xs) = maxL (max m x) xs := rfl
    rw [e]
    refine ⟨by omega, fun y hy => ?_, ?_⟩
    · rcases List.mem_cons.mp hy with rfl | hy
      · omega
      · exact h2 y hy
    · rcases h3 with h3 | h3
      · by_cases c : x ≤ m
        · left; omega
        · right; rw [h3]; have : max m x = x := by omega
          rw [this]; simp
      · exact .inr (List.mem_cons_of_mem _ h3)
theorem maxL_the {m : Int} {xs : List Int} {k : Int} (h1 : k ∈ m :: xs) (h2 : ∀ y ∈ m :: xs, y ≤ k) : k = maxL m xs := by
  obtain ⟨a, b, c⟩ := maxL_ge m xs
  have l1 : k ≤ maxL m xs := by
    rcases List.mem_cons.mp h1 with rfl | h
    · exact a
    · exact b k h
  have l2 : maxL m xs ≤ k := by
    rcases c with c | c
    · rw [c]; exact h2 m List.mem_cons_self
    · exact h2 _ (List.mem_cons_of_mem _ c)
  omega
def allEnds (rd : RunD) : List Int := rd.legs.flatMap fun q => q.2.map fun g => g.2.2.2
theorem lookup_mem {α : Type} : ∀ {qs : List (Str × α)} {a : Str} {g : α}, (qs.map (·.1)).Nodup → (a, g) ∈ qs → qs.lookup a = some g
  | (b, h) :: qs, a, g, n, m => by
    have n' := List.nodup_cons.mp n
    rw [List.lookup_cons]
    rcases List.mem_cons.mp m with e | m
    · cases e
      simp
    · have ne : (a == b) = false := beq_eq_false_iff_ne.mpr fun z => n'.1 (by rw [← z]; exact List.mem_map_of_mem (f := (·.1)) m)
      rw [ne]
      exact lookup_mem n'.2 m
theorem lgT_at {H : Hp} : ∀ {ls : List Addr} {qs : List (Str × List Leg)} {i : Nat} {k : L2.Key} {v : V}, LgR H ls qs → (lgT qs ls)[i]? = some (k, v) → ∃ q, qs[i]? = some q ∧ k = .inr q.1
  | _, _, _, _, _, .nil, e => by cases e
  | _ :: _, q :: _, 0, _, _, .cons _ _, e => by cases e; exact ⟨q, rfl, rfl⟩
  | _ :: _, _ :: _, i + 1, _, _, .cons _ t, e => by
    obtain ⟨q, h1, h2⟩ := lgT_at t (show (lgT _ _)[i]? = _ from e)
    exact ⟨q, h1, h2⟩
theorem lgT_len {H : Hp} : ∀ {ls : List Addr} {qs : List (Str × List Leg)}, LgR H ls qs → (lgT qs ls).length = qs.length
  | _, _, .nil => rfl
  | _ :: _, _ :: _, .cons _ t => by show (lgT _ _).length + 1 = _; rw [lgT_len t]; rfl
section
variable {P : Program} {w : World} {K : PySem.W.Frag} {mg : Str → Option Value} {base : Heap}
def sp_legs (CP CR CC : Addr) : Sp := fun vs H Q _ => ∃ x c z ds rd cd b g, vs = [.ref x, .str b] ∧ PlayAt CP CR H x c z ds rd ∧ CourtAt H CC c cd ∧ (cd.st.lookup b).isSome = true ∧ rd.legs.lookup b = some g ∧
  ∀ H' s ts, Same H H' → H' s = some (.tup (ts.map V.ref)) → Paired (LegAt H') ts g → Q (.ref s) H'
def sp_strikers (CP CR : Addr) : Sp := fun vs H Q _ => ∃ x c z ds rd, vs = [.ref x] ∧ PlayAt CP CR H x c z ds rd ∧ ∀ H' s ts, Same H H' → H' s = some (.tup (ts.map V.ref)) → Paired (SkAt H') ts rd.strikers → Q (.ref s) H'
def sp_meetings (CP CR : Addr) : Sp := fun vs H Q _ => ∃ x c z ds rd, vs = [.ref x] ∧ PlayAt CP CR H x c z ds rd ∧ ∀ H' s ts, Same H H' → H' s = some (.tup (ts.map V.ref)) → Paired (MeAt H') ts rd.meets → Q (.ref s) H'
def sp_last_tick (CP CR : Addr) : Sp := fun vs H Q _ => ∃ x c z ds rd, vs = [.ref x] ∧ PlayAt CP CR H x c z ds rd ∧ rd.legs.length < 100 ∧ (∀ q ∈ rd.legs, q.2.length < 1000) ∧ ∀ H', Same H H' → Q (.int (maxL 0 (allEnds rd))) H'
end
end G

/-! C1 -/
namespace G
open PySem PySem.Spec PyProof.Rows L2
def putT (ln : List ((Str × Str) × Int)) (k : Str × Str) (n : Int) : List ((Str × Str) × Int) := if (ln.any fun q => decide (q.1 = k)) = true then ln.map (fun q => if q.1 = k then (q.1, n) else q) else ln ++ [(k, n)]
theorem key2 {a b c d : Str} : (([.inr a, .inr b] : List L2.Key) = [.inr c, .inr d]) ↔ ((a, b) = (c, d)) := by
  constructor
  · intro h
    injection h with h1 h2
    injection h2 with h2 h3
    rw [Sum.inr.inj h1, Sum.inr.inj h2]
  · intro h
    injection h with h1 h2
    rw [h1, h2]
theorem lenT_put (ln : List ((Str × Str) × Int)) (a b : Str) (n : Int) : putK (lenT ln) [.inr a, .inr b] (V.int n) = lenT (putT ln (a, b) n) := by
  unfold putK putT
  have e : ((lenT ln).any fun kv => decide (kv.1 = [.inr a, .inr b])) = ln.any fun q => decide (q.1 = (a, b)) := by
    rw [List.any_map]
    congr 1
    funext q
    show decide _ = decide _
    rw [decide_eq_decide]
    exact key2
  rw [e]
  by_cases c : (ln.any fun q => decide (q.1 = (a, b))) = true
  · rw [if_pos c, if_pos c]
    unfold lenT
    rw [List.map_map, List.map_map]
    congr 1
    funext q
    show (if ([.inr q.1.1, .inr q.1.2] : List L2.Key) = [.inr a, .inr b] then _ else _) = _
    by_cases z : q.1 = (a, b)
    · rw [if_pos (key2.mpr z)]
      simp [z]
    · rw [if_neg (fun w => z (key2.mp w))]
      simp [z]
  · rw [if_neg c, if_neg c]
    unfold lenT
    rw [List.map_append]
    rfl
theorem strT_put (ow : List (Str × Str)) (a y : Str) : putK (strT ow) (.inr a) (V.str y) = strT (putA ow a y) := by
  unfold putK putA
  have e : ((strT ow).any fun kv => decide (kv.1 = Sum.inr a)) = ow.any fun q => decide (q.1 = a) := by
    rw [List.any_map]
    congr 1
    funext q
    show decide _ = decide _
    rw [decide_eq_decide]
    exact ⟨fun h => Sum.inr.inj h, fun h => congrArg _ h⟩
  rw [e]
  by_cases c : (ow.any fun q => decide (q.1 = a)) = true
  · rw [if_pos c, if_pos c]
    unfold strT
    rw [List.map_map, List.map_map]
    congr 1
    funext q
    show (if (Sum.inr q.1 : L2.Key) = .inr a then _ else _) = _
    by_cases z : q.1 = a
    · rw [if_pos (congrArg _ z)]
      simp [z]
    · rw [if_neg (fun w => z (Sum.inr.inj w))]
      simp [z]
  · rw [if_neg c, if_neg c]
    unfold strT
    rw [List.map_append]
    rfl
abbrev Fr4 := Int × Int × Int × Int
structure DraftD where
  kind : Nat
  counts : List Int
  stretch : Option Fr4
  places : List Str
  ways : List (Str × Str × Int)
  lengths : List ((Str × Str) × Int)
  rooms : List (Str × List Str)
  owners : List (Str × Str)
  delays : List ((Str × Str) × Int)
  starts : List (Str × Str)
deriving DecidableEq
structure DA where
  co : Addr
  pl : Addr
  wy : Addr
  ln : Addr
  rm : Addr
  ow : Addr
  dl : Addr
  st : Addr
abbrev ownD (d : Addr) (A : DA) : List Addr := [d, A.co, A.pl, A.wy, A.ln, A.rm, A.ow, A.dl, A.st]
abbrev draftFN : List Str := ["kind", "counts", "stretch", "places", "ways", "lengths", "rooms", "owners", "delays", "starts"]
abbrev draftFs (k : Int) (A : DA) (sv : V) : List (Str × V) := [("kind", .int k), ("counts", .ref A.co), ("stretch", sv), ("places", .ref A.pl), ("ways", .ref A.wy), ("lengths", .ref A.ln), ("rooms", .ref A.rm), ("owners", .ref A.ow), ("delays", .ref A.dl), ("starts", .ref A.st)]
section
variable {k j : Int} {A : DA} {sv tv : V}
theorem df_kind : (draftFs k A sv).lookup ("kind" : Str) = some (.int k) := by kernel_rfl
theorem df_counts : (draftFs k A sv).lookup ("counts" : Str) = some (.ref A.co) := by kernel_rfl
theorem df_stretch : (draftFs k A sv).lookup ("stretch" : Str) = some sv := by kernel_rfl
theorem df_places : (draftFs k A sv).lookup ("places" : Str) = some (.ref A.pl) := by kernel_rfl
theorem df_ways : (draftFs k A sv).lookup ("ways" : Str) = some (.ref A.wy) := by kernel_rfl
theorem df_lengths : (draftFs k A sv).lookup ("lengths" : Str) = some (.ref A.ln) := by kernel_rfl
theorem df_rooms : (draftFs k A sv).lookup ("rooms" : Str) = some (.ref A.rm) := by kernel_rfl
theorem df_owners : (draftFs k A sv).lookup ("owners" : Str) = some (.ref A.ow) := by kernel_rfl
theorem df_delays : (draftFs k A sv).lookup ("delays" : Str) = some (.ref A.dl) := by kernel_rfl
theorem df_starts : (draftFs k A sv).lookup ("starts" : Str) = some (.ref A.st) := by kernel_rfl
theorem df_putKind : putF ("kind" : Str) (.int j) (draftFs k A sv) = draftFs j A sv := by kernel_rfl
theorem df_putStretch : putF ("stretch" : Str) tv (draftFs k A sv) = draftFs k A tv := by kernel_rfl
end
def StrR (H : Hp) (v : V) : Option Fr4 → Prop
  | none => v = .non
  | some (a, b, c, d) => ∃ t u u', v = .ref t ∧ H t = some (.tup [.ref u, .ref u']) ∧ H u = some (.tup [.int a, .int b]) ∧ H u' = some (.tup [.int c, .int d])
theorem StrR.stay {H H' : Hp} {v : V} : ∀ {o : Option Fr4}, TupStay H H' → StrR H v o → StrR H' v o
  | none, _, h => h
  | some (_, _, _, _), s, ⟨t, u, u', h1, h2, h3, h4⟩ => ⟨t, u, u', h1, s _ _ h2, s _ _ h3, s _ _ h4⟩
abbrev WayAt (H : Hp) (t : Addr) (g : Str × Str × Int) : Prop := H t = some (.tup [.str g.1, .str g.2.1, .int g.2.2])
abbrev RoomR (H : Hp) (v : V) (rs : List Str) : Prop := ∃ t, v = .ref t ∧ H t = some (.tup (rs.map V.str))
structure DraftAt (CD : Addr) (H0 H : Hp) (d : Addr) (A : DA) (dd : DraftD) : Prop where
  s0 : Same H0 H
  ob : ∃ dx sv, H d = some (.ins CD dx (draftFs dd.kind A sv)) ∧ StrR H sv dd.stretch
  co : H A.co = some (.lst (dd.counts.map V.int))
  pl : H A.pl = some (.lst (dd.places.map V.str))
  wy : ∃ ts, H A.wy = some (.lst (ts.map V.ref)) ∧ Paired (WayAt H) ts dd.ways
  ln : H A.ln = some (.dT (lenT dd.lengths))
  rm : ∃ kvs, H A.rm = some (.dK kvs) ∧ KR (RoomR H) kvs dd.rooms
  ow : H A.ow = some (.dK (strT dd.owners))
  dl : H A.dl = some (.dT (lenT dd.delays))
  st : H A.st = some (.dK (strT dd.starts))
  new : ∀ a ∈ ownD d A, H0 a = none
  nd : (ownD d A).Nodup
section
variable {CD : Addr} {H0 H H' : Hp} {d : Addr} {A : DA} {dd : DraftD}
theorem DraftAt.hand (R : DraftAt CD H0 H d A dd) (s0 : Same H0 H') (t : TupStay H H') (s : ∀ a ∈ ownD d A, ∀ o, H a = some o → H' a = some o) : DraftAt CD H0 H' d A dd := by
  obtain ⟨dx, sv, h1, h2⟩ := R.ob
  obtain ⟨ts, w1, w2⟩ := R.wy
  obtain ⟨kvs, r1, r2⟩ := R.rm
  exact ⟨s0, ⟨dx, sv, s _ (by simp [ownD]) _ h1, h2.stay t⟩, s _ (by simp [ownD]) _ R.co, s _ (by simp [ownD]) _ R.pl, ⟨ts, s _ (by simp [ownD]) _ w1, Paired.mapP w2 fun _ _ z => t _ _ z⟩, s _ (by simp [ownD]) _ R.ln, ⟨kvs, s _ (by simp [ownD]) _ r1, r2.imp fun _ _ ⟨x, e, z⟩ => ⟨x, e, t _ _ z⟩⟩, s _ (by simp [ownD]) _ R.ow, s _ (by simp [ownD]) _ R.dl, s _ (by simp [ownD]) _ R.st, R.new, R.nd⟩
theorem DraftAt.grow (R : DraftAt CD H0 H d A dd) (s : Same H H') : DraftAt CD H0 H' d A dd := R.hand (R.s0.trans s) (Same.tups s) fun a _ o e => s a o e
theorem DraftAt.other (R : DraftAt CD H0 H d A dd) {x : Addr} {o u : HO} (hx : x ∉ ownD d A) (h0 : H0 x = none) (hu : H x = some u) (n : ∀ xs, u ≠ .tup xs) : DraftAt CD H0 (upd H x o) d A dd :=
  R.hand (fun b v e => by rw [upd_ne (ne_of_none e h0)]; exact R.s0 _ _ e) (tups_upd hu n) fun a ha v e => by
    have nx : a ≠ x := fun z => hx (z ▸ ha)
    rw [upd_ne nx]
    exact e
theorem DraftAt.own (R : DraftAt CD H0 H d A dd) {a : Addr} {o u : HO} (ha : a ∈ ownD d A) (hu : H a = some u) (n : ∀ xs, u ≠ .tup xs) :
    Same H0 (upd H a o) ∧ TupStay H (upd H a o) ∧ ∀ b, b ≠ a → (upd H a o) b = H b :=
  ⟨fun b v e => by rw [upd_ne (ne_of_none e (R.new a ha))]; exact R.s0 _ _ e, tups_upd hu n, fun b hb => upd_ne hb⟩
open Classical in
noncomputable def lessD (H : Hp) (d : Addr) (A : DA) : Hp := fun b => if b ∈ ownD d A then none else H b
theorem lessD_some {b : Addr} {o : HO} (h : H b = some o) (n : b ∉ ownD d A) : lessD H d A b = some o := by
  unfold lessD
  rw [if_neg n]
  exact h
theorem DraftAt.rebase (R : DraftAt CD H0 H d A dd) : DraftAt CD (lessD H d A) H d A dd :=
  ⟨fun b o e => by
    unfold lessD at e
    split at e
    · cases e
    · exact e, R.ob, R.co, R.pl, R.wy, R.ln, R.rm, R.ow, R.dl, R.st, fun a ha => by unfold lessD; rw [if_pos ha], R.nd⟩
theorem DraftAt.base {dd' : DraftD} (R : DraftAt CD H0 H d A dd) (R' : DraftAt CD (lessD H d A) H' d A dd') : DraftAt CD H0 H' d A dd' :=
  ⟨fun b o e => R'.s0 b o (lessD_some (R.s0 b o e) (fun hb => by rw [R.new b hb] at e; cases e)), R'.ob, R'.co, R'.pl, R'.wy, R'.ln, R'.rm, R'.ow, R'.dl, R'.st, R.new, R'.nd⟩
theorem DraftAt.setOb (R : DraftAt CD H0 H d A dd) {dy : Addr} {k : Nat} {tv : V} {o : Option Fr4} (hv : StrR H tv o) : DraftAt CD H0 (upd H d (.ins CD dy (draftFs k A tv))) d A { dd with kind := k, stretch := o } := by
  have nd := R.nd
  obtain ⟨dx, sv, h1, h2⟩ := R.ob
  obtain ⟨us, w1, w2⟩ := R.wy
  obtain ⟨kvs, r1, r2⟩ := R.rm
  obtain ⟨s0, ts, ot⟩ := R.own (a := d) (o := .ins CD dy (draftFs k A tv)) (by simp [ownD]) h1 (fun _ z => by cases z)
  exact ⟨s0, ⟨dy, tv, upd_same, hv.stay ts⟩, (ot _ (fun z => by simp [z] at nd)).trans R.co, (ot _ (fun z => by simp [z] at nd)).trans R.pl, ⟨us, (ot _ (fun z => by simp [z] at nd)).trans w1, Paired.mapP w2 fun _ _ z => ts _ _ z⟩, (ot _ (fun z => by simp [z] at nd)).trans R.ln, ⟨kvs, (ot _ (fun z => by simp [z] at nd)).trans r1, r2.imp fun _ _ ⟨x, e, z⟩ => ⟨x, e, ts _ _ z⟩⟩, (ot _ (fun z => by simp [z] at nd)).trans R.ow, (ot _ (fun z => by simp [z] at nd)).trans R.dl, (ot _ (fun z => by simp [z] at nd)).trans R.st, R.new, R.nd⟩
theorem DraftAt.setCounts (R : DraftAt CD H0 H d A dd) (xs : List Int) : DraftAt CD H0 (upd H A.co (.lst (xs.map V.int))) d A { dd with counts := xs } := by
  have nd := R.nd
  obtain ⟨dx, sv, h1, h2⟩ := R.ob
  obtain ⟨us, w1, w2⟩ := R.wy
  obtain ⟨kvs, r1, r2⟩ := R.rm
  obtain ⟨s0, ts, ot⟩ := R.own (a := A.co) (o := .lst (xs.map V.int)) (by simp [ownD]) R.co (fun _ z => by cases z)
  exact ⟨s0, ⟨dx, sv, (ot _ (fun z => by simp [z] at nd)).trans h1, h2.stay ts⟩, upd_same, (ot _ (fun z => by simp [z] at nd)).trans R.pl, ⟨us, (ot _ (fun z => by simp [z] at nd)).trans w1, Paired.mapP w2 fun _ _ z => ts _ _ z⟩, (ot _ (fun z => by simp [z] at nd)).trans R.ln, ⟨kvs, (ot _ (fun z => by simp [z] at nd)).trans r1, r2.imp fun _ _ ⟨x, e, z⟩ => ⟨x, e, ts _ _ z⟩⟩, (ot _ (fun z => by simp [z] at nd)).trans R.ow, (ot _ (fun z => by simp [z] at nd)).trans R.dl, (ot _ (fun z => by simp [z] at nd)).trans R.st, R.new, R.nd⟩
theorem DraftAt.setPlaces (R : DraftAt CD H0 H d A dd) (xs : List Str) : DraftAt CD H0 (upd H A.pl (.lst (xs.map V.str))) d A { dd with places := xs } := by
  have nd := R.nd
  obtain ⟨dx, sv, h1, h2⟩ := R.ob
  obtain ⟨us, w1, w2⟩ := R.wy
  obtain ⟨kvs, r1, r2⟩ := R.rm
  obtain ⟨s0, ts, ot⟩ := R.own (a := A.pl) (o := .lst (xs.map V.str)) (by simp [ownD]) R.pl (fun _ z => by cases z)
  exact ⟨s0, ⟨dx, sv, (ot _ (fun z => by simp [z] at nd)).trans h1, h2.stay ts⟩, (ot _ (fun z => by simp [z] at nd)).trans R.co, upd_same, ⟨us, (ot _ (fun z => by simp [z] at nd)).trans w1, Paired.mapP w2 fun _ _ z => ts _ _ z⟩, (ot _ (fun z => by simp [z] at nd)).trans R.ln, ⟨kvs, (ot _ (fun z => by simp [z] at nd)).trans r1, r2.imp fun _ _ ⟨x, e, z⟩ => ⟨x, e, ts _ _ z⟩⟩, (ot _ (fun z => by simp [z] at nd)).trans R.ow, (ot _ (fun z => by simp [z] at nd)).trans R.dl, (ot _ (fun z => by simp [z] at nd)).trans R.st, R.new, R.nd⟩
theorem DraftAt.setWays (R : DraftAt CD H0 H d A dd) {vs : List Addr} {xs : List (Str × Str × Int)} (k : Paired (WayAt H) vs xs) : DraftAt CD H0 (upd H A.wy (.lst (vs.map V.ref))) d A { dd with ways := xs } := by
  have nd := R.nd
  obtain ⟨dx, sv, h1, h2⟩ := R.ob
  obtain ⟨us, w1, w2⟩ := R.wy
  obtain ⟨kvs, r1, r2⟩ := R.rm
  obtain ⟨s0, ts, ot⟩ := R.own (a := A.wy) (o := .lst (vs.map V.ref)) (by simp [ownD]) w1 (fun _ z => by cases z)
  exact ⟨s0, ⟨dx, sv, (ot _ (fun z => by simp [z] at nd)).trans h1, h2.stay ts⟩, (ot _ (fun z => by simp [z] at nd)).trans R.co, (ot _ (fun z => by simp [z] at nd)).trans R.pl, ⟨vs, upd_same, Paired.mapP k fun _ _ z => ts _ _ z⟩, (ot _ (fun z => by simp [z] at nd)).trans R.ln, ⟨kvs, (ot _ (fun z => by simp [z] at nd)).trans r1, r2.imp fun _ _ ⟨x, e, z⟩ => ⟨x, e, ts _ _ z⟩⟩, (ot _ (fun z => by simp [z] at nd)).trans R.ow, (ot _ (fun z => by simp [z] at nd)).trans R.dl, (ot _ (fun z => by simp [z] at nd)).trans R.st, R.new, R.nd⟩
theorem DraftAt.setLengths (R : DraftAt CD H0 H d A dd) (xs : List ((Str × Str) × Int)) : DraftAt CD H0 (upd H A.ln (.dT (lenT xs))) d A { dd with lengths := xs } := by
  have nd := R.nd
  obtain ⟨dx, sv, h1, h2⟩ := R.ob
  obtain ⟨us, w1, w2⟩ := R.wy
  obtain ⟨kvs, r1, r2⟩ := R.rm
  obtain ⟨s0, ts, ot⟩ := R.own (a := A.ln) (o := .dT (lenT xs)) (by simp [ownD]) R.ln (fun _ z => by cases z)
  exact ⟨s0, ⟨dx, sv, (ot _ (fun z => by simp [z] at nd)).trans h1, h2.stay ts⟩, (ot _ (fun z => by simp [z] at nd)).trans R.co, (ot _ (fun z => by simp [z] at nd)).trans R.pl, ⟨us, (ot _ (fun z => by simp [z] at nd)).trans w1, Paired.mapP w2 fun _ _ z => ts _ _ z⟩, upd_same, ⟨kvs, (ot _ (fun z => by simp [z] at nd)).trans r1, r2.imp fun _ _ ⟨x, e, z⟩ => ⟨x, e, ts _ _ z⟩⟩, (ot _ (fun z => by simp [z] at nd)).trans R.ow, (ot _ (fun z => by simp [z] at nd)).trans R.dl, (ot _ (fun z => by simp [z] at nd)).trans R.st, R.new, R.nd⟩
theorem DraftAt.setRooms (R : DraftAt CD H0 H d A dd) {ks : List (L2.Key × V)} {xs : List (Str × List Str)} (k : KR (RoomR H) ks xs) : DraftAt CD H0 (upd H A.rm (.dK ks)) d A { dd with rooms := xs } := by
  have nd := R.nd
  obtain ⟨dx, sv, h1, h2⟩ := R.ob
  obtain ⟨us, w1, w2⟩ := R.wy
  obtain ⟨kvs, r1, r2⟩ := R.rm
  obtain ⟨s0, ts, ot⟩ := R.own (a := A.rm) (o := .dK ks) (by simp [ownD]) r1 (fun _ z => by cases z)
  exact ⟨s0, ⟨dx, sv, (ot _ (fun z => by simp [z] at nd)).trans h1, h2.stay ts⟩, (ot _ (fun z => by simp [z] at nd)).trans R.co, (ot _ (fun z => by simp [z] at nd)).trans R.pl, ⟨us, (ot _ (fun z => by simp [z] at nd)).trans w1, Paired.mapP w2 fun _ _ z => ts _ _ z⟩, (ot _ (fun z => by simp [z] at nd)).trans R.ln, ⟨ks, upd_same, k.imp fun _ _ ⟨x, e, z⟩ => ⟨x, e, ts _ _ z⟩⟩, (ot _ (fun z => by simp [z] at nd)).trans R.ow, (ot _ (fun z => by simp [z] at nd)).trans R.dl, (ot _ (fun z => by simp [z] at nd)).trans R.st, R.new, R.nd⟩
theorem DraftAt.setOwners (R : DraftAt CD H0 H d A dd) (xs : List (Str × Str)) : DraftAt CD H0 (upd H A.ow (.dK (strT xs))) d A { dd with owners := xs } := by
  have nd := R.nd
  obtain ⟨dx, sv, h1, h2⟩ := R.ob
  obtain ⟨us, w1, w2⟩ := R.wy
  obtain ⟨kvs, r1, r2⟩ := R.rm
  obtain ⟨s0, ts, ot⟩ := R.own (a := A.ow) (o := .dK (strT xs)) (by simp [ownD]) R.ow (fun _ z => by cases z)
  exact ⟨s0, ⟨dx, sv, (ot _ (fun z => by simp [z] at nd)).trans h1, h2.stay ts⟩, (ot _ (fun z => by simp [z] at nd)).trans R.co, (ot _ (fun z => by simp [z] at nd)).trans R.pl, ⟨us, (ot _ (fun z => by simp [z] at nd)).trans w1, Paired.mapP w2 fun _ _ z => ts _ _ z⟩, (ot _ (fun z => by simp [z] at nd)).trans R.ln, ⟨kvs, (ot _ (fun z => by simp [z] at nd)).trans r1, r2.imp fun _ _ ⟨x, e, z⟩ => ⟨x, e, ts _ _ z⟩⟩, upd_same, (ot _ (fun z => by simp [z] at nd)).trans R.dl, (ot _ (fun z => by simp [z] at nd)).trans R.st, R.new, R.nd⟩
theorem DraftAt.setDelays (R : DraftAt CD H0 H d A dd) (xs : List ((Str × Str) × Int)) : DraftAt CD H0 (upd H A.dl (.dT (lenT xs))) d A { dd with delays := xs } := by
  have nd := R.nd
  obtain ⟨dx, sv, h1, h2⟩ := R.ob
  obtain ⟨us, w1, w2⟩ := R.wy
  obtain ⟨kvs, r1, r2⟩ := R.rm
  obtain ⟨s0, ts, ot⟩ := R.own (a := A.dl) (o := .dT (lenT xs)) (by simp [ownD]) R.dl (fun _ z => by cases z)
  exact ⟨s0, ⟨dx, sv, (ot _ (fun z => by simp [z] at nd)).trans h1, h2.stay ts⟩, (ot _ (fun z => by simp [z] at nd)).trans R.co, (ot _ (fun z => by simp [z] at nd)).trans R.pl, ⟨us, (ot _ (fun z => by simp [z] at nd)).trans w1, Paired.mapP w2 fun _ _ z => ts _ _ z⟩, (ot _ (fun z => by simp [z] at nd)).trans R.ln, ⟨kvs, (ot _ (fun z => by simp [z] at nd)).trans r1, r2.imp fun _ _ ⟨x, e, z⟩ => ⟨x, e, ts _ _ z⟩⟩, (ot _ (fun z => by simp [z] at nd)).trans R.ow, upd_same, (ot _ (fun z => by simp [z] at nd)).trans R.st, R.new, R.nd⟩
theorem DraftAt.setStarts (R : DraftAt CD H0 H d A dd) (xs : List (Str × Str)) : DraftAt CD H0 (upd H A.st (.dK (strT xs))) d A { dd with starts := xs } := by
  have nd := R.nd
  obtain ⟨dx, sv, h1, h2⟩ := R.ob
  obtain ⟨us, w1, w2⟩ := R.wy
  obtain ⟨kvs, r1, r2⟩ := R.rm
  obtain ⟨s0, ts, ot⟩ := R.own (a := A.st) (o := .dK (strT xs)) (by simp [ownD]) R.st (fun _ z => by cases z)
  exact ⟨s0, ⟨dx, sv, (ot _ (fun z => by simp [z] at nd)).trans h1, h2.stay ts⟩, (ot _ (fun z => by simp [z] at nd)).trans R.co, (ot _ (fun z => by simp [z] at nd)).trans R.pl, ⟨us, (ot _ (fun z => by simp [z] at nd)).trans w1, Paired.mapP w2 fun _ _ z => ts _ _ z⟩, (ot _ (fun z => by simp [z] at nd)).trans R.ln, ⟨kvs, (ot _ (fun z => by simp [z] at nd)).trans r1, r2.imp fun _ _ ⟨x, e, z⟩ => ⟨x, e, ts _ _ z⟩⟩, (ot _ (fun z => by simp [z] at nd)).trans R.ow, (ot _ (fun z => by simp [z] at nd)).trans R.dl, upd_same, R.new, R.nd⟩
end
end G

/-! C2 -/
namespace G
open PySem PySem.Spec PyProof.Rows L2
section
variable {X : Cx} {k j : Nat} {C : Addr} {x : Str} {sp : Sp} {dvs : List V} {p pos : Pos}
theorem pe_mk0 (c : C8.Mak X.prog X.w X.K X.mg X.base k x C sp dvs) (hr : Room j X.A) (hk : k + 1 ≤ j) (hg : Gl X x) (hdb : (x == ("__debug__" : Str)) = false := by decide) : PE X (.Call (.Name x p) [] [] pos) (tMake C sp dvs C8.E0 tNil) := by
  obtain ⟨f, fd, ps, ds, M, F, hm, b, d⟩ := c.ex
  exact pe_make0 M F (hr.mono hk) hg hm b d C8.pass0 hdb
end
/-- a global tuple -/
def GT (K : PySem.W.Frag) (mg : Str → Option Value) (x : Str) (xs : List V) : Prop := ∃ k, mg x = some (.ref k) ∧ (∀ H, SqT K H k xs) ∧ ∃ o, K.lookup k = some o ∧ o.cls = .type "tuple" ∧ o.dict = none
def kindsL : List Str := ["court", "stretch", "place", "way", "player", "delay", "ball"]
def leastL : List Int := [1, 1, 2, 1, 2, 0, 1]
def mostL : List Int := [1, 1, 12, 40, 6, 30, 6]
def draft0 : DraftD := ⟨0, [0, 0, 0, 0, 0, 0, 0], none, [], [], [], [], [], [], []⟩
def isTurn (dd : DraftD) (k : Nat) : Bool := decide (dd.kind ≤ k) && decide (dd.counts[k]? ≠ mostL[k]?) && (List.range k).all fun e => match dd.counts[e]?, leastL[e]? with
  | some c, some l => decide (l ≤ c)
  | _, _ => false
section
variable {P : Program} {w : World} {K : PySem.W.Frag} {mg : Str → Option Value} {base : Heap}
def sp_draft_init (CD : Addr) : Sp := fun vs H Q _ => ∃ H0 x dx, vs = [.ref x] ∧ Same H0 H ∧ H0 x = none ∧ H x = some (.ins CD dx []) ∧ ∀ A H', DraftAt CD H0 H' x A draft0 → Q .non H'
theorem k_draft {CD : Addr} (B : Blt mg) (F : ClsF K CD draftFN) (G1 : GT K mg "KINDS" (kindsL.map V.str)) (D : MakB K mg CD "Draft" "Draft.__init__" s_Draft_init ["self"]) : C8.Mak P w K mg base 1 "Draft" CD (sp_draft_init CD) [] := by
  have S : C8.scC ["self"] ["self"] (C8.fnScope s_Draft_init) = true := by decide +kernel
  have nd := (C8.fnScope_by S).nd
  refine makB D S (fun vs H Q E h => ?_) (fun f cdv Ar outer s H vs Q E hr h => ?_)
  · obtain ⟨_, _, _, rfl, _⟩ := h
    rfl
  obtain ⟨H0, x, dx, rfl, s0, x0, hx, q⟩ := h
  obtain ⟨kk, g1, g2, gO⟩ := G1
  refine ⟨_, pss_cons (ps_fld (pv 0) pe_int rfl)
    (pss_cons (ps_fld (pv 0) (pe_op op_rep (pe_lst (pa_cons pe_int pa_nil)) (t_len K B (pa_cons (pe_glob (v := .ref kk) (by rfl) g1 rfl) pa_nil))) rfl)
    (pss_cons (ps_fld (pv 0) pe_non rfl)
    (pss_cons (ps_fld (pv 0) (pe_lst pa_nil) rfl)
    (pss_cons (ps_fld (pv 0) (pe_lst pa_nil) rfl)
    (pss_cons (ps_fld (pv 0) pe_dnewT rfl)
    (pss_cons (ps_fld (pv 0) pe_dnewK rfl)
    (pss_cons (ps_fld (pv 0) pe_dnewK rfl)
    (pss_cons (ps_fld (pv 0) pe_dnewT rfl)
    (pss_one (ps_fld (pv 0) pe_dnewK rfl)))))))))), ?_⟩
  have nx : ∀ {b : Addr} {o : HO}, H0 b = some o → b ≠ x := fun {b o} e z => by rw [z, x0] at e; cases e
  have e3 : ∀ {b : Addr} {Hn : Hp}, Up x H0 Hn → Hn b = none → H0 b = none := fun {b Hn} u e => by
    cases z : H0 b with
    | none => rfl
    | some o => rw [u _ _ (nx z) z] at e; cases e
  have u0 : Up x H0 H := Up.same s0
  have x_0 := hx
  refine ⟨_, rfl, x, CD, dx, _, rfl, x_0, F.cl, F.no "kind" (by decide +kernel), by show 0 < 1000; decide, ?_⟩
  have v_0 : Up x H (upd H x (.ins CD dx (putF ("kind" : Str) (.int 0) []))) := .own
  have u1 := u0.trans v_0
  have x_1 : (upd H x (.ins CD dx (putF ("kind" : Str) (.int 0) []))) x = some (.ins CD dx [("kind", .int 0)]) := by rw [upd_same]; congr 1
  generalize upd H x (.ins CD dx (putF ("kind" : Str) (.int 0) [])) = H1 at u1 x_1 
  refine ⟨by show 1 ≤ sizeLine; decide, fun p1 hp1 => ?_⟩
  have y1 := same_new (o := .lst [.int 0]) hp1
  have z1 : (upd H1 p1 (.lst [.int 0])) p1 = some (.lst [.int 0]) := upd_same
  have u1b := u1.trans (Up.same y1)
  have x_1b := y1 _ _ x_1
  generalize upd H1 p1 (.lst [.int 0]) = H1b at y1 z1 u1b x_1b
  refine ⟨kk, _, rfl, .inr (g2 _), p1, 7, _, rfl, by rfl, z1, by decide, by decide, by show 1 * 7 ≤ sizeLine; decide, fun co hco => ?_⟩
  rw [show (List.replicate (7 : Int).toNat [V.int 0]).flatten = [.int 0, .int 0, .int 0, .int 0, .int 0, .int 0, .int 0] from rfl]
  have nco : co ≠ x := fun z => by rw [z, x_1b] at hco; cases hco
  have oco : H0 co = none := e3 u1b hco
  have s_1 := same_new (o := .lst [.int 0, .int 0, .int 0, .int 0, .int 0, .int 0, .int 0]) hco
  refine ⟨_, rfl, x, CD, dx, _, rfl, s_1 _ _ x_1b, F.cl, F.no "counts" (by decide +kernel), by show 1 < 1000; decide, ?_⟩
  have v_1 : Up x H1b (upd (upd H1b co (.lst [.int 0, .int 0, .int 0, .int 0, .int 0, .int 0, .int 0])) x (.ins CD dx (putF ("counts" : Str) (.ref co) [("kind", .int 0)]))) := (Up.same s_1).trans .own
  have u2 := u1b.trans v_1
  have x_2 : (upd (upd H1b co (.lst [.int 0, .int 0, .int 0, .int 0, .int 0, .int 0, .int 0])) x (.ins CD dx (putF ("counts" : Str) (.ref co) [("kind", .int 0)]))) x = some (.ins CD dx [("kind", .int 0), ("counts", .ref co)]) := by rw [upd_same]; congr 1
  have h_co_2 : (upd (upd H1b co (.lst [.int 0, .int 0, .int 0, .int 0, .int 0, .int 0, .int 0])) x (.ins CD dx (putF ("counts" : Str) (.ref co) [("kind", .int 0)]))) co = some (.lst [.int 0, .int 0, .int 0, .int 0, .int 0, .int 0, .int 0]) := by rw [upd_ne nco, upd_same]
  generalize upd (upd H1b co (.lst [.int 0, .int 0, .int 0, .int 0, .int 0, .int 0, .int 0])) x (.ins CD dx (putF ("counts" : Str) (.ref co) [("kind", .int 0)])) = H2 at u2 x_2 h_co_2
  refine ⟨_, rfl, x, CD, dx, _, rfl, x_2, F.cl, F.no "stretch" (by decide +kernel), by show 2 < 1000; decide, ?_⟩
  have v_2 : Up x H2 (upd H2 x (.ins CD dx (putF ("stretch" : Str) (.non) [("kind", .int 0), ("counts", .ref co)]))) := .own
  have u3 := u2.trans v_2
  have x_3 : (upd H2 x (.ins CD dx (putF ("stretch" : Str) (.non) [("kind", .int 0), ("counts", .ref co)]))) x = some (.ins CD dx [("kind", .int 0), ("counts", .ref co), ("stretch", .non)]) := by rw [upd_same]; congr 1
  have h_co_3 := v_2 _ _ nco h_co_2
  generalize upd H2 x (.ins CD dx (putF ("stretch" : Str) (.non) [("kind", .int 0), ("counts", .ref co)])) = H3 at u3 x_3 h_co_3
  refine ⟨by show 0 ≤ sizeLine; decide, fun pl hpl => ?_⟩
  have npl : pl ≠ x := fun z => by rw [z, x_3] at hpl; cases hpl
  have opl : H0 pl = none := e3 u3 hpl
  have d_co_pl : co ≠ pl := ne_of_none h_co_3 hpl
  have s_3 := same_new (o := .lst []) hpl
  refine ⟨_, rfl, x, CD, dx, _, rfl, s_3 _ _ x_3, F.cl, F.no "places" (by decide +kernel), by show 3 < 1000; decide, ?_⟩
  have v_3 : Up x H3 (upd (upd H3 pl (.lst [])) x (.ins CD dx (putF ("places" : Str) (.ref pl) [("kind", .int 0), ("counts", .ref co), ("stretch", .non)]))) := (Up.same s_3).trans .own
  have u4 := u3.trans v_3
  have x_4 : (upd (upd H3 pl (.lst [])) x (.ins CD dx (putF ("places" : Str) (.ref pl) [("kind", .int 0), ("counts", .ref co), ("stretch", .non)]))) x = some (.ins CD dx [("kind", .int 0), ("counts", .ref co), ("stretch", .non), ("places", .ref pl)]) := by rw [upd_same]; congr 1
  have h_co_4 := v_3 _ _ nco h_co_3
  have h_pl_4 : (upd (upd H3 pl (.lst [])) x (.ins CD dx (putF ("places" : Str) (.ref pl) [("kind", .int 0), ("counts", .ref co), ("stretch", .non)]))) pl = some (.lst []) := by rw [upd_ne npl, upd_same]
  generalize upd (upd H3 pl (.lst [])) x (.ins CD dx (putF ("places" : Str) (.ref pl) [("kind", .int 0), ("counts", .ref co), ("stretch", .non)])) = H4 at u4 x_4 h_co_4 h_pl_4
  refine ⟨by show 0 ≤ sizeLine; decide, fun wy hwy => ?_⟩
  have nwy : wy ≠ x := fun z => by rw [z, x_4] at hwy; cases hwy
  have owy : H0 wy = none := e3 u4 hwy
  have d_co_wy : co ≠ wy := ne_of_none h_co_4 hwy
  have d_pl_wy : pl ≠ wy := ne_of_none h_pl_4 hwy
  have s_4 := same_new (o := .lst []) hwy
  refine ⟨_, rfl, x, CD, dx, _, rfl, s_4 _ _ x_4, F.cl, F.no "ways" (by decide +kernel), by show 4 < 1000; decide, ?_⟩
  have v_4 : Up x H4 (upd (upd H4 wy (.lst [])) x (.ins CD dx (putF ("ways" : Str) (.ref wy) [("kind", .int 0), ("counts", .ref co), ("stretch", .non), ("places", .ref pl)]))) := (Up.same s_4).trans .own
  have u5 := u4.trans v_4
  have x_5 : (upd (upd H4 wy (.lst [])) x (.ins CD dx (putF ("ways" : Str) (.ref wy) [("kind", .int 0), ("counts", .ref co), ("stretch", .non), ("places", .ref pl)]))) x = some (.ins CD dx [("kind", .int 0), ("counts", .ref co), ("stretch", .non), ("places", .ref pl), ("ways", .ref wy)]) := by rw [upd_same]; congr 1
  have h_co_5 := v_4 _ _ nco h_co_4
  have h_pl_5 := v_4 _ _ npl h_pl_4
  have h_wy_5 : (upd (upd H4 wy (.lst [])) x (.ins CD dx (putF ("ways" : Str) (.ref wy) [("kind", .int 0), ("counts", .ref co), ("stretch", .non), ("places", .ref pl)]))) wy = some (.lst []) := by rw [upd_ne nwy, upd_same]
  generalize upd (upd H4 wy (.lst [])) x (.ins CD dx (putF ("ways" : Str) (.ref wy) [("kind", .int 0), ("counts", .ref co), ("stretch", .non), ("places", .ref pl)])) = H5 at u5 x_5 h_co_5 h_pl_5 h_wy_5
  intro ln hln
  have nln : ln ≠ x := fun z => by rw [z, x_5] at hln; cases hln
  have oln : H0 ln = none := e3 u5 hln
  have d_co_ln : co ≠ ln := ne_of_none h_co_5 hln
  have d_pl_ln : pl ≠ ln := ne_of_none h_pl_5 hln
  have d_wy_ln : wy ≠ ln := ne_of_none h_wy_5 hln
  have s_5 := same_new (o := .dT []) hln
  refine ⟨_, rfl, x, CD, dx, _, rfl, s_5 _ _ x_5, F.cl, F.no "lengths" (by decide +kernel), by show 5 < 1000; decide, ?_⟩
  have v_5 : Up x H5 (upd (upd H5 ln (.dT [])) x (.ins CD dx (putF ("lengths" : Str) (.ref ln) [("kind", .int 0), ("counts", .ref co), ("stretch", .non), ("places", .ref pl), ("ways", .ref wy)]))) := (Up.same s_5).trans .own
  have u6 := u5.trans v_5
  have x_6 : (upd (upd H5 ln (.dT [])) x (.ins CD dx (putF ("lengths" : Str) (.ref ln) [("kind", .int 0), ("counts", .ref co), ("stretch", .non), ("places", .ref pl), ("ways", .ref wy)]))) x = some (.ins CD dx [("kind", .int 0), ("counts", .ref co), ("stretch", .non), ("places", .ref pl), ("ways", .ref wy), ("lengths", .ref ln)]) := by rw [upd_same]; congr 1
  have h_co_6 := v_5 _ _ nco h_co_5
  have h_pl_6 := v_5 _ _ npl h_pl_5
  have h_wy_6 := v_5 _ _ nwy h_wy_5
  have h_ln_6 : (upd (upd H5 ln (.dT [])) x (.ins CD dx (putF ("lengths" : Str) (.ref ln) [("kind", .int 0), ("counts", .ref co), ("stretch", .non), ("places", .ref pl), ("ways", .ref wy)]))) ln = some (.dT []) := by rw [upd_ne nln, upd_same]
  generalize upd (upd H5 ln (.dT [])) x (.ins CD dx (putF ("lengths" : Str) (.ref ln) [("kind", .int 0), ("counts", .ref co), ("stretch", .non), ("places", .ref pl), ("ways", .ref wy)])) = H6 at u6 x_6 h_co_6 h_pl_6 h_wy_6 h_ln_6
  intro rm hrm
  have nrm : rm ≠ x := fun z => by rw [z, x_6] at hrm; cases hrm
  have orm : H0 rm = none := e3 u6 hrm
  have d_co_rm : co ≠ rm := ne_of_none h_co_6 hrm
  have d_pl_rm : pl ≠ rm := ne_of_none h_pl_6 hrm
  have d_wy_rm : wy ≠ rm := ne_of_none h_wy_6 hrm
  have d_ln_rm : ln ≠ rm := ne_of_none h_ln_6 hrm
  have s_6 := same_new (o := .dK []) hrm
  refine ⟨_, rfl, x, CD, dx, _, rfl, s_6 _ _ x_6, F.cl, F.no "rooms" (by decide +kernel), by show 6 < 1000; decide, ?_⟩
  have v_6 : Up x H6 (upd (upd H6 rm (.dK [])) x (.ins CD dx (putF ("rooms" : Str) (.ref rm) [("kind", .int 0), ("counts", .ref co), ("stretch", .non), ("places", .ref pl), ("ways", .ref wy), ("lengths", .ref ln)]))) := (Up.same s_6).trans .own
  have u7 := u6.trans v_6
  have x_7 : (upd (upd H6 rm (.dK [])) x (.ins CD dx (putF ("rooms" : Str) (.ref rm) [("kind", .int 0), ("counts", .ref co), ("stretch", .non), ("places", .ref pl), ("ways", .ref wy), ("lengths", .ref ln)]))) x = some (.ins CD dx [("kind", .int 0), ("counts", .ref co), ("stretch", .non), ("places", .ref pl), ("ways", .ref wy), ("lengths", .ref ln), ("rooms", .ref rm)]) := by rw [upd_same]; congr 1
  have h_co_7 := v_6 _ _ nco h_co_6
  have h_pl_7 := v_6 _ _ npl h_pl_6
  have h_wy_7 := v_6 _ _ nwy h_wy_6
  have h_ln_7 := v_6 _ _ nln h_ln_6
  have h_rm_7 : (upd (upd H6 rm (.dK [])) x (.ins CD dx (putF ("rooms" : Str) (.ref rm) [("kind", .int 0), ("counts", .ref co), ("stretch", .non), ("places", .ref pl), ("ways", .ref wy), ("lengths", .ref ln)]))) rm = some (.dK []) := by rw [upd_ne nrm, upd_same]
  generalize upd (upd H6 rm (.dK [])) x (.ins CD dx (putF ("rooms" : Str) (.ref rm) [("kind", .int 0), ("counts", .ref co), ("stretch", .non), ("places", .ref pl), ("ways", .ref wy), ("lengths", .ref ln)])) = H7 at u7 x_7 h_co_7 h_pl_7 h_wy_7 h_ln_7 h_rm_7
  intro ow how
  have now : ow ≠ x := fun z => by rw [z, x_7] at how; cases how
  have oow : H0 ow = none := e3 u7 how
  have d_co_ow : co ≠ ow := ne_of_none h_co_7 how
  have d_pl_ow : pl ≠ ow := ne_of_none h_pl_7 how
  have d_wy_ow : wy ≠ ow := ne_of_none h_wy_7 how
  have d_ln_ow : ln ≠ ow := ne_of_none h_ln_7 how
  have d_rm_ow : rm ≠ ow := ne_of_none h_rm_7 how
  have s_7 := same_new (o := .dK []) how
  refine ⟨_, rfl, x, CD, dx, _, rfl, s_7 _ _ x_7, F.cl, F.no "owners" (by decide +kernel), by show 7 < 1000; decide, ?_⟩
  have v_7 : Up x H7 (upd (upd H7 ow (.dK [])) x (.ins CD dx (putF ("owners" : Str) (.ref ow) [("kind", .int 0), ("counts", .ref co), ("stretch", .non), ("places", .ref pl), ("ways", .ref wy), ("lengths", .ref ln), ("rooms", .ref rm)]))) := (Up.same s_7).trans .own
  have u8 := u7.trans v_7
  have x_8 : (upd (upd H7 ow (.dK [])) x (.ins CD dx (putF ("owners" : Str) (.ref ow) [("kind", .int 0), ("counts", .ref co), ("stretch", .non), ("places", .ref pl), ("ways", .ref wy), ("lengths", .ref ln), ("rooms", .ref rm)]))) x = some (.ins CD dx [("kind", .int 0), ("counts", .ref co), ("stretch", .non), ("places", .ref pl), ("ways", .ref wy), ("lengths", .ref ln), ("rooms", .ref rm), ("owners", .ref ow)]) := by rw [upd_same]; congr 1
  have h_co_8 := v_7 _ _ nco h_co_7
  have h_pl_8 := v_7 _ _ npl h_pl_7
  have h_wy_8 := v_7 _ _ nwy h_wy_7
  have h_ln_8 := v_7 _ _ nln h_ln_7
  have h_rm_8 := v_7 _ _ nrm h_rm_7
  have h_ow_8 : (upd (upd H7 ow (.dK [])) x (.ins CD dx (putF ("owners" : Str) (.ref ow) [("kind", .int 0), ("counts", .ref co), ("stretch", .non), ("places", .ref pl), ("ways", .ref wy), ("lengths", .ref ln), ("rooms", .ref rm)]))) ow = some (.dK []) := by rw [upd_ne now, upd_same]
  generalize upd (upd H7 ow (.dK [])) x (.ins CD dx (putF ("owners" : Str) (.ref ow) [("kind", .int 0), ("counts", .ref co), ("stretch", .non), ("places", .ref pl), ("ways", .ref wy), ("lengths", .ref ln), ("rooms", .ref rm)])) = H8 at u8 x_8 h_co_8 h_pl_8 h_wy_8 h_ln_8 h_rm_8 h_ow_8
  intro dl hdl
  have ndl : dl ≠ x := fun z => by rw [z, x_8] at hdl; cases hdl
  have odl : H0 dl = none := e3 u8 hdl
  have d_co_dl : co ≠ dl := ne_of_none h_co_8 hdl
  have d_pl_dl : pl ≠ dl := ne_of_none h_pl_8 hdl
  have d_wy_dl : wy ≠ dl := ne_of_none h_wy_8 hdl
  have d_ln_dl : ln ≠ dl := ne_of_none h_ln_8 hdl
  have d_rm_dl : rm ≠ dl := ne_of_none h_rm_8 hdl
  have d_ow_dl : ow ≠ dl := ne_of_none h_ow_8 hdl
  have s_8 := same_new (o := .dT []) hdl
  refine ⟨_, rfl, x, CD, dx, _, rfl, s_8 _ _ x_8, F.cl, F.no "delays" (by decide +kernel), by show 8 < 1000; decide, ?_⟩
  have v_8 : Up x H8 (upd (upd H8 dl (.dT [])) x (.ins CD dx (putF ("delays" : Str) (.ref dl) [("kind", .int 0), ("counts", .ref co), ("stretch", .non), ("places", .ref pl), ("ways", .ref wy), ("lengths", .ref ln), ("rooms", .ref rm), ("owners", .ref ow)]))) := (Up.same s_8).trans .own
  have u9 := u8.trans v_8
  have x_9 : (upd (upd H8 dl (.dT [])) x (.ins CD dx (putF ("delays" : Str) (.ref dl) [("kind", .int 0), ("counts", .ref co), ("stretch", .non), ("places", .ref pl), ("ways", .ref wy), ("lengths", .ref ln), ("rooms", .ref rm), ("owners", .ref ow)]))) x = some (.ins CD dx [("kind", .int 0), ("counts", .ref co), ("stretch", .non), ("places", .ref pl), ("ways", .ref wy), ("lengths", .ref ln), ("rooms", .ref rm), ("owners", .ref ow), ("delays", .ref dl)]) := by rw [upd_same]; congr 1
  have h_co_9 := v_8 _ _ nco h_co_8
  have h_pl_9 := v_8 _ _ npl h_pl_8
  have h_wy_9 := v_8 _ _ nwy h_wy_8
  have h_ln_9 := v_8 _ _ nln h_ln_8
  have h_rm_9 := v_8 _ _ nrm h_rm_8
  have h_ow_9 := v_8 _ _ now h_ow_8
  have h_dl_9 : (upd (upd H8 dl (.dT [])) x (.ins CD dx (putF ("delays" : Str) (.ref dl) [("kind", .int 0), ("counts", .ref co), ("stretch", .non), ("places", .ref pl), ("ways", .ref wy), ("lengths", .ref ln), ("rooms", .ref rm), ("owners", .ref ow)]))) dl = some (.dT []) := by rw [upd_ne ndl, upd_same]
  generalize upd (upd H8 dl (.dT [])) x (.ins CD dx (putF ("delays" : Str) (.ref dl) [("kind", .int 0), ("counts", .ref co), ("stretch", .non), ("places", .ref pl), ("ways", .ref wy), ("lengths", .ref ln), ("rooms", .ref rm), ("owners", .ref ow)])) = H9 at u9 x_9 h_co_9 h_pl_9 h_wy_9 h_ln_9 h_rm_9 h_ow_9 h_dl_9
  intro st hst
  have nst : st ≠ x := fun z => by rw [z, x_9] at hst; cases hst
  have ost : H0 st = none := e3 u9 hst
  have d_co_st : co ≠ st := ne_of_none h_co_9 hst
  have d_pl_st : pl ≠ st := ne_of_none h_pl_9 hst
  have d_wy_st : wy ≠ st := ne_of_none h_wy_9 hst
  have d_ln_st : ln ≠ st := ne_of_none h_ln_9 hst
  have d_rm_st : rm ≠ st := ne_of_none h_rm_9 hst
  have d_ow_st : ow ≠ st := ne_of_none h_ow_9 hst
  have d_dl_st : dl ≠ st := ne_of_none h_dl_9 hst
  have s_9 := same_new (o := .dK []) hst
  refine ⟨_, rfl, x, CD, dx, _, rfl, s_9 _ _ x_9, F.cl, F.no "starts" (by decide +kernel), by show 9 < 1000; decide, ?_⟩
  have v_9 : Up x H9 (upd (upd H9 st (.dK [])) x (.ins CD dx (putF ("starts" : Str) (.ref st) [("kind", .int 0), ("counts", .ref co), ("stretch", .non), ("places", .ref pl), ("ways", .ref wy), ("lengths", .ref ln), ("rooms", .ref rm), ("owners", .ref ow), ("delays", .ref dl)]))) := (Up.same s_9).trans .own
  have u10 := u9.trans v_9
  have x_10 : (upd (upd H9 st (.dK [])) x (.ins CD dx (putF ("starts" : Str) (.ref st) [("kind", .int 0), ("counts", .ref co), ("stretch", .non), ("places", .ref pl), ("ways", .ref wy), ("lengths", .ref ln), ("rooms", .ref rm), ("owners", .ref ow), ("delays", .ref dl)]))) x = some (.ins CD dx [("kind", .int 0), ("counts", .ref co), ("stretch", .non), ("places", .ref pl), ("ways", .ref wy), ("lengths", .ref ln), ("rooms", .ref rm), ("owners", .ref ow), ("delays", .ref dl), ("starts", .ref st)]) := by rw [upd_same]; congr 1
  have h_co_10 := v_9 _ _ nco h_co_9
  have h_pl_10 := v_9 _ _ npl h_pl_9
  have h_wy_10 := v_9 _ _ nwy h_wy_9
  have h_ln_10 := v_9 _ _ nln h_ln_9
  have h_rm_10 := v_9 _ _ nrm h_rm_9
  have h_ow_10 := v_9 _ _ now h_ow_9
  have h_dl_10 := v_9 _ _ ndl h_dl_9
  have h_st_10 : (upd (upd H9 st (.dK [])) x (.ins CD dx (putF ("starts" : Str) (.ref st) [("kind", .int 0), ("counts", .ref co), ("stretch", .non), ("places", .ref pl), ("ways", .ref wy), ("lengths", .ref ln), ("rooms", .ref rm), ("owners", .ref ow), ("delays", .ref dl)]))) st = some (.dK []) := by rw [upd_ne nst, upd_same]
  generalize upd (upd H9 st (.dK [])) x (.ins CD dx (putF ("starts" : Str) (.ref st) [("kind", .int 0), ("counts", .ref co), ("stretch", .non), ("places", .ref pl), ("ways", .ref wy), ("lengths", .ref ln), ("rooms", .ref rm), ("owners", .ref ow), ("delays", .ref dl)])) = H10 at u10 x_10 h_co_10 h_pl_10 h_wy_10 h_ln_10 h_rm_10 h_ow_10 h_dl_10 h_st_10
  refine q ⟨co, pl, wy, ln, rm, ow, dl, st⟩ _ ⟨fun b o e => u10 _ _ (nx e) e, ⟨dx, .non, x_10, rfl⟩, h_co_10, h_pl_10, ⟨[], h_wy_10, .nil⟩, h_ln_10, ⟨[], h_rm_10, .nil⟩, h_ow_10, h_dl_10, h_st_10, ?_, ?_⟩
  · intro a ha
    simp only [List.mem_cons, List.not_mem_nil, or_false] at ha
    rcases ha with rfl | rfl | rfl | rfl | rfl | rfl | rfl | rfl | rfl
    · exact x0

    · exact oco
    · exact opl
    · exact owy
    · exact oln
    · exact orm
    · exact oow
    · exact odl
    · exact ost
  · simp only [List.nodup_cons, List.mem_cons, not_or, List.not_mem_nil, not_false_eq_true, and_true, List.nodup_nil]
    exact ⟨⟨nco.symm, npl.symm, nwy.symm, nln.symm, nrm.symm, now.symm, ndl.symm, nst.symm⟩, ⟨d_co_pl, d_co_wy, d_co_ln, d_co_rm, d_co_ow, d_co_dl, d_co_st⟩, ⟨d_pl_wy, d_pl_ln, d_pl_rm, d_pl_ow, d_pl_dl, d_pl_st⟩, ⟨d_wy_ln, d_wy_rm, d_wy_ow, d_wy_dl, d_wy_st⟩, ⟨d_ln_rm, d_ln_ow, d_ln_dl, d_ln_st⟩, ⟨d_rm_ow, d_rm_dl, d_rm_st⟩, ⟨d_ow_dl, d_ow_st⟩, d_dl_st⟩
end
end G

/-! C3 -/
namespace G
open PySem PySem.Spec PyProof.Rows L2
theorem range_const {α : Type} {x : α} : ∀ n : Nat, (List.range n).filterMap (fun _ => some x) = List.replicate n x
  | 0 => rfl
  | n + 1 => by
    rw [List.range_succ, List.filterMap_append, range_const n, List.replicate_succ']
    rfl
section
variable {P : Program} {w : World} {K : PySem.W.Frag} {mg : Str → Option Value} {base : Heap}
def sp_is_turn (CD : Addr) : Sp := fun vs H Q _ => ∃ H0 d A dd, ∃ k : Nat, vs = [.ref d, .int k] ∧ DraftAt CD H0 H d A dd ∧ k < 7 ∧ dd.counts.length = 7 ∧ isTurn dd k = true ∧ ∀ H', Same H H' → Q (.bl true) H'
theorem c_is_turn {CD : Addr} (B : Blt mg) (F : ClsF K CD draftFN) (G1 : GT K mg "MOST" (mostL.map V.int)) (G2 : GT K mg "LEAST" (leastL.map V.int)) (D : DefB K mg "is_turn" s_is_turn ["draft", "kind"]) : C8.Cal P w K mg base 1 "is_turn" (sp_is_turn CD) [] := by
  have S : C8.scC ["draft", "kind", "earlier"] ["draft", "kind"] (C8.fnScope s_is_turn) = true := by decide +kernel
  have nd := (C8.fnScope_by S).nd
  have nK := F.no "kind" (by decide +kernel)
  have nC := F.no "counts" (by decide +kernel)
  refine calB D S (fun vs H Q E h => ?_) (fun f cdv Ar outer s H vs Q E hr h => ?_)
  · obtain ⟨_, _, _, _, _, rfl, _⟩ := h
    rfl
  obtain ⟨H0, d, A, dd, k, rfl, R, hk, hc, ht, q⟩ := h
  obtain ⟨k1, g1, g2, _⟩ := G1
  obtain ⟨k2, g3, g4, _⟩ := G2
  refine ⟨_, pss_cons (ps_if (PW.pt (pw_or (pt_cmpR op_lt (pv 1) (t_f K (pv 0)) (nomark _)) (pw_or1 (pt_cmpR op_eq (t_il K (t_f K (pv 0)) (pv 1)) (t_it K (pe_glob (v := .ref k1) (by rfl) g1 rfl) (pv 1)) (nomark _))))) (pss_one (ps_ret pe_bl)) pss_nil)
    (pss_one (ps_ret (t_all K rfl B (pa_cons (pe_lc (own := [("earlier", 2)]) (g := gName 2) (tt := tYes) rfl nd (pi_range1 (by rfl) B.rng (pa_cons (pv 1) pa_nil)) (blkOk_by (N := ["draft", "kind", "earlier"]) (sc := C8.fnScope s_is_turn) (by decide +kernel)) (fun _ _ _ _ _ => pg_name (i := 2) nd rfl (.inl rfl)) (fun _ _ _ _ _ => pts_nil)
      (fun _ _ _ _ _ => pe_cmpR op_ge (t_il K (t_f K (pv 0)) (pv 2)) (t_it K (pe_glob (v := .ref k2) (by rfl) g3 rfl) (pv 2)) (nomark _))) pa_nil)))), ?_⟩
  obtain ⟨dx, sv, hob, _⟩ := R.ob
  unfold isTurn at ht
  simp only [Bool.and_eq_true, decide_eq_true_eq] at ht
  obtain ⟨⟨t1, t2⟩, t3⟩ := ht
  have hck : ∃ c, dd.counts[k]? = some c := ⟨_, List.getElem?_eq_getElem (by omega)⟩
  obtain ⟨c, hck⟩ := hck
  have hmk : ∃ m, mostL[k]? = some m := ⟨_, List.getElem?_eq_getElem (show k < 7 from hk)⟩
  obtain ⟨m, hmk⟩ := hmk
  have mapI : ∀ {xs : List Int} {i : Nat} {c : Int}, xs[i]? = some c → (xs.map V.int)[i]? = some (.int c) := fun {xs i c} e => by rw [List.getElem?_map, e]; rfl
  refine ⟨_, rfl, _, rfl, d, CD, dx, _, _, rfl, hob, F.cl, nK, df_kind, _, _, rfl, rfl, _, rfl, iteF' (by simp; omega) ?_⟩
  refine ⟨_, rfl, d, CD, dx, _, _, rfl, hob, F.cl, nC, df_counts, _, rfl, A.co, _, k, _, rfl, rfl, SqL.of R.co, atI_0 (mapI hck), _, rfl, k1, _, k, _, rfl, rfl, g2 _, atI_0 (mapI hmk), rfl, _, rfl, iteF' ?_ ?_⟩
  · rw [hck, hmk] at t2
    refine decide_eq_false fun z => ?_
    injection z with z
    exact t2 (by rw [z])
  refine ⟨_, rfl, (k : Int), rfl, by omega, by omega, fun Dd hD => ?_⟩
  refine lc_fm (walk_range (lo := 0) (n := k)) (fun i => some (.bl true)) (by omega) hD (fun _ _ => trivial) ?_ ?_
  · rintro i x H4 H3 Kk Kn hi s4 ⟨rfl, rfl⟩ k1' k2'
    have hi7 : i < 7 := by omega
    obtain ⟨ci, hci⟩ : ∃ c, dd.counts[i]? = some c := ⟨_, List.getElem?_eq_getElem (by omega)⟩
    obtain ⟨li, hli⟩ : ∃ m, leastL[i]? = some m := ⟨_, List.getElem?_eq_getElem (show i < 7 from hi7)⟩
    have t4 := List.all_eq_true.mp t3 i (List.mem_range.mpr hi)
    rw [hci, hli] at t4
    have e0 : (0 : Int) + (i : Nat) = (i : Nat) := by omega
    show gName 2 (.int (0 + (i : Nat))) _ _ _
    rw [e0]
    refine ⟨rfl, yes_if ⟨_, rfl, d, CD, dx, _, _, rfl, s4 _ _ hob, F.cl, nC, df_counts, _, rfl, A.co, _, i, _, rfl, rfl, SqL.of (s4 _ _ R.co), atI_0 (mapI hci), _, rfl, k2, _, i, _, rfl, rfl, g4 _, atI_0 (mapI hli), _, _, rfl, rfl, ?_⟩⟩
    show Kk (.bl (decide (li ≤ ci))) _
    rw [show decide (li ≤ ci) = true from t4]
    exact k1' _ _ rfl (Same.refl _)
  · intro H4 s4 h4
    refine ⟨Dd, List.replicate k true, rfl, SqL.of ?_, ?_⟩
    · rw [h4]
      rw [range_const, List.map_replicate]
    · rw [show (List.replicate k true).all id = true by simp]
      exact q _ s4
end
end G

/-! C4 -/
namespace G
open PySem PySem.Spec PyProof.Rows L2
abbrev Step := DraftD → List Str → DraftD → Prop
/-- a line's words are taken into the draft -/
def sp_tk (CD : Addr) (step : Step) : Sp := fun vs H Q _ => ∃ H0 d A dd dd' w ws, vs = [.ref d, .ref w] ∧ DraftAt CD H0 H d A dd ∧ H0 w = some (.lst (ws.map V.str)) ∧ (∀ x ∈ ws, x.length ≤ 1000) ∧ ws.length ≤ 100 ∧ step dd ws dd' ∧ ∀ H', DraftAt CD H0 H' d A dd' → Q (.bl true) H'
def tkCourt : Step := fun dd ws dd' => ws.length = 1 ∧ dd' = dd
def tkStretch : Step := fun dd ws dd' => ∃ z0 z1 z2 : Str, ∃ a b c e : Nat, ws = [z0, z1, z2] ∧ fracWord z1 a b ∧ fracWord z2 c e ∧ a < 1000000000 ∧ b < 1000000000 ∧ c < 1000000000 ∧ e < 1000000000 ∧ fracOk a b = true ∧ fracOk c e = true ∧ strOk a b c e = true ∧ dd' = { dd with stretch := some (a, b, c, e) }
def tkPlace : Step := fun dd ws dd' => ∃ z0 n : Str, ws = [z0, n] ∧ nameOk n = true ∧ n ∉ dd.places ∧ dd.places.length < 100 ∧ dd' = { dd with places := dd.places ++ [n] }
theorem inV_str (x : Str) (xs : List Str) : inV (.str x) (xs.map V.str) = decide (x ∈ xs) := by
  induction xs with
  | nil => rfl
  | cons y ys ih =>
    rw [List.map_cons]
    show (eqV (.str y) (.str x) || inV (.str x) (ys.map V.str)) = _
    rw [ih]
    show ((y == x) || decide (x ∈ ys)) = _
    by_cases c : y = x
    · simp [c]
    · have c2 : ¬ x = y := fun z => c z.symm
      simp [c, c2]
theorem flat_strs (xs : List Str) : (xs.map V.str).all flatV = true := by
  rw [List.all_map]
  exact List.all_eq_true.mpr fun _ _ => rfl
section
variable {P : Program} {w : World} {K : PySem.W.Frag} {mg : Str → Option Value} {base : Heap}
theorem c_take_court {CD : Addr} (B : Blt mg) (D : DefB K mg "take_court" s_take_court ["draft", "words"]) : C8.Cal P w K mg base 1 "take_court" (sp_tk CD tkCourt) [] := by
  have S : C8.scC ["draft", "words"] ["draft", "words"] (C8.fnScope s_take_court) = true := by decide +kernel
  refine calB D S (fun vs H Q E h => ?_) (fun f cdv Ar outer s H vs Q E hr h => ?_)
  · obtain ⟨_, _, _, _, _, _, _, rfl, _⟩ := h
    rfl
  obtain ⟨H0, d, A, dd, dd', wa, ws, rfl, R, hw, hwl, hwn, ht, q⟩ := h
  refine ⟨_, pss_one (ps_ret (pe_cmpR op_eq (t_len K B (pa_cons (pv 1) pa_nil)) pe_int (nomark _))), ?_⟩
  obtain ⟨h1, rfl⟩ := ht
  refine ⟨_, rfl, wa, _, rfl, .inl (SqL.of (R.s0 _ _ hw)), rfl, ?_⟩
  rw [List.length_map, h1]
  exact q H R
theorem c_take_stretch {CD : Addr} (B : Blt mg) (F : ClsF K CD draftFN) (D : DefB K mg "take_stretch" s_take_stretch ["draft", "words"]) (C1 : C8.Cal P w K mg base 3 "read_fraction" sp_read_fraction []) (C2 : C8.Cal P w K mg base 3 "is_stretch" sp_is_stretch []) :
    C8.Cal P w K mg base 4 "take_stretch" (sp_tk CD tkStretch) [] := by
  have S : C8.scC ["draft", "words"] ["draft", "words"] (C8.fnScope s_take_stretch) = true := by decide +kernel
  have nS := F.no "stretch" (by decide +kernel)
  refine calB D S (fun vs H Q E h => ?_) (fun f cdv Ar outer s H vs Q E hr h => ?_)
  · obtain ⟨_, _, _, _, _, _, _, rfl, _⟩ := h
    rfl
  obtain ⟨H0, d, A, dd, dd', wa, ws, rfl, R, hw, hwl, hwn, ht, q⟩ := h
  refine ⟨_, pss_cons (ps_if (pt_cmpR op_ne (t_len K B (pa_cons (pv 1) pa_nil)) pe_int (nomark _)) (pss_one (ps_ret pe_bl)) pss_nil)
    (pss_cons (ps_fld (pv 0) (pe_tup (pa_cons (C8.pe_c C1 hr (by decide) rfl (pa_cons (t_il K (pv 1) pe_int) pa_nil)) (pa_cons (C8.pe_c C1 hr (by decide) rfl (pa_cons (t_il K (pv 1) pe_int) pa_nil)) pa_nil))) rfl)
    (pss_one (ps_ret (C8.pe_c C2 hr (by decide) rfl (pa_cons (t_it K (t_f K (pv 0)) pe_int) (pa_cons (t_it K (t_f K (pv 0)) pe_int) pa_nil)))))), ?_⟩
  obtain ⟨z0, z1, z2, a, b, c, e, rfl, f1, f2, a1, b1, c1, e1, g1, g2, g3, rfl⟩ := ht
  have hw' := R.s0 _ _ hw
  refine ⟨_, rfl, wa, _, rfl, .inl (SqL.of hw'), rfl, _, rfl, iteF' rfl ?_⟩
  refine ⟨_, rfl, wa, _, 1, _, rfl, rfl, SqL.of hw', atI_0 (n := 1) rfl, z1, a, b, rfl, f1, a1, b1, g1, fun H1 t1 s1 ht1 => ?_⟩
  refine ⟨_, rfl, wa, _, 2, _, rfl, rfl, SqL.of (s1 _ _ hw'), atI_0 (n := 2) rfl, z2, c, e, rfl, f2, c1, e1, g2, fun H2 t2 s2 ht2 => ?_⟩
  refine ⟨by show 2 ≤ sizeLine; decide, fun p hp => ?_⟩
  have s3 := (s1.trans s2).trans (same_new (o := .tup [.ref t1, .ref t2]) hp)
  have ht1' := (same_new (o := .tup [.ref t1, .ref t2]) hp) _ _ (s2 _ _ ht1)
  have ht2' := (same_new (o := .tup [.ref t1, .ref t2]) hp) _ _ ht2
  have hp' : (upd H2 p (.tup [.ref t1, .ref t2])) p = some (.tup [.ref t1, .ref t2]) := upd_same
  generalize upd H2 p (.tup [.ref t1, .ref t2]) = H3 at s3 ht1' ht2' hp'
  have R3 := R.grow s3
  obtain ⟨dx, sv, hob, hsv⟩ := R3.ob
  refine ⟨_, rfl, d, CD, dx, _, rfl, hob, F.cl, nS, by show 10 < 1000; decide, ?_⟩
  rw [df_putStretch]
  have R4 := R3.setOb (dy := dx) (k := dd.kind) (tv := .ref p) (o := some ((a : Int), (b : Int), (c : Int), (e : Int))) ⟨p, t1, t2, rfl, hp', ht1', ht2'⟩
  have tt := tups_upd (o := .ins CD dx (draftFs dd.kind A (.ref p))) hob (fun _ z => by cases z)
  have x1 := tt _ _ hp'
  have y1 := tt _ _ ht1'
  have y2 := tt _ _ ht2'
  have o1 : (upd H3 d (.ins CD dx (draftFs dd.kind A (.ref p)))) d = some (.ins CD dx (draftFs dd.kind A (.ref p))) := upd_same
  generalize upd H3 d (.ins CD dx (draftFs dd.kind A (.ref p))) = H4 at R4 x1 y1 y2 o1
  refine ⟨_, rfl, d, CD, dx, _, _, rfl, o1, F.cl, nS, df_stretch, p, _, 0, _, rfl, rfl, SqT.of x1, atI_0 (n := 0) rfl, _, rfl, d, CD, dx, _, _, rfl, o1, F.cl, nS, df_stretch, p, _, 1, _, rfl, rfl, SqT.of x1, atI_0 (n := 1) rfl, t1, t2, a, b, c, e, rfl, y1, y2, g3, by omega, by omega, fun H5 s5 => ?_⟩
  exact q _ (R4.grow s5)
theorem c_take_place {CD : Addr} (B : Blt mg) (F : ClsF K CD draftFN) (D : DefB K mg "take_place" s_take_place ["draft", "words"]) (C1 : C8.Cal P w K mg base 1 "is_name" sp_is_name []) : C8.Cal P w K mg base 2 "take_place" (sp_tk CD tkPlace) [] := by
  have S : C8.scC ["draft", "words"] ["draft", "words"] (C8.fnScope s_take_place) = true := by decide +kernel
  have nP := F.no "places" (by decide +kernel)
  refine calB D S (fun vs H Q E h => ?_) (fun f cdv Ar outer s H vs Q E hr h => ?_)
  · obtain ⟨_, _, _, _, _, _, _, rfl, _⟩ := h
    rfl
  obtain ⟨H0, d, A, dd, dd', wa, ws, rfl, R, hw, hwl, hwn, ht, q⟩ := h
  refine ⟨_, pss_cons (ps_if (PW.pt (pw_or (pt_cmpR op_ne (t_len K B (pa_cons (pv 1) pa_nil)) pe_int (nomark _)) (pw_or (pt_not (pt_val (C8.pe_c C1 hr (by decide) rfl (pa_cons (t_il K (pv 1) pe_int) pa_nil)))) (pw_or1 (pt_cmpR op_in_seq (t_il K (pv 1) pe_int) (t_f K (pv 0)) (by rfl)))))) (pss_one (ps_ret pe_bl)) pss_nil)
    (pss_cons (ps_expr (pe_bm PySem.F.plainAttrs_list PySem.F.slot_list_append PySem.F.type_list_append mt_append (t_f K (pv 0)) (pa_cons (t_il K (pv 1) pe_int) pa_nil)))
    (pss_one (ps_ret pe_bl))), ?_⟩
  obtain ⟨z0, n, rfl, h1, h2, h3, rfl⟩ := ht
  have hw' := R.s0 _ _ hw
  obtain ⟨dx, sv, hob, hsv⟩ := R.ob
  refine ⟨_, rfl, wa, _, rfl, .inl (SqL.of hw'), rfl, _, rfl, iteF' rfl ?_⟩
  refine ⟨_, rfl, wa, _, 1, _, rfl, rfl, SqL.of hw', atI_0 (n := 1) rfl, n, rfl, hwl n (by simp), fun H1 s1 => ⟨_, rfl, ?_⟩⟩
  rw [h1]
  have R1 := R.grow s1
  obtain ⟨dx1, sv1, hob1, hsv1⟩ := R1.ob
  have hw1 := s1 _ _ hw'
  refine iteF' rfl ⟨_, rfl, wa, _, 1, _, rfl, rfl, SqL.of hw1, atI_0 (n := 1) rfl, _, rfl, d, CD, dx1, _, _, rfl, hob1, F.cl, nP, df_places, A.pl, _, rfl, .inl (SqL.of R1.pl), rfl, flat_strs _, _, rfl, ?_⟩
  simp only [Bool.false_eq_true, if_false]
  rw [inV_str, decide_eq_false h2]
  refine iteF' rfl ⟨_, rfl, d, CD, dx1, _, _, rfl, hob1, F.cl, nP, df_places, .inl ⟨rfl, _, SqL.of R1.pl⟩, _, rfl, wa, _, 1, _, rfl, rfl, SqL.of hw1, atI_0 (n := 1) rfl, A.pl, _, _, rfl, rfl, R1.pl, by rw [List.length_map, sizeLine_eq]; omega, ?_⟩
  have R2 := R1.setPlaces (dd.places ++ [n])
  rw [List.map_append] at R2
  exact q _ R2
end
end G

/-! G12 -/
namespace G
open PySem PySem.Spec PyProof.Rows L2
section
variable {X : Cx}
/-- len(set(xs)), a tuple of fewer than 60 texts, none twice -/
def tLenSet (K : PySem.W.Frag) (ta : TE) : TE := fun σ H Q => ta σ H fun x H1 => ∃ l, ∃ xs : List Str, x = .ref l ∧ SqT K H1 l (xs.map V.str) ∧ xs.length < 60 ∧ xs.Nodup ∧ Q (.int xs.length) H1
theorem pe_lenSet {e : Expr} {ta : TE} {p p2 q pos : Pos} (hc : X.calm = true) (hg : Gl X "len") (hm : X.mg "len" = none) (hg2 : Gl X "set") (hm2 : X.mg "set" = none) (ha : PE X e ta)
    (na : starEach [e] X.env = (false, eval e X.env) :: starEach [] X.env := by rfl) : PE X (.Call (.Name "len" p) [.Call (.Name "set" p2) [e] [] q] [] pos) (tLenSet X.K ta) := by
  refine ⟨fun pins s σ H Q I h => ?_⟩
  refine Call_ (ld_blt I hg hm PySem.boot_len ?_)
  refine PyProof.Rows.callWith_builtin1 (PyProof.Rows.args_cons ?_ rfl) rfl rfl
  refine Call_ (ld_blt I hg2 hm2 boot_set ?_)
  refine PyProof.Rows.callWith_type1 (PyProof.Rows.args_cons (thn (ha.run pins s σ H _ I h) fun v s1 ⟨x, H1, I1, r1, q1⟩ => PyProof.Rows.args_nil ?_) na) na rfl
  obtain ⟨l, xs, rfl, hq, h60, hnd, q1⟩ := q1
  cases r1
  obtain ⟨its, r, pl, hz⟩ := I1.tuple hq
  refine tx_call_tup xs (I1.ok.hd hc) (show s1.heap.IsTuple l its.toArray from pl) (by simpa using strsAre_of r) (by unfold scanBound; omega) fun h' tk c hS hcx hk => ?_
  refine PyProof.Rows.args_nil ?_
  have I2 : L2.Inv X pins σ H1 { s1 with heap := h', toks := tk } := I1.kept fun b o e => hk b o e
  obtain ⟨o, es, ep, t, ho, hex, hd, g, nd, hm, hb, hf, hn, hr, hl⟩ := hS
  have pm : (es.toList.map keyS).Perm xs := (List.perm_ext_iff_of_nodup nd hnd).mpr fun k => by
    rw [← hm k]
    simp
  have ec : c = xs.length := by
    have z := pm.length_eq
    rw [List.length_map, Array.length_toList] at z
    omega
  subst ec
  refine call_len_set (s := { s1 with heap := h', toks := tk }) ho hex hd hf (by omega) ?_
  rw [hn]
  exact ⟨.int _, H1, I2.tok _, ⟨_, rfl⟩, q1⟩
end
end G

/-! C5 -/
namespace G
open PySem PySem.Spec PyProof.Rows L2
def tkWay : Step := fun dd ws dd' => ∃ z0 a b : Str, ∃ n : Nat, ws = [z0, a, b, numS n] ∧ n < 1000000000 ∧ a ∈ dd.places ∧ b ∈ dd.places ∧ a ≠ b ∧ dd.lengths.lookup (a, b) = none ∧ 1 ≤ n ∧ n ≤ 99 ∧ dd.lengths.length < 1000 ∧ dd.ways.length < 1000 ∧
  dd' = { dd with ways := dd.ways ++ [(a, b, (n : Int))], lengths := putT (putT dd.lengths (a, b) n) (b, a) n }
def tkBall : Step := fun dd ws dd' => ∃ z0 b p : Str, ws = [z0, b, p] ∧ nameOk b = true ∧ dd.starts.lookup b = none ∧ (dd.owners.lookup p).isSome = true ∧ dd.starts.length < 1000 ∧ dd' = { dd with starts := putA dd.starts b p }
def ownAll (n : Str) : List Str → List (Str × Str) → List (Str × Str)
  | [], ow => ow
  | p :: ps, ow => ownAll n ps (putA ow p n)
def tkPlayer : Step := fun dd ws dd' => ∃ (z0 n : Str) (room : List Str), ws = z0 :: n :: room ∧ 1 ≤ room.length ∧ room.length < 50 ∧ nameOk n = true ∧ dd.rooms.lookup n = none ∧ room.Nodup ∧ (∀ p ∈ room, p ∈ dd.places ∧ dd.owners.lookup p = none) ∧ dd.rooms.length < 1000 ∧ dd.owners.length + room.length < 1000 ∧
  dd' = { dd with rooms := putA dd.rooms n room, owners := ownAll n room dd.owners }
theorem length_putT (ln : List ((Str × Str) × Int)) (k : Str × Str) (n : Int) : (putT ln k n).length ≤ ln.length + 1 := by
  unfold putT
  split
  · rw [List.length_map]; omega
  · rw [List.length_append]; simp
section
variable {P : Program} {w : World} {K : PySem.W.Frag} {mg : Str → Option Value} {base : Heap}
theorem c_take_way {CD : Addr} (B : Blt mg) (F : ClsF K CD draftFN) (D : DefB K mg "take_way" s_take_way ["draft", "words"]) (C1 : C8.Cal P w K mg base 1 "read_integer" sp_read_integer []) (C2 : C8.Cal P w K mg base 2 "is_integer_from" sp_is_integer_from []) :
    C8.Cal P w K mg base 3 "take_way" (sp_tk CD tkWay) [] := by
  have S : C8.scC ["draft", "words", "one", "other", "length"] ["draft", "words"] (C8.fnScope s_take_way) = true := by decide +kernel
  have nd := (C8.fnScope_by S).nd
  have nP := F.no "places" (by decide +kernel)
  have nL := F.no "lengths" (by decide +kernel)
  have nW := F.no "ways" (by decide +kernel)
  refine calB D S (fun vs H Q E h => ?_) (fun f cdv Ar outer s H vs Q E hr h => ?_)
  · obtain ⟨_, _, _, _, _, _, _, rfl, _⟩ := h
    rfl
  obtain ⟨H0, d, A, dd, dd', wa, ws, rfl, R, hw, hwl, hwn, ht, q⟩ := h
  have hu := hu_of hr
  refine ⟨_, pss_cons (ps_if (pt_cmpR op_ne (t_len K B (pa_cons (pv 1) pa_nil)) pe_int (nomark _)) (pss_one (ps_ret pe_bl)) pss_nil)
    (pss_cons (ps_par3 (i := 2) (j := 3) (l := 4) rfl nd rfl rfl rfl (by decide) (by decide) (by decide) rfl rfl rfl (pa_cons (t_il K (pv 1) pe_int) (pa_cons (t_il K (pv 1) pe_int) (pa_cons (C8.pe_c C1 hr (by decide) rfl (pa_cons (t_il K (pv 1) pe_int) pa_nil)) pa_nil))) (by rfl))
    (pss_cons (ps_if (PW.pt (pw_or (pt_cmpR op_notIn_seq (pv 2) (t_f K (pv 0)) (by rfl)) (pw_or (pt_cmpR op_notIn_seq (pv 3) (t_f K (pv 0)) (by rfl)) (pw_or1 (pt_cmpR op_eq (pv 2) (pv 3) (nomark _)))))) (pss_one (ps_ret pe_bl)) pss_nil)
    (pss_cons (ps_if (PW.pt (pw_or (pt_cmp (pc_din hu (pe_tup (pa_cons (pv 2) (pa_cons (pv 3) pa_nil))) (t_f K (pv 0)))) (pw_or1 (pt_not (pt_val (C8.pe_c C2 hr (by decide) rfl (pa_cons (pv 4) (pa_cons pe_int (pa_cons pe_int pa_nil))))))))) (pss_one (ps_ret pe_bl)) pss_nil)
    (pss_cons (ps_expr (pe_bm PySem.F.plainAttrs_list PySem.F.slot_list_append PySem.F.type_list_append mt_append (t_f K (pv 0)) (pa_cons (pe_tup (pa_cons (pv 2) (pa_cons (pv 3) (pa_cons (pv 4) pa_nil)))) pa_nil)))
    (pss_cons (ps_dput hu (t_f K (pv 0)) (pe_tup (pa_cons (pv 2) (pa_cons (pv 3) pa_nil))) (pv 4) rfl)
    (pss_cons (ps_dput hu (t_f K (pv 0)) (pe_tup (pa_cons (pv 3) (pa_cons (pv 2) pa_nil))) (pv 4) rfl)
    (pss_one (ps_ret pe_bl)))))))), ?_⟩
  obtain ⟨z0, a, b, n, rfl, hn, ha, hb, hab, hlk, n1, n2, l1, l2, rfl⟩ := ht
  have hw' := R.s0 _ _ hw
  obtain ⟨dx, sv, hob, hsv⟩ := R.ob
  refine ⟨_, rfl, wa, _, rfl, .inl (SqL.of hw'), rfl, _, rfl, iteF' rfl ?_⟩
  refine ⟨_, rfl, wa, _, 1, _, rfl, rfl, SqL.of hw', atI_0 (n := 1) rfl, _, rfl, wa, _, 2, _, rfl, rfl, SqL.of hw', atI_0 (n := 2) rfl, _, rfl, wa, _, 3, _, rfl, rfl, SqL.of hw', atI_0 (n := 3) rfl, n, rfl, hn, _, _, _, rfl, ?_⟩
  have hinT : ∀ {x : Str}, x ∈ dd.places → (!inV (.str x) (dd.places.map V.str)) = false := fun {x} h => by rw [inV_str, decide_eq_true h]; rfl
  refine ⟨_, rfl, _, rfl, d, CD, dx, _, _, rfl, hob, F.cl, nP, df_places, A.pl, _, rfl, .inl (SqL.of R.pl), rfl, flat_strs _, _, rfl, ?_⟩
  simp only [if_true]
  rw [hinT ha]
  refine iteF' rfl ⟨_, rfl, _, rfl, d, CD, dx, _, _, rfl, hob, F.cl, nP, df_places, A.pl, _, rfl, .inl (SqL.of R.pl), rfl, flat_strs _, _, rfl, ?_⟩
  simp only [if_true]
  rw [hinT hb]
  refine iteF' rfl ⟨_, rfl, _, rfl, rfl, _, rfl, iteF' (decide_eq_false fun z => by injection z with z; exact hab z) ?_⟩
  refine ⟨_, rfl, _, rfl, by show 2 ≤ sizeLine; decide, fun p1 hp1 => ?_⟩
  have s1 := same_new (o := .tup [.str a, .str b]) hp1
  have t1 : (upd H p1 (.tup [.str a, .str b])) p1 = some (.tup [.str a, .str b]) := upd_same
  generalize upd H p1 (.tup [.str a, .str b]) = H1 at s1 t1
  have R1 := R.grow s1
  have dg1 := DGet.t (k := [.inr a, .inr b]) R1.ln t1
  rw [valV_lenT, hlk] at dg1
  refine ⟨_, rfl, d, CD, dx, _, _, rfl, s1 _ _ hob, F.cl, nL, df_lengths, A.ln, _, rfl, dg1, _, rfl, iteF' rfl ?_⟩
  refine ⟨_, rfl, (n : Int), 1, 99, rfl, _, rfl, iteF' ?_ ?_⟩
  · rw [decide_eq_true (show (1 : Int) ≤ n by omega), decide_eq_true (show (n : Int) ≤ 99 by omega)]
    rfl
  refine ⟨_, rfl, d, CD, dx, _, _, rfl, s1 _ _ hob, F.cl, nW, df_ways, ?_⟩
  obtain ⟨ts, w1, w2⟩ := R1.wy
  refine ⟨.inl ⟨rfl, _, SqL.of w1⟩, _, rfl, _, rfl, _, rfl, by show 3 ≤ sizeLine; decide, fun p2 hp2 => ?_⟩
  have s2 := same_new (o := .tup [.str a, .str b, .int n]) hp2
  have t2 : (upd H1 p2 (.tup [.str a, .str b, .int n])) p2 = some (.tup [.str a, .str b, .int n]) := upd_same
  generalize upd H1 p2 (.tup [.str a, .str b, .int n]) = H2 at s2 t2
  have R2 := R1.grow s2
  refine ⟨A.wy, _, _, rfl, rfl, s2 _ _ w1, by rw [List.length_map, Paired.length w2, sizeLine_eq]; omega, ?_⟩
  have R3 := R2.setWays (Paired.snoc (Paired.mapP w2 fun _ _ z => s2 _ _ z) (show WayAt H2 p2 (a, b, (n : Int)) from t2))
  rw [show (ts ++ [p2]).map V.ref = ts.map V.ref ++ [.ref p2] by rw [List.map_append]; rfl] at R3
  generalize upd H2 A.wy (.lst (ts.map V.ref ++ [.ref p2])) = H3 at R3
  obtain ⟨dx3, sv3, hob3, hsv3⟩ := R3.ob
  refine ⟨_, rfl, _, rfl, d, CD, dx3, _, _, rfl, hob3, F.cl, nL, df_lengths, _, rfl, _, rfl, by show 2 ≤ sizeLine; decide, fun p3 hp3 => ?_⟩
  have s4 := same_new (o := .tup [.str a, .str b]) hp3
  have t4 : (upd H3 p3 (.tup [.str a, .str b])) p3 = some (.tup [.str a, .str b]) := upd_same
  generalize upd H3 p3 (.tup [.str a, .str b]) = H4 at s4 t4
  have R4 := R3.grow s4
  have d4 := DPut.t (k := [.inr a, .inr b]) (v := .int n) R4.ln t4 (by unfold lenT; rw [List.length_map, sizeLine_eq]; show dd.lengths.length < _; omega)
  rw [lenT_put] at d4
  refine ⟨A.ln, _, rfl, d4, ?_⟩
  have R5 := R4.setLengths (putT dd.lengths (a, b) n)
  generalize upd H4 A.ln (.dT (lenT (putT dd.lengths (a, b) n))) = H5 at R5
  obtain ⟨dx5, sv5, hob5, hsv5⟩ := R5.ob
  refine ⟨_, rfl, _, rfl, d, CD, dx5, _, _, rfl, hob5, F.cl, nL, df_lengths, _, rfl, _, rfl, by show 2 ≤ sizeLine; decide, fun p6 hp6 => ?_⟩
  have s6 := same_new (o := .tup [.str b, .str a]) hp6
  have t6 : (upd H5 p6 (.tup [.str b, .str a])) p6 = some (.tup [.str b, .str a]) := upd_same
  generalize upd H5 p6 (.tup [.str b, .str a]) = H6 at s6 t6
  have R6 := R5.grow s6
  have d6 := DPut.t (k := [.inr b, .inr a]) (v := .int n) R6.ln t6 (by unfold lenT; rw [List.length_map, sizeLine_eq]; have := length_putT dd.lengths (a, b) n; show (putT dd.lengths (a, b) n).length < _; omega)
  rw [lenT_put] at d6
  exact ⟨A.ln, _, rfl, d6, q _ (R6.setLengths (putT (putT dd.lengths (a, b) n) (b, a) n))⟩
end
end G

/-! C6 -/
namespace G
open PySem PySem.Spec PyProof.Rows L2
section
variable {P : Program} {w : World} {K : PySem.W.Frag} {mg : Str → Option Value} {base : Heap}
theorem cut_from2 (xs : List V) : cutV xs (some 2) none = xs.drop 2 := by
  unfold cutV HT.sIx
  match xs with
  | [] => rfl
  | [x] => rfl
  | x :: y :: r =>
    simp
theorem c_take_ball {CD : Addr} (B : Blt mg) (F : ClsF K CD draftFN) (D : DefB K mg "take_ball" s_take_ball ["draft", "words"]) (C1 : C8.Cal P w K mg base 1 "is_name" sp_is_name []) : C8.Cal P w K mg base 2 "take_ball" (sp_tk CD tkBall) [] := by
  have S : C8.scC ["draft", "words"] ["draft", "words"] (C8.fnScope s_take_ball) = true := by decide +kernel
  have nS := F.no "starts" (by decide +kernel)
  have nO := F.no "owners" (by decide +kernel)
  refine calB D S (fun vs H Q E h => ?_) (fun f cdv Ar outer s H vs Q E hr h => ?_)
  · obtain ⟨_, _, _, _, _, _, _, rfl, _⟩ := h
    rfl
  obtain ⟨H0, d, A, dd, dd', wa, ws, rfl, R, hw, hwl, hwn, ht, q⟩ := h
  have hu := hu_of hr
  refine ⟨_, pss_cons (ps_if (PW.pt (pw_or (pt_cmpR op_ne (t_len K B (pa_cons (pv 1) pa_nil)) pe_int (nomark _)) (pw_or (pt_not (pt_val (C8.pe_c C1 hr (by decide) rfl (pa_cons (t_il K (pv 1) pe_int) pa_nil)))) (pw_or1 (pt_cmp (pc_din hu (t_il K (pv 1) pe_int) (t_f K (pv 0)))))))) (pss_one (ps_ret pe_bl)) pss_nil)
    (pss_cons (ps_if (pt_cmp (pc_dnotin hu (t_il K (pv 1) pe_int) (t_f K (pv 0)))) (pss_one (ps_ret pe_bl)) pss_nil)
    (pss_cons (ps_dput hu (t_f K (pv 0)) (t_il K (pv 1) pe_int) (t_il K (pv 1) pe_int) rfl)
    (pss_one (ps_ret pe_bl)))), ?_⟩
  obtain ⟨z0, b, p, rfl, h1, h2, h3, l1, rfl⟩ := ht
  have hw' := R.s0 _ _ hw
  refine ⟨_, rfl, wa, _, rfl, .inl (SqL.of hw'), rfl, _, rfl, iteF' rfl ?_⟩
  refine ⟨_, rfl, wa, _, 1, _, rfl, rfl, SqL.of hw', atI_0 (n := 1) rfl, b, rfl, hwl b (by simp), fun H1 s1 => ⟨_, rfl, ?_⟩⟩
  rw [h1]
  have R1 := R.grow s1
  obtain ⟨dx1, sv1, hob1, hsv1⟩ := R1.ob
  have hw1 := s1 _ _ hw'
  refine iteF' rfl ⟨_, rfl, wa, _, 1, _, rfl, rfl, SqL.of hw1, atI_0 (n := 1) rfl, _, rfl, d, CD, dx1, _, _, rfl, hob1, F.cl, nS, df_starts, A.st, _, rfl, DGet.k (k := Sum.inr b) R1.st, _, rfl, ?_⟩
  rw [valV_strT, Option.isSome_map, h2]
  refine iteF' rfl ⟨_, rfl, wa, _, 2, _, rfl, rfl, SqL.of hw1, atI_0 (n := 2) rfl, _, rfl, d, CD, dx1, _, _, rfl, hob1, F.cl, nO, df_owners, A.ow, _, rfl, DGet.k (k := Sum.inr p) R1.ow, _, rfl, ?_⟩
  rw [valV_strT, Option.isSome_map, h3]
  refine iteF' rfl ⟨_, rfl, wa, _, 2, _, rfl, rfl, SqL.of hw1, atI_0 (n := 2) rfl, _, rfl, d, CD, dx1, _, _, rfl, hob1, F.cl, nS, df_starts, _, rfl, wa, _, 1, _, rfl, rfl, SqL.of hw1, atI_0 (n := 1) rfl, A.st, _, rfl, DPut.k (k := Sum.inr b) R1.st (by unfold strT; rw [List.length_map, sizeLine_eq]; omega), ?_⟩
  rw [strT_put]
  exact q _ (R1.setStarts (putA dd.starts b p))
theorem length_ownAll (n : Str) : ∀ (ps : List Str) (ow : List (Str × Str)), (ownAll n ps ow).length ≤ ow.length + ps.length
  | [], ow => by simp [ownAll]
  | p :: ps, ow => by
    have h1 := length_ownAll n ps (putA ow p n)
    have h2 := length_putA ow p n
    show (ownAll n ps (putA ow p n)).length ≤ _
    rw [List.length_cons]
    omega
theorem c_take_player {CD : Addr} (B : Blt mg) (F : ClsF K CD draftFN) (D : DefB K mg "take_player" s_take_player ["draft", "words"]) (C1 : C8.Cal P w K mg base 1 "is_name" sp_is_name []) : C8.Cal P w K mg base 2 "take_player" (sp_tk CD tkPlayer) [] := by
  have S : C8.scC ["draft", "words", "room", "place"] ["draft", "words"] (C8.fnScope s_take_player) = true := by decide +kernel
  have nd := (C8.fnScope_by S).nd
  have nR := F.no "rooms" (by decide +kernel)
  have nP := F.no "places" (by decide +kernel)
  have nO := F.no "owners" (by decide +kernel)
  refine calB D S (fun vs H Q E h => ?_) (fun f cdv Ar outer s H vs Q E hr h => ?_)
  · obtain ⟨_, _, _, _, _, _, _, rfl, _⟩ := h
    rfl
  obtain ⟨H0, d, A, dd, dd', wa, ws, rfl, R, hw, hwl, hwn, ht, q⟩ := h
  have hu := hu_of hr
  refine ⟨_, pss_cons (ps_if (PW.pt (pw_or (pt_cmpR op_lt (t_len K B (pa_cons (pv 1) pa_nil)) pe_int (nomark _)) (pw_or (pt_not (pt_val (C8.pe_c C1 hr (by decide) rfl (pa_cons (t_il K (pv 1) pe_int) pa_nil)))) (pw_or1 (pt_cmp (pc_din hu (t_il K (pv 1) pe_int) (t_f K (pv 0)))))))) (pss_one (ps_ret pe_bl)) pss_nil)
    (pss_cons (ps_set (i := 2) nd rfl (.inl rfl) (pe_tupleOf (by rfl) B.tup (pe_slice sl_list (pv 1) (po_some pe_int) po_none)))
    (pss_cons (ps_if (pt_cmpR op_lt (pe_lenSet rfl (by rfl) B.len (by rfl) B.set (pv 2)) (t_len K B (pa_cons (pv 2) pa_nil)) (nomark _)) (pss_one (ps_ret pe_bl)) pss_nil)
    (pss_cons (ps_if (pt_val (t_any K rfl B (pa_cons (pe_lc (own := [("place", 3)]) (g := gName 3) (tt := tYes) rfl nd (pi_tup (pv 2)) (blkOk_by (N := ["draft", "words", "room", "place"]) (sc := C8.fnScope s_take_player) (by decide +kernel)) (fun _ _ _ _ _ => pg_name (i := 3) nd rfl (.inl rfl)) (fun _ _ _ _ _ => pts_nil)
      (te := tOrV (tOp (rIn K true) (tVar 3) (tFld K (tVar 0) "places")) (tDIn (tVar 3) (tFld K (tVar 0) "owners")))
      (fun _ _ _ _ _ => by exact pe_or (pe_cmpR op_notIn_seq (pv 3) (t_f K (pv 0)) (by rfl)) (pe_one (pe_cmp (pc_din hu (pv 3) (t_f K (pv 0))) rfl)))) pa_nil))) (pss_one (ps_ret pe_bl)) pss_nil)
    (pss_cons (ps_dput hu (t_f K (pv 0)) (t_il K (pv 1) pe_int) (pv 2) rfl)
    (pss_cons (ps_for PassesOwn.never rfl (pi_tup (pv 2)) (pg_name (i := 3) nd rfl (.inl rfl)) (pss_one (ps_dput hu (t_f K (pv 0)) (pv 3) (t_il K (pv 1) pe_int) rfl)))
    (pss_one (ps_ret pe_bl))))))), ?_⟩
  obtain ⟨z0, n, room, rfl, r1, r2, h1, h2, h3, h4, l1, l2, rfl⟩ := ht
  have hw' := R.s0 _ _ hw
  refine ⟨_, rfl, wa, _, rfl, .inl (SqL.of hw'), _, _, rfl, rfl, _, rfl, iteF' ?_ ?_⟩
  · rw [List.length_map, List.length_cons, List.length_cons]
    exact decide_eq_false (by omega)
  refine ⟨_, rfl, wa, _, 1, _, rfl, rfl, SqL.of hw', atI_0 (n := 1) rfl, n, rfl, hwl n (by simp), fun H1 s1 => ⟨_, rfl, ?_⟩⟩
  rw [h1]
  have R1 := R.grow s1
  obtain ⟨dx1, sv1, hob1, hsv1⟩ := R1.ob
  obtain ⟨kr, hrm, brm⟩ := R1.rm
  have hw1 := s1 _ _ hw'
  refine iteF' rfl ⟨_, rfl, wa, _, 1, _, rfl, rfl, SqL.of hw1, atI_0 (n := 1) rfl, _, rfl, d, CD, dx1, _, _, rfl, hob1, F.cl, nR, df_rooms, A.rm, _, rfl, DGet.k (k := Sum.inr n) hrm, _, rfl, ?_⟩
  rw [brm.isSome, h2]
  refine iteF' rfl ⟨_, rfl, 2, rfl, wa, _, rfl, SqL.of hw1, fun p1 hp1 => .inl ⟨p1, _, rfl, SqL.of upd_same, fun p2 hp2 => ?_⟩⟩
  rw [cut_from2, List.map_cons, List.map_cons, List.drop_succ_cons, List.drop_succ_cons, List.drop_zero] at *
  have s2 := same_upd (o := .tup (room.map V.str)) (same_new (o := .lst (room.map V.str)) hp1) hp2
  have tr : (upd (upd H1 p1 (.lst (room.map V.str))) p2 (.tup (room.map V.str))) p2 = some (.tup (room.map V.str)) := upd_same
  generalize upd (upd H1 p1 (.lst (room.map V.str))) p2 (.tup (room.map V.str)) = H2 at s2 tr
  have R2 := R1.grow s2
  have hob2 := s2 _ _ hob1
  have hw2 := s2 _ _ hw1
  refine ⟨_, rfl, p2, room, rfl, SqT.of tr, by omega, h3, _, rfl, p2, _, rfl, .inr (SqT.of tr), _, _, rfl, rfl, _, rfl, iteF' (by rw [List.length_map]; simp) ?_⟩
  refine ⟨_, rfl, p2, rfl, ⟨_, SqT.of tr⟩, fun Dd hD => ?_⟩
  refine lc_fm (walk_tup (K := K) (a := p2) (xs := room.map V.str)) (fun i => some (.bl false)) (by rw [List.length_map]; omega) hD (fun _ s3 => SqT.of (s3 _ _ tr)) ?_ ?_
  · rintro i x H4 H3 Kk Kn hi s3 ⟨rfl, hx⟩ k1 k2
    rw [List.getElem?_map] at hx
    cases hb : room[i]? with
    | none => rw [hb] at hx; cases hx
    | some p =>
    rw [hb] at hx
    cases hx
    obtain ⟨m1, m2⟩ := h4 p (List.mem_of_getElem? hb)
    have R3 := R2.grow s3
    refine ⟨rfl, yes_if ⟨_, rfl, _, rfl, d, CD, dx1, _, _, rfl, s3 _ _ hob2, F.cl, nP, df_places, A.pl, _, rfl, .inl (SqL.of R3.pl), rfl, flat_strs _, _, rfl, ?_⟩⟩
    simp only [if_true]
    rw [inV_str, decide_eq_true m1]
    refine iteF' rfl ⟨_, rfl, _, rfl, d, CD, dx1, _, _, rfl, s3 _ _ hob2, F.cl, nO, df_owners, A.ow, _, rfl, DGet.k (k := Sum.inr p) R3.ow, ?_⟩
    rw [valV_strT, Option.isSome_map, m2]
    exact k1 _ _ rfl (Same.refl _)
  · intro H3 s3 hl3
    rw [range_const] at hl3
    have R3 := R2.grow s3
    have tr3 := s3 _ _ tr
    refine ⟨Dd, List.replicate (room.map V.str).length false, rfl, SqL.of (by rw [hl3, List.map_replicate]), ?_⟩
    rw [show (List.replicate (room.map V.str).length false).any id = false by simp]
    refine ⟨_, rfl, iteF' rfl ?_⟩
    obtain ⟨dx3, sv3, hob3, hsv3⟩ := R3.ob
    obtain ⟨kr3, hrm3, brm3⟩ := R3.rm
    refine ⟨_, rfl, _, rfl, d, CD, dx3, _, _, rfl, hob3, F.cl, nR, df_rooms, _, rfl, wa, _, 1, _, rfl, rfl, SqL.of (s3 _ _ hw2), atI_0 (n := 1) rfl, A.rm, _, rfl, DPut.k (k := Sum.inr n) hrm3 (by rw [brm3.length, sizeLine_eq]; omega), ?_⟩
    have R4 := R3.setRooms (brm3.put n (y := room) ⟨p2, rfl, tr3⟩)
    have tr4 := tups_upd (o := .dK (putK kr3 (.inr n) (.ref p2))) hrm3 (fun _ z => by cases z) _ _ tr3
    generalize upd H3 A.rm (.dK (putK kr3 (.inr n) (.ref p2))) = H4 at R4 tr4
    have hp0 : ∀ {Hx : Hp} {ddx : DraftD}, DraftAt CD H0 Hx d A ddx → Hx wa = some (.lst ((z0 :: n :: room).map V.str)) := fun {Hx ddx} Rx => Rx.s0 _ _ hw
    refine ⟨_, rfl, p2, rfl, ⟨_, SqT.of tr4⟩, ?_⟩
    refine for_it (walk_tup (K := K) (a := p2) (xs := room.map V.str)) (fun i σ Hx => ∃ (ow : List (Str × Str)) (v3 : Option V), σ = [some (.ref d), some (.ref wa), some (.ref p2), v3] ∧ DraftAt CD H0 Hx d A { dd with rooms := putA dd.rooms n room, owners := ow } ∧ Hx p2 = some (.tup (room.map V.str)) ∧ ow.length ≤ dd.owners.length + i ∧ ownAll n (room.drop i) ow = ownAll n room dd.owners)
      ⟨dd.owners, _, rfl, R4, tr4, Nat.le_refl _, rfl⟩ (fun i σ Hx _ h => ?_) ?_ ?_
    · obtain ⟨_, _, _, _, k, _⟩ := h
      exact SqT.of k
    · rintro i x σ H6 H5 hi ⟨ow, v3, rfl, Ri, ki, li, oi⟩ ⟨rfl, hx⟩
      rw [List.getElem?_map] at hx
      cases hb : room[i]? with
      | none => rw [hb] at hx; cases hx
      | some p =>
      rw [hb] at hx
      cases hx
      obtain ⟨hlt, hget⟩ := List.getElem?_eq_some_iff.mp hb
      rw [List.drop_eq_getElem_cons hlt, hget] at oi
      obtain ⟨dxi, svi, hobi, _⟩ := Ri.ob
      refine ⟨_, rfl, wa, _, 1, _, rfl, rfl, SqL.of (hp0 Ri), atI_0 (n := 1) rfl, _, rfl, d, CD, dxi, _, _, rfl, hobi, F.cl, nO, df_owners, _, rfl, A.ow, _, rfl, DPut.k (k := Sum.inr p) Ri.ow (by unfold strT; rw [List.length_map, sizeLine_eq]; show ow.length < _; omega), ?_⟩
      have Rj := Ri.setOwners (putA ow p n)
      have kj := tups_upd (o := .dK (putK (strT ow) (.inr p) (.str n))) Ri.ow (fun _ z => by cases z) _ _ ki
      rw [strT_put] at kj
      refine ⟨putA ow p n, _, rfl, ?_, ?_, Nat.le_trans (length_putA _ _ _) (by omega), oi⟩
      · show DraftAt CD H0 (upd H5 A.ow (.dK (putK (strT ow) (.inr p) (.str n)))) d A _
        rw [strT_put]
        exact Rj
      · show (upd H5 A.ow (.dK (putK (strT ow) (.inr p) (.str n)))) p2 = _
        rw [strT_put]
        exact kj
    · rintro σ Hx ⟨ow, v3, rfl, Ri, ki, li, oi⟩
      rw [List.length_map, List.drop_length] at oi
      have e : ow = ownAll n room dd.owners := oi
      subst e
      exact q Hx Ri
end
end G

/-! C7 -/
namespace G
open PySem PySem.Spec PyProof.Rows L2
/-- the def that takes lines of the k-th kind -/
structure Takers (P : Program) (w : World) (K : PySem.W.Frag) (mg : Str → Option Value) (base : Heap) (CD : Addr) (steps : Nat → Option Step) : Prop where
  ex : ∃ dT, mg "TAKERS" = some (.ref dT) ∧ ∀ k z step, kindsL[k]? = some z → steps k = some step → ∃ f, KDct K w dT z (.ref f) ∧ Held P w K mg base 4 f (sp_tk CD step)
def lineStep (steps : Nat → Option Step) : DraftD → Str → DraftD → Prop := fun dd z dd' => ∃ k w0 ws step dd1 c, Txt.split z " " = w0 :: ws ∧ kindsL[k]? = some w0 ∧ steps k = some step ∧ isTurn dd k = true ∧ dd.counts.length = 7 ∧ step dd (w0 :: ws) dd1 ∧ dd1.counts[k]? = some c ∧ dd1.counts.length = 7 ∧
  (∀ x ∈ w0 :: ws, x.length ≤ 1000) ∧ (w0 :: ws).length ≤ 100 ∧ z.length ≤ 4000 ∧ dd' = { dd1 with kind := k, counts := dd1.counts.set k (c + 1) }
theorem kinds_once : ∀ k < 7, ∀ m < k, kindsL[m]? ≠ kindsL[k]? := by decide +kernel
theorem ixN_nat {n k : Nat} (h : k < n) : ixN n (k : Int) = some k := by
  unfold ixN
  rw [if_pos (by omega), if_pos (by omega)]
  simp
section
variable {P : Program} {w : World} {K : PySem.W.Frag} {mg : Str → Option Value} {base : Heap}
def sp_take_line (CD : Addr) (steps : Nat → Option Step) : Sp := fun vs H Q _ => ∃ H0 d A dd dd' z, vs = [.ref d, .str z] ∧ DraftAt CD H0 H d A dd ∧ lineStep steps dd z dd' ∧ ∀ H', DraftAt CD H0 H' d A dd' → Q (.bl true) H'
theorem c_take_line {CD : Addr} {steps : Nat → Option Step} (B : Blt mg) (F : ClsF K CD draftFN) (G1 : GT K mg "KINDS" (kindsL.map V.str)) (TK : Takers P w K mg base CD steps) (D : DefB K mg "take_line" s_take_line ["draft", "line"]) (C1 : C8.Cal P w K mg base 1 "is_turn" (sp_is_turn CD) []) :
    C8.Cal P w K mg base 5 "take_line" (sp_take_line CD steps) [] := by
  have S : C8.scC ["draft", "line", "words", "kind", "take"] ["draft", "line"] (C8.fnScope s_take_line) = true := by decide +kernel
  have nd := (C8.fnScope_by S).nd
  have nK := F.no "kind" (by decide +kernel)
  have nC := F.no "counts" (by decide +kernel)
  refine calB D S (fun vs H Q E h => ?_) (fun f cdv Ar outer s H vs Q E hr h => ?_)
  · obtain ⟨_, _, _, _, _, _, rfl, _⟩ := h
    rfl
  obtain ⟨H0, d, A, dd, dd', z, rfl, R, ⟨k, w0, ws, step, dd1, c, hsp, hk, hstep, hturn, hc7, hst, hc1, hc17, hwl, hwn, hz, rfl⟩, q⟩ := h
  have hu := hu_of hr
  obtain ⟨kk, g1, g2, gO⟩ := G1
  obtain ⟨dT, t1, t2⟩ := TK.ex
  obtain ⟨ft, hkd, hheld⟩ := t2 k w0 step hk hstep
  have hk7 : k < 7 := (List.getElem?_eq_some_iff.mp hk).1
  refine ⟨_, pss_cons (ps_set (i := 2) nd rfl (.inl rfl) (pe_split (pv 1) pe_str))
    (pss_cons (ps_if (pt_cmpR op_notIn_seq (t_il K (pv 2) pe_int) (pe_glob (v := .ref kk) (by rfl) g1 rfl) (by rfl)) (pss_one (ps_ret pe_bl)) pss_nil)
    (pss_cons (ps_set (i := 3) nd rfl (.inl rfl) (pe_bm PySem.F.plainAttrs_tuple PySem.F.slot_tuple_index PySem.F.type_tuple_index mt_tup_index (pe_glob (v := .ref kk) (by rfl) g1 rfl) (pa_cons (t_il K (pv 2) pe_int) pa_nil)))
    (pss_cons (ps_if (pt_not (pt_val (C8.pe_c C1 hr (by decide) rfl (pa_cons (pv 0) (pa_cons (pv 3) pa_nil))))) (pss_one (ps_ret pe_bl)) pss_nil)
    (pss_cons (ps_set (i := 4) nd rfl (.inl rfl) (pe_ix ix_kdict (pe_glob (v := .ref dT) (by rfl) t1 rfl) (t_il K (pv 2) pe_int) (by exact fun _ _ => rfl)))
    (pss_cons (ps_if (pt_not (pt_val (pe_callA (S := fun f' => if f' = ft then some (sp_tk CD step) else none) (fun f' sp' e => by
        split at e
        · rename_i e1
          subst e1
          cases e
          exact hheld
        · cases e) hr (i := 4) rfl (.inl rfl) (pa_cons (pv 0) (pa_cons (pv 2) pa_nil))))) (pss_one (ps_ret pe_bl)) pss_nil)
    (pss_cons (ps_fld (pv 0) (pv 3) rfl)
    (pss_cons (ps_augS (t_f K (pv 0)) (pv 3) pget_list pe_int ip_add set_list)
    (pss_one (ps_ret pe_bl))))))))), ?_⟩
  refine ⟨_, rfl, ⟨_, rfl⟩, _, _, rfl, rfl, (by decide +kernel), by rw [sizeLine_eq]; omega, ?_⟩
  rw [hsp]
  intro p1 hp1
  have s1 := same_new (o := .lst ((w0 :: ws).map V.str)) hp1
  have a1 : (upd H p1 (.lst ((w0 :: ws).map V.str))) p1 = some (.lst ((w0 :: ws).map V.str)) := upd_same
  have p1own : p1 ∉ ownD d A := fun hx => by
    have : ∀ a ∈ ownD d A, H a ≠ none := fun a ha e => by
      obtain ⟨dx, sv, h1, h2⟩ := R.ob
      obtain ⟨ts, w1, w2⟩ := R.wy
      obtain ⟨kvs, r1, r2⟩ := R.rm
      simp only [ownD, List.mem_cons, List.not_mem_nil, or_false] at ha
      rcases ha with rfl | rfl | rfl | rfl | rfl | rfl | rfl | rfl | rfl
      · rw [h1] at e; cases e
      · rw [R.co] at e; cases e
      · rw [R.pl] at e; cases e
      · rw [w1] at e; cases e
      · rw [R.ln] at e; cases e
      · rw [r1] at e; cases e
      · rw [R.ow] at e; cases e
      · rw [R.dl] at e; cases e
      · rw [R.st] at e; cases e
    exact this _ hx hp1
  generalize upd H p1 (.lst ((w0 :: ws).map V.str)) = H1 at s1 a1
  have R1 := R.grow s1
  have hw0 : ((w0 :: ws).map V.str)[0]? = some (.str w0) := rfl
  refine ⟨_, rfl, p1, _, 0, _, rfl, rfl, SqL.of a1, atI_0 (n := 0) hw0, kk, _, rfl, .inr (g2 _), rfl, flat_strs _, _, rfl, ?_⟩
  simp only [if_true]
  rw [inV_str, decide_eq_true (List.mem_of_getElem? hk)]
  refine iteF' rfl ⟨.inr ?_, _, rfl, p1, _, 0, _, rfl, rfl, SqL.of a1, atI_0 (n := 0) hw0, kk, kindsL, w0, k, rfl, rfl, g2 _, hk, fun m hm e => kinds_once k hk7 m hm (e.trans hk.symm), ?_⟩
  · exact .inl ⟨rfl, gO⟩
  refine ⟨_, rfl, _, rfl, H0, d, A, dd, k, rfl, R1, hk7, hc7, hturn, fun H2 s2 => ?_⟩
  have R2 := R1.grow s2
  have a2 := s2 _ _ a1
  refine ⟨true, rfl, iteF' rfl ⟨_, rfl, p1, _, 0, _, rfl, rfl, SqL.of a2, atI_0 (n := 0) hw0, dT, w0, _, rfl, rfl, hkd, ?_⟩⟩
  refine ⟨ft, sp_tk CD step, rfl, if_pos rfl, _, rfl, _, rfl, lessD H2 d A, d, A, dd, dd1, p1, w0 :: ws, rfl, R2.rebase, lessD_some a2 p1own, hwl, hwn, hst, fun H3 R3 => ?_⟩
  have R4 := R2.base R3
  obtain ⟨dx4, sv4, hob4, hsv4⟩ := R4.ob
  refine ⟨true, rfl, iteF' rfl ⟨_, rfl, _, rfl, d, CD, dx4, _, rfl, hob4, F.cl, nK, by show 10 < 1000; decide, ?_⟩⟩
  rw [df_putKind]
  have R5 := R4.setOb (dy := dx4) (k := k) (tv := sv4) (o := dd1.stretch) hsv4
  generalize upd H3 d (.ins CD dx4 (draftFs k A sv4)) = H5 at R5
  obtain ⟨dx5, sv5, hob5, hsv5⟩ := R5.ob
  have hci : (dd1.counts.map V.int)[k]? = some (.int c) := by rw [List.getElem?_map, hc1]; rfl
  refine ⟨_, rfl, d, CD, dx5, _, _, rfl, hob5, F.cl, nC, df_counts, _, rfl, A.co, _, k, _, rfl, rfl, SqL.of R5.co, hci, _, _, rfl, rfl, A.co, _, k, k, rfl, rfl, R5.co, ixN_nat (by rw [List.length_map]; show k < dd1.counts.length; omega), ?_⟩
  rw [show ((({ dd1 with kind := k, stretch := dd1.stretch } : DraftD).counts).map V.int).set k (.int (c + 1)) = (dd1.counts.set k (c + 1)).map V.int by rw [List.map_set]]
  exact q _ (R5.setCounts (dd1.counts.set k (c + 1)))
end
end G

/-! C8 -/
namespace G
open PySem PySem.Spec PyProof.Rows L2
def ddp : List Str → List Str
  | [] => []
  | x :: xs => if x ∈ xs then ddp xs else x :: ddp xs
theorem ddp_mem {k : Str} : ∀ {xs : List Str}, k ∈ ddp xs ↔ k ∈ xs
  | [] => Iff.rfl
  | x :: xs => by
    unfold ddp
    by_cases c : x ∈ xs
    · rw [if_pos c, ddp_mem, List.mem_cons]
      exact ⟨.inr, fun h => h.elim (fun e => e ▸ c) id⟩
    · rw [if_neg c, List.mem_cons, List.mem_cons, ddp_mem]
theorem ddp_nodup : ∀ {xs : List Str}, (ddp xs).Nodup
  | [] => List.nodup_nil
  | x :: xs => by
    unfold ddp
    by_cases c : x ∈ xs
    · rw [if_pos c]; exact ddp_nodup
    · rw [if_neg c]
      exact List.nodup_cons.mpr ⟨fun h => c (ddp_mem.mp h), ddp_nodup⟩
theorem sortU_the {xs ys : List Str} (h1 : sortedS ys = true) (h2 : ys.Nodup) (h3 : ∀ k, k ∈ ys ↔ k ∈ xs) : ys = sortL (ddp xs) :=
  sort_the ((List.perm_ext_iff_of_nodup h2 ddp_nodup).mpr fun k => (h3 k).trans ddp_mem.symm) h1
def nearOf (ln : List ((Str × Str) × Int)) (reached : List Str) : List Str := ln.filterMap fun q => if q.1.1 ∈ reached ∧ q.1.2 ∉ reached then some q.1.2 else none
theorem near_map (r : List Str) : ∀ ln : List ((Str × Str) × Int), (ln.filterMap fun q => if q.1.1 ∈ r ∧ q.1.2 ∉ r then some (V.str q.1.2) else none) = (nearOf ln r).map V.str
  | [] => rfl
  | q :: ln => by
    have ih := near_map r ln
    unfold nearOf at ih ⊢
    by_cases c : q.1.1 ∈ r ∧ q.1.2 ∉ r
    · rw [List.filterMap_cons, List.filterMap_cons, if_pos c, if_pos c, List.map_cons, ih]
    · rw [List.filterMap_cons, List.filterMap_cons, if_neg c, if_neg c, ih]
def hangLoop (ln : List ((Str × Str) × Int)) : Nat → List Str → Option (List Str)
  | 0, r => some r
  | n + 1, r => if (nearOf ln r).length < 60 ∧ r.length < 1000 then hangLoop ln n (r ++ sortL (ddp (nearOf ln r))) else none
def hangs (dd : DraftD) : Bool := match dd.places with
  | [] => false
  | p :: _ => match hangLoop dd.lengths dd.places.length [p] with
    | none => false
    | some r => decide (r.length = dd.places.length)
section
variable {P : Program} {w : World} {K : PySem.W.Frag} {mg : Str → Option Value} {base : Heap}
def sp_hangs (CD : Addr) : Sp := fun vs H Q _ => ∃ H0 d A dd, vs = [.ref d] ∧ DraftAt CD H0 H d A dd ∧ dd.lengths.length < 1000 ∧ hangs dd = true ∧ ∀ H', Same H H' → Q (.bl true) H'
theorem c_hangs {CD : Addr} (B : Blt mg) (F : ClsF K CD draftFN) (D : DefB K mg "hangs_together" s_hangs_together ["draft"]) : C8.Cal P w K mg base 1 "hangs_together" (sp_hangs CD) [] := by
  have S : C8.scC ["draft", "reached", "_", "near", "one", "other"] ["draft"] (C8.fnScope s_hangs_together) = true := by decide +kernel
  have nd := (C8.fnScope_by S).nd
  have nP := F.no "places" (by decide +kernel)
  have nL := F.no "lengths" (by decide +kernel)
  refine calB D S (fun vs H Q E h => ?_) (fun f cdv Ar outer s H vs Q E hr h => ?_)
  · obtain ⟨_, _, _, _, rfl, _⟩ := h
    rfl
  obtain ⟨H0, d, A, dd, rfl, R, hl, hh, q⟩ := h
  refine ⟨_, pss_cons (ps_set (i := 1) nd rfl (.inr rfl) (pe_lst (pa_cons (t_il K (t_f K (pv 0)) pe_int) pa_nil)))
    (pss_cons (ps_for PassesOwn.never rfl (pi_list (t_f K (pv 0))) (pg_name (i := 2) nd rfl (.inl rfl))
      (pss_cons (ps_lock (ps_setLc (i := 3) (own := [("one", 4), ("other", 5)]) (g := gTup K 2 (gCons (gName 4) (gCons (gName 5) gNil))) (tt := tAnd (tTest (tOp (rIn K false) (tVar 4) (tVar 1))) (tTest (tOp (rIn K true) (tVar 5) (tVar 1)))) rfl nd rfl rfl (sw_true rfl rfl rfl (by decide +kernel)) (pi_keys (t_f K (pv 0))) (blkOk_by (N := ["draft", "reached", "_", "near", "one", "other"]) (sc := C8.fnScope s_hangs_together) (by decide +kernel))
        (fun _ _ _ _ _ => by exact t_gt K (n := 2) rfl (pgs_cons (pg_name (i := 4) nd rfl (.inl rfl)) (pgs_cons (pg_name (i := 5) nd rfl (.inl rfl)) pgs_nil))) (fun _ _ _ _ _ => by exact pts_one (PW.pt (pw_and (pt_cmpR op_in_seq (pv 4) (pv 1) (by rfl)) (pw_and1 (pt_cmpR op_notIn_seq (pv 5) (pv 1) (by rfl)))))) (fun _ _ _ _ _ => pv 5)))
      (pss_one (ps_set (i := 1) nd rfl (.inr rfl) (pe_op op_cat (pv 1) (pe_sortSet rfl (by rfl) B.sor (by rfl) B.set (pv 3)))))))
    (pss_one (ps_ret (pe_cmpR op_eq (t_len K B (pa_cons (pv 1) pa_nil)) (t_len K B (pa_cons (t_f K (pv 0)) pa_nil)) (nomark _))))), ?_⟩
  obtain ⟨dx, sv, hob, hsv⟩ := R.ob
  unfold hangs at hh
  cases hpl : dd.places with
  | nil => rw [hpl] at hh; cases hh
  | cons p0 ps =>
  rw [hpl] at hh
  simp only at hh
  cases hhl : hangLoop dd.lengths (p0 :: ps).length [p0] with
  | none => rw [hhl] at hh; cases hh
  | some rr =>
  rw [hhl] at hh
  have hlen : rr.length = (p0 :: ps).length := of_decide_eq_true hh
  have hpl' := R.pl
  rw [hpl] at hpl'
  refine ⟨_, rfl, d, CD, dx, _, _, rfl, hob, F.cl, nP, df_places, A.pl, _, 0, _, rfl, rfl, SqL.of hpl', atI_0 (n := 0) rfl, by show 1 ≤ sizeLine; decide, fun p1 hp1 => ?_⟩
  have s1 := same_new (o := .lst [.str p0]) hp1
  have a1 : (upd H p1 (.lst [.str p0])) p1 = some (.lst [.str p0]) := upd_same
  generalize upd H p1 (.lst [.str p0]) = H1 at s1 a1
  refine ⟨_, rfl, d, CD, dx, _, _, rfl, s1 _ _ hob, F.cl, nP, df_places, A.pl, rfl, ⟨_, SqL.of (s1 _ _ hpl')⟩, ?_⟩
  refine for_it (walk_list (K := K) (a := A.pl) (xs := (p0 :: ps).map V.str)) (fun i σ Hx => ∃ (r : List Str) (l : Addr) (v2 v3 v4 v5 : Option V), σ = [some (.ref d), some (.ref l), v2, v3, v4, v5] ∧ Same H Hx ∧ Hx l = some (.lst (r.map V.str)) ∧ hangLoop dd.lengths ((p0 :: ps).length - i) r = some rr)
    ⟨[p0], p1, _, _, _, _, rfl, s1, a1, hhl⟩ (fun i σ Hx _ h => ?_) ?_ ?_
  · obtain ⟨_, _, _, _, _, _, _, k, _⟩ := h
    exact SqL.of (k _ _ hpl')
  · rintro i x σ H6 H5 hi ⟨r, l, v2, v3, v4, v5, rfl, s5, hlr, hlo⟩ ⟨rfl, hx⟩
    rw [List.length_map] at hi
    rw [show (p0 :: ps).length - i = (p0 :: ps).length - (i + 1) + 1 by omega] at hlo
    unfold hangLoop at hlo
    by_cases hsz : (nearOf dd.lengths r).length < 60 ∧ r.length < 1000
    · rw [if_pos hsz] at hlo
      have R5 := R.grow s5
      refine ⟨A.ln, _, R5.ln, trivial, fun od => ?_⟩
      have ndA := R.nd
      simp only [ownD, List.nodup_cons, List.mem_cons, not_or, List.not_mem_nil, not_false_eq_true, and_true] at ndA
      have nds : d ≠ A.ln := ndA.1.2.2.2.1
      have hL : ∀ {b : Addr} {o : HO}, b ≠ A.ln → H5 b = some o → (upd H5 A.ln (.frz od (.dT (lenT dd.lengths)))) b = some o := fun {b o} n e => by rw [upd_ne n]; exact e
      have nll : l ≠ A.ln := fun z => by rw [z, R5.ln] at hlr; cases hlr
      refine ⟨_, rfl, d, CD, dx, _, _, rfl, hL nds (s5 _ _ hob), F.cl, nL, df_lengths, A.ln, od, rfl, .inr ⟨lenT dd.lengths, upd_same, fun Dd hD => ?_⟩⟩
      refine lc_fm (walk_keysT (d := A.ln) (o := od) (kvs := lenT dd.lengths)) (fun i => (dd.lengths[i]?).bind fun q => if q.1.1 ∈ r ∧ q.1.2 ∉ r then some (.str q.1.2) else none) (by unfold lenT; rw [List.length_map]; omega) hD (fun Hl s => s _ _ upd_same) ?_ ?_
      · rintro j y H8 H7 Kk Kn hj s7 ⟨rfl, k, v, qa, hkv, rfl, hqa⟩ k1 k2
        rw [List.getElem?_map] at hkv
        cases hq : dd.lengths[j]? with
        | none => rw [hq] at hkv; cases hkv
        | some e =>
        obtain ⟨⟨a, b⟩, n⟩ := e
        rw [hq] at hkv
        cases hkv
        have hl7 := s7 _ _ (hL nll hlr)
        have hqa' : H7 qa = some (.tup [.str a, .str b]) := hqa
        refine ⟨qa, _, rfl, SqT.of hqa', rfl, _, _, rfl, _, _, rfl, rfl, rfl, _, rfl, _, rfl, l, _, rfl, .inl (SqL.of hl7), rfl, flat_strs _, _, rfl, ?_⟩
        simp only [Bool.false_eq_true, if_false]
        rw [inV_str]
        by_cases ca : a ∈ r
        · refine iteT' (by simpa using ca) ⟨_, rfl, _, rfl, l, _, rfl, .inl (SqL.of hl7), rfl, flat_strs _, _, rfl, ?_⟩
          simp only [if_true]
          rw [inV_str]
          by_cases cb : b ∈ r
          · exact iteF' (by simpa using cb) (k2 (by rw [hq]; simp [ca, cb]) _ (Same.refl _))
          · exact iteT' (by simpa using cb) ⟨_, rfl, k1 _ _ (by rw [hq]; simp [ca, cb]) (Same.refl _)⟩
        · exact iteF' (by simpa using ca) (k2 (by rw [hq]; simp [ca]) _ (Same.refl _))
      · intro H7 s7 hl7
        refine ⟨s7 _ _ upd_same, ?_⟩
        have nDl : Dd ≠ A.ln := fun z => by rw [z, upd_same] at hD; cases hD
        have sU : Same H5 (upd H7 A.ln (.dT (lenT dd.lengths))) := same_unlock R5.ln s7
        have hU : (upd H7 A.ln (.dT (lenT dd.lengths))) Dd = some (.lst ((nearOf dd.lengths r).map V.str)) := by
          rw [upd_ne nDl, hl7]
          rw [show (lenT dd.lengths).length = dd.lengths.length from List.length_map .., range_fm, near_map]
        generalize upd H7 A.ln (.dT (lenT dd.lengths)) = H8 at sU hU
        refine ⟨_, rfl, _, rfl, Dd, nearOf dd.lengths r, rfl, SqL.of hU, hsz.1, fun ys p5 e1 e2 e3 e4 hp5 => ?_⟩
        have ey := sortU_the e1 e2 e3
        subst ey
        have s9 := same_new (o := .lst ((sortL (ddp (nearOf dd.lengths r))).map V.str)) hp5
        refine ⟨l, p5, _, _, rfl, rfl, s9 _ _ (sU _ _ hlr), upd_same, by rw [List.length_map, List.length_map, sizeLine_eq]; omega, fun p6 hp6 => ?_⟩
        rw [← List.map_append]
        exact ⟨_, p6, _, _, _, _, rfl, (s5.trans sU).trans (same_upd s9 hp6), upd_same, hlo⟩
    · rw [if_neg hsz] at hlo; cases hlo
  · rintro σ Hx ⟨r, l, v2, v3, v4, v5, rfl, s5, hlr, hlo⟩
    rw [List.length_map, Nat.sub_self] at hlo
    have e : r = rr := Option.some.inj hlo
    subst e
    refine ⟨_, rfl, l, _, rfl, .inl (SqL.of hlr), _, rfl, d, CD, dx, _, _, rfl, s5 _ _ hob, F.cl, nP, df_places, A.pl, _, rfl, .inl (SqL.of (s5 _ _ hpl')), rfl, ?_⟩
    rw [List.length_map, List.length_map, hlen]
    rw [show decide (V.int (((p0 :: ps).length : Nat) : Int) = V.int (((p0 :: ps).length : Nat) : Int)) = true by simp]
    exact q Hx s5
end
end G

/-! C9 -/
namespace G
open PySem PySem.Spec PyProof.Rows L2
inductive LinesTo (steps : Nat → Option Step) : DraftD → List Str → DraftD → Prop where
  | nil {dd : DraftD} : LinesTo steps dd [] dd
  | cons {dd d1 d2 : DraftD} {z : Str} {zs : List Str} (h : lineStep steps dd z d1) (t : LinesTo steps d1 zs d2) : LinesTo steps dd (z :: zs) d2
theorem DraftAt.there {CD : Addr} {H0 H : Hp} {d : Addr} {A : DA} {dd : DraftD} (R : DraftAt CD H0 H d A dd) : ∀ a ∈ ownD d A, H a ≠ none := fun a ha e => by
  obtain ⟨dx, sv, h1, h2⟩ := R.ob
  obtain ⟨ts, w1, w2⟩ := R.wy
  obtain ⟨kvs, r1, r2⟩ := R.rm
  simp only [ownD, List.mem_cons, List.not_mem_nil, or_false] at ha
  rcases ha with rfl | rfl | rfl | rfl | rfl | rfl | rfl | rfl | rfl
  · rw [h1] at e; cases e
  · rw [R.co] at e; cases e
  · rw [R.pl] at e; cases e
  · rw [w1] at e; cases e
  · rw [R.ln] at e; cases e
  · rw [r1] at e; cases e
  · rw [R.ow] at e; cases e
  · rw [R.dl] at e; cases e
  · rw [R.st] at e; cases e
section
variable {P : Program} {w : World} {K : PySem.W.Frag} {mg : Str → Option Value} {base : Heap}
def sp_read_court (CD : Addr) (steps : Nat → Option Step) : Sp := fun vs H Q _ => ∃ z dd, vs = [.str z] ∧ z.length ≤ 100000 ∧ (Txt.split z "\n").length ≤ 1000 ∧ LinesTo steps draft0 (Txt.split z "\n") dd ∧ dd.starts ≠ [] ∧ dd.lengths.length < 1000 ∧ hangs dd = true ∧ ∀ H' d A, DraftAt CD H H' d A dd → Q (.ref d) H'
theorem c_read_court {CD : Addr} {steps : Nat → Option Step} (B : Blt mg) (F : ClsF K CD draftFN) (D : DefB K mg "read_court" s_read_court ["text"]) (MK : C8.Mak P w K mg base 1 "Draft" CD (sp_draft_init CD) []) (C1 : C8.Cal P w K mg base 5 "take_line" (sp_take_line CD steps) []) (C2 : C8.Cal P w K mg base 1 "hangs_together" (sp_hangs CD) []) :
    C8.Cal P w K mg base 6 "read_court" (sp_read_court CD steps) [] := by
  have S : C8.scC ["text", "draft", "lines", "number", "line"] ["text"] (C8.fnScope s_read_court) = true := by decide +kernel
  have nd := (C8.fnScope_by S).nd
  have nS := F.no "starts" (by decide +kernel)
  refine calB D S (fun vs H Q E h => ?_) (fun f cdv Ar outer s H vs Q E hr h => ?_)
  · obtain ⟨_, _, rfl, _⟩ := h
    rfl
  obtain ⟨z, dd, rfl, hz, hzn, hli, hst, hln, hha, q⟩ := h
  refine ⟨_, pss_cons (ps_if (pt_not (pt_val (t_isi K B (pa_cons (pv 0) (pa_cons (t_ty B.str PyProof.Rows.boot_str) pa_nil))))) (pss_one ps_dead) pss_nil)
    (pss_cons (ps_set (i := 1) nd rfl (.inl rfl) (pe_mk0 MK hr (by decide) (by rfl)))
    (pss_cons (ps_set (i := 2) nd rfl (.inl rfl) (pe_split (pv 0) pe_str))
    (pss_cons (ps_for PassesOwn.never rfl (pi_ek (by decide) (by decide) (by rfl) B.enu (pa_cons (pv 2) pa_nil)) (t_gt K rfl (pgs_cons (pg_name (i := 3) nd rfl (.inl rfl)) (pgs_cons (pg_name (i := 4) nd rfl (.inl rfl)) pgs_nil)))
      (pss_one (ps_if (pt_not (pt_val (C8.pe_c C1 hr (by decide) rfl (pa_cons (pv 1) (pa_cons (pv 4) pa_nil))))) (pss_one ps_dead) pss_nil)))
    (pss_cons (ps_if (PW.pt (pw_or (pt_not (pt_truth (t_f K (pv 1)) (by intro _; rfl))) (pw_or1 (pt_not (pt_val (C8.pe_c C2 hr (by decide) rfl (pa_cons (pv 1) pa_nil))))))) (pss_one ps_dead) pss_nil)
    (pss_one (ps_ret (pv 1))))))), ?_⟩
  refine ⟨_, rfl, _, _, _, _, true, rfl, .ty _, .base (.str _), kit_ty (by decide +kernel), true, rfl, iteF' rfl ?_⟩
  intro d dx hd hdx hne
  have s1 : Same H (upd (upd H dx (.own d)) d (.ins CD dx [])) := same_upd (same_new hdx) (by rw [upd_ne (fun z => hne z.symm)]; exact hd)
  refine ⟨H, d, dx, rfl, s1, hd, upd_same, fun A H1 R1 => ⟨rfl, ?_⟩⟩
  refine ⟨_, rfl, ⟨_, rfl⟩, _, _, rfl, rfl, (by decide +kernel), by rw [sizeLine_eq]; omega, ?_⟩
  intro p1 hp1
  have s2 := same_new (o := .lst ((Txt.split z "\n").map V.str)) hp1
  have a1 : (upd H1 p1 (.lst ((Txt.split z "\n").map V.str))) p1 = some (.lst ((Txt.split z "\n").map V.str)) := upd_same
  have p1own : p1 ∉ ownD d A := fun hx => R1.there _ hx hp1
  generalize upd H1 p1 (.lst ((Txt.split z "\n").map V.str)) = H2 at s2 a1
  have R2 := R1.grow s2
  refine ⟨_, rfl, p1, _, rfl, SqL.of a1, ?_⟩
  have RB := R2.rebase
  have b1 := lessD_some a1 p1own
  refine for_it (walk_ek (K := K) (k := 1) (a := p1) (xs := (Txt.split z "\n").map V.str)) (fun i σ Hx => ∃ (di : DraftD) (v3 v4 : Option V), σ = [some (.str z), some (.ref d), some (.ref p1), v3, v4] ∧ DraftAt CD (lessD H2 d A) Hx d A di ∧ LinesTo steps di ((Txt.split z "\n").drop i) dd)
    ⟨draft0, _, _, rfl, RB, hli⟩ (fun i σ Hx _ h => ?_) ?_ ?_
  · obtain ⟨_, _, _, _, Ri, _⟩ := h
    exact SqL.of (Ri.s0 _ _ b1)
  · rintro i x σ H5 H4 hi ⟨di, v3, v4, rfl, Ri, hl⟩ ⟨T, x1, y1, rfl, hT, rfl, e1, e2⟩
    have e2 : ((Txt.split z "\n").map V.str)[i]? = some y1 := e2
    have e1 : some (V.int (1 + (i : Nat))) = some x1 := e1
    injection e1 with e1
    subst e1
    rw [List.getElem?_map] at e2
    cases hd : (Txt.split z "\n")[i]? with
    | none => rw [hd] at e2; cases e2
    | some li =>
    rw [hd] at e2
    have e2 : y1 = .str li := (Option.some.inj e2).symm
    subst e2
    obtain ⟨hlt, hget⟩ := List.getElem?_eq_some_iff.mp hd
    rw [List.drop_eq_getElem_cons hlt, hget] at hl
    cases hl with
    | @cons _ d1 _ _ _ h t =>
    have sT := same_new (o := .tup [.int (1 + (i : Nat)), .str li]) hT
    refine ⟨T, _, rfl, SqT.of upd_same, rfl, _, _, rfl, _, _, rfl, rfl, ?_⟩
    refine ⟨_, rfl, _, rfl, lessD H2 d A, d, A, di, d1, li, rfl, Ri.grow sT, h, fun H6 R6 => ⟨true, rfl, iteF' rfl ⟨d1, _, _, rfl, R6, t⟩⟩⟩
  · rintro σ Hx ⟨di, v3, v4, rfl, Ri, hl⟩
    rw [List.length_map, List.drop_length] at hl
    cases hl
    obtain ⟨dxi, svi, hobi, _⟩ := Ri.ob
    refine ⟨_, rfl, d, CD, dxi, _, _, rfl, hobi, F.cl, nS, df_starts, true, .inr (.inr ⟨_, Ri.st, ?_⟩), iteF' rfl ?_⟩
    · cases hs : dd.starts with
      | nil => exact absurd hs hst
      | cons _ _ => rfl
    refine ⟨_, rfl, lessD H2 d A, d, A, dd, rfl, Ri, hln, hha, fun H7 s7 => ⟨true, rfl, iteF' rfl ⟨_, rfl, ?_⟩⟩⟩
    exact q H7 d A (R2.base (Ri.grow s7))
end
end G

/-! G13 -/
namespace G
open PySem PySem.Spec PyProof.Rows L2
section
variable {X : Cx}
/-- y = {k: v for ..}, keys that are tuples, y a plain local -/
theorem ps_setDcT {i : Nat} {y : Str} {py : Pos} {kx vx tg iter : Expr} {ifs : List Expr} {scope : Scope} {own : List (Str × Nat)} {pos spos : Pos} {wi : TI} {g : TG} {tt : TT} {tk tv : TE} (hu : X.A.units + 1 < cLine) (hc : X.calm = true) (hN : X.N.Nodup) (hy : X.N[i]? = some y) (hyl : X.env.scope.names.lookup y = some .local)
    (hsw : swapsWith (.DictComp kx vx [⟨tg, iter, ifs, 0⟩] scope pos) (some (.Name y py)) spos.line X.env = pure true) (hi : PI X tg iter wi) (ok : BlkOk X.N X.env.scope scope own)
    (hg : ∀ (s : Shared) (H : Hp) (C : Addr) (cl : List (Str × Addr)) (fp : List Addr), PG (X.blk s H scope (compEnvC scope cl C X.env) fp) tg g) (ht : ∀ (s : Shared) (H : Hp) (C : Addr) (cl : List (Str × Addr)) (fp : List Addr), PTs (X.blk s H scope (compEnvC scope cl C X.env) fp) ifs tt)
    (hk : ∀ (s : Shared) (H : Hp) (C : Addr) (cl : List (Str × Addr)) (fp : List Addr), PE (X.blk s H scope (compEnvC scope cl C X.env) fp) kx tk)
    (he : ∀ (s : Shared) (H : Hp) (C : Addr) (cl : List (Str × Addr)) (fp : List Addr), PE (X.blk s H scope (compEnvC scope cl C X.env) fp) vx tv) (hs : ∀ x, foldedSetIterable iter X.env x = pure x := by intro _; rfl) :
    PS X (.Assign [.Name y py] (.DictComp kx vx [⟨tg, iter, ifs, 0⟩] scope pos) spos) (tAsg (tDcT wi g tt tk tv (own.map (·.2))) (gName i)) := by
  refine ⟨fun pins s σ H D I h => ?_⟩
  have h' : tDcT wi g tt tk tv (own.map (·.2)) σ H (fun x H1 => gName i x σ H1 D.nx) := h
  rw [exec_Assign_Name_used _ _ _ _ hsw]
  refine wpAny_bind (wpAny_standAt (wpAny_bind (wpAny_bind (thn (dcT_core (Qf := fun _ s' => SP X pins D .next s') hu hc hN I hi ok hg ht hk he hs h' fun L C s' m H' I' q hn f => ?_) fun _ s' hq => wpAny_pure (wpAny_pure hq)))))
  show wpAny _ _ (assign (.Name y py) X.env (.ref L)) _ _ _
  obtain ⟨f0, f1, f2, f3, f4, f5⟩ := f
  refine wpAny_assign_Name (store_ok2 (v := V.ref L) I' hN hy (.inl hyl) rfl (fun s2 I2 ⟨a, sb, ha⟩ => ?_) (.inr hyl))
  have haC : C ≠ a := ha.elim (fun z => by rw [z]; exact f1) fun z e => f4 y a z e.symm
  exact ⟨m, hn.sameBut sb haC, fun h3 sb3 => ⟨_, H', I2.turned (t' := s2.toks) (fun b o hb e => (sb3.2 b hb).trans e) f0 f1 f3 f4 f5, q⟩⟩
theorem sw_true2 {elt : Expr} {gs : List Comprehension} {scope : Scope} {pos py : Pos} {y : Str} {l : Nat} {env : Env} (hk : env.scope.kind = .function) (hy : env.scope.names.lookup y = some .local) (hl : (py.line == pos.line) = true)
    (ha : (scope.names.any fun (n, k) => n == y && (k == .local || k == .cell)) = false) : swapsWith (.ListComp elt gs scope pos) (some (.Name y py)) l env = pure true := sw_true hk hy hl ha
theorem sw_dict {kx vx : Expr} {gs : List Comprehension} {scope : Scope} {pos py : Pos} {y : Str} {l : Nat} {env : Env} (hk : env.scope.kind = .function) (hy : env.scope.names.lookup y = some .local) (hl : (py.line == pos.line) = true)
    (ha : (scope.names.any fun (n, k) => n == y && (k == .local || k == .cell)) = false) : swapsWith (.DictComp kx vx gs scope pos) (some (.Name y py)) l env = pure true := by
  have ky : env.kindOf y = some .local := hy
  have hb : env.blockKind = .function := by unfold Env.blockKind; rw [hk]; rfl
  unfold swapsWith
  simp only [hb, ky, ha, Expr.pos, hl]
  rfl
end
end G

/-! C10 -/
namespace G
open PySem PySem.Spec PyProof.Rows L2
abbrev LnD := List ((Str × Str) × Int)
def mergeL (a b : LnD) : LnD := b.foldl (fun acc q => putT acc q.1 q.2) a
theorem lenT_merge : ∀ (b a : LnD), mergeT (lenT a) (lenT b) = lenT (mergeL a b)
  | [], a => rfl
  | q :: b, a => by
    obtain ⟨⟨x, y⟩, n⟩ := q
    show mergeT (putK (lenT a) [.inr x, .inr y] (.int n)) (lenT b) = lenT (mergeL (putT a (x, y) n) b)
    rw [lenT_put, lenT_merge b]
theorem length_mergeL : ∀ (b a : LnD), (mergeL a b).length ≤ a.length + b.length
  | [], a => by simp [mergeL]
  | q :: b, a => by
    have h1 := length_mergeL b (putT a q.1 q.2)
    have h2 := length_putT a q.1 q.2
    show (mergeL (putT a q.1 q.2) b).length ≤ _
    rw [List.length_cons]
    omega
def relax (m a : Str) (ln : LnD) (b : Str) : LnD := match ln.lookup (a, m), ln.lookup (m, b) with
  | some x, some y => let t := x + y; let o := (ln.lookup (a, b)).getD t; putT ln (a, b) (if o < t then o else t)
  | _, _ => ln
def relax2 (ps : List Str) (m : Str) (ln : LnD) (a : Str) : LnD := ps.foldl (relax m a) ln
def relax3 (ps : List Str) (ln : LnD) (m : Str) : LnD := ps.foldl (relax2 ps m) ln
def diag (ps : List Str) : LnD := ps.foldl (fun acc p => putT acc (p, p) 0) []
def allDist (ps : List Str) (ln : LnD) : LnD := ps.foldl (relax3 ps) (mergeL (diag ps) ln)
theorem length_relax (m a b : Str) (ln : LnD) : (relax m a ln b).length ≤ ln.length + 1 := by
  unfold relax
  split
  · exact length_putT _ _ _
  · omega
theorem foldl_take {α β : Type} (f : β → α → β) (b : β) {xs : List α} {i : Nat} {x : α} (e : xs[i]? = some x) : (xs.take (i + 1)).foldl f b = f ((xs.take i).foldl f b) x := by
  rw [List.take_succ, e, List.foldl_append]
  rfl
section
variable {P : Program} {w : World} {K : PySem.W.Frag} {mg : Str → Option Value} {base : Heap}
def sp_all_dist : Sp := fun vs H Q _ => ∃ (p d : Addr) (ps : List Str) (ln : LnD), vs = [.ref p, .ref d] ∧ H p = some (.tup (ps.map V.str)) ∧ H d = some (.dT (lenT ln)) ∧ 1 ≤ ps.length ∧ ps.length ≤ 12 ∧ ln.length ≤ 1000 ∧ ∀ H' s, Same H H' → H' s = some (.dT (lenT (allDist ps ln))) → Q (.ref s) H'
theorem c_all_dist (B : Blt mg) (D : DefB K mg "all_distances" s_all_distances ["places", "lengths"]) : C8.Cal P w K mg base 1 "all_distances" sp_all_dist [] := by
  have S : C8.scC ["places", "lengths", "far", "place", "middle", "one", "other", "total"] ["places", "lengths"] (C8.fnScope s_all_distances) = true := by decide +kernel
  have nd := (C8.fnScope_by S).nd
  refine calB D S (fun vs H Q E h => ?_) (fun f cdv Ar outer s H vs Q E hr h => ?_)
  · obtain ⟨_, _, _, _, rfl, _⟩ := h
    rfl
  obtain ⟨p, d, ps, ln, rfl, hp, hd, n1, n2, l1, q⟩ := h
  have hu := hu_of hr
  refine ⟨_, pss_cons (ps_setDcT (i := 2) hu (own := [("place", 3)]) (g := gName 3) (tt := tYes) rfl nd rfl rfl (sw_dict rfl rfl rfl (by decide +kernel)) (pi_tup (pv 0)) (blkOk_by (N := ["places", "lengths", "far", "place", "middle", "one", "other", "total"]) (sc := C8.fnScope s_all_distances) (by decide +kernel)) (fun _ _ _ _ _ => pg_name (i := 3) nd rfl (.inl rfl)) (fun _ _ _ _ _ => pts_nil) (fun _ _ _ _ _ => pe_tup (pa_cons (pv 3) (pa_cons (pv 3) pa_nil))) (fun _ _ _ _ _ => pe_int))
    (pss_cons (ps_expr (pe_bm PySem.F.plainAttrs_dict PySem.F.slot_dict_update PySem.F.type_dict_update (mt_updT hu) (pv 2) (pa_cons (pv 1) pa_nil)))
    (pss_cons (ps_for PassesOwn.never rfl (pi_tup (pv 0)) (pg_name (i := 4) nd rfl (.inl rfl))
      (pss_one (ps_for PassesOwn.never rfl (pi_tup (pv 0)) (pg_name (i := 5) nd rfl (.inl rfl))
        (pss_one (ps_for PassesOwn.never rfl (pi_tup (pv 0)) (pg_name (i := 6) nd rfl (.inl rfl))
          (pss_one (ps_if (PW.pt (pw_and (pt_cmp (pc_din hu (pe_tup (pa_cons (pv 5) (pa_cons (pv 4) pa_nil))) (pv 2))) (pw_and1 (pt_cmp (pc_din hu (pe_tup (pa_cons (pv 4) (pa_cons (pv 6) pa_nil))) (pv 2))))))
            (pss_cons (ps_set (i := 7) nd rfl (.inl rfl) (pe_op op_add (pe_dget hu (pv 2) (pe_tup (pa_cons (pv 5) (pa_cons (pv 4) pa_nil))) (fun _ _ => rfl)) (pe_dget hu (pv 2) (pe_tup (pa_cons (pv 4) (pa_cons (pv 6) pa_nil))) (fun _ _ => rfl))))
            (pss_one (ps_dput hu (pv 2) (pe_tup (pa_cons (pv 5) (pa_cons (pv 6) pa_nil))) (pe_callB (call_min2 rfl) (by rfl) B.min boot_min (pa_cons (pv 7) (pa_cons (pe_dget2 hu (pv 2) (pe_tup (pa_cons (pv 5) (pa_cons (pv 6) pa_nil))) (pv 7) ⟨by rfl, by rfl, by rfl, by rfl⟩) pa_nil))) rfl))) pss_nil)))))))
    (pss_one (ps_ret (pv 2))))), ?_⟩
  have mapS : ∀ {i : Nat} {x : V}, (ps.map V.str)[i]? = some x → ∃ z, ps[i]? = some z ∧ x = .str z := fun {i x} e => by
    rw [List.getElem?_map] at e
    cases h : ps[i]? with
    | none => rw [h] at e; cases e
    | some z => rw [h] at e; cases e; exact ⟨z, rfl, rfl⟩
  refine ⟨_, rfl, p, rfl, ⟨_, SqT.of hp⟩, fun f1 hf1 => ?_⟩
  refine dcT_tup (K := K) (a := p) (xs := ps.map V.str) (fun i Hl => Same H Hl ∧ ∃ acc : LnD, Hl f1 = some (.dT (lenT acc)) ∧ acc.length ≤ i ∧ acc = (ps.take i).foldl (fun acc p => putT acc (p, p) 0) [])
    ⟨same_new hf1, [], upd_same, by simp, rfl⟩ (fun i Hl _ h => SqT.of (h.1 _ _ hp)) ?_ ?_
  · rintro i x H4 hx ⟨s4, acc, k1, k2, k3⟩
    obtain ⟨z, hz, rfl⟩ := mapS hx
    have hi := (List.getElem?_eq_some_iff.mp hz).1
    refine ⟨rfl, yes_if ⟨_, rfl, _, rfl, by show 2 ≤ sizeLine; decide, fun b hb => ?_⟩⟩
    have sb := same_new (o := .tup [.str z, .str z]) hb
    refine ⟨lenT acc, [.inr z, .inr z], b, rfl, sb _ _ k1, upd_same, by unfold lenT; rw [List.length_map, sizeLine_eq]; omega, ?_⟩
    rw [lenT_put]
    exact ⟨same_old (s4.trans sb) hf1, _, upd_same, Nat.le_trans (length_putT _ _ _) (by omega), by rw [foldl_take _ _ hz, ← k3]⟩
  rintro H4 ⟨s4, acc, k1, k2, k3⟩
  rw [List.length_map] at k2 k3
  rw [List.take_length] at k3
  have ek : acc = diag ps := k3
  subst ek
  have hdf : f1 ≠ d := fun z => by rw [z, hd] at hf1; cases hf1
  have kne : lenT (diag ps) ≠ [] := by
    cases hps : ps with
    | nil => rw [hps] at n1; simp at n1
    | cons a r =>
      have aux : ∀ (l : List Str) (acc : LnD), acc ≠ [] → l.foldl (fun acc p => putT acc (p, p) 0) acc ≠ [] := fun l => by
        induction l with
        | nil => intro acc h; exact h
        | cons b l ih =>
          intro acc h
          refine ih _ (show putT acc (b, b) 0 ≠ [] from ?_)
          unfold putT
          by_cases c : (acc.any fun q => decide (q.1 = (b, b))) = true
          · rw [if_pos c]; intro z; exact h (List.map_eq_nil_iff.mp z)
          · rw [if_neg c]; simp
      have h1 : diag (a :: r) ≠ [] := aux r _ (by unfold putT; simp)
      intro z
      exact h1 (List.map_eq_nil_iff.mp z)
  refine ⟨_, rfl, .inr (.inr (.inl ⟨rfl, .inr ⟨_, k1⟩⟩)), _, rfl, f1, d, _, _, rfl, rfl, hdf, k1, s4 _ _ hd, kne, by unfold lenT; rw [List.length_map, List.length_map, sizeLine_eq]; omega, ?_⟩
  rw [lenT_merge]
  have s5 := same_old (o := .dT (lenT (mergeL (diag ps) ln))) s4 hf1
  have k5 : (upd H4 f1 (.dT (lenT (mergeL (diag ps) ln)))) f1 = some (.dT (lenT (mergeL (diag ps) ln))) := upd_same
  generalize upd H4 f1 (.dT (lenT (mergeL (diag ps) ln))) = H5 at s5 k5
  have l5 : (mergeL (diag ps) ln).length ≤ 1012 := by
    have := length_mergeL ln (diag ps)
    omega
  refine ⟨_, rfl, p, rfl, ⟨_, SqT.of (s5 _ _ hp)⟩, ?_⟩
  refine for_it (walk_tup (K := K) (a := p) (xs := ps.map V.str)) (fun i σ Hx => ∃ (v3 v4 v5 v6 v7 : Option V) (acc : LnD), σ = [some (.ref p), some (.ref d), some (.ref f1), v3, v4, v5, v6, v7] ∧ Same H Hx ∧ Hx f1 = some (.dT (lenT acc)) ∧ acc.length ≤ 1012 + i * 144 ∧ acc = (ps.take i).foldl (relax3 ps) (mergeL (diag ps) ln))
    ⟨_, _, _, _, _, _, rfl, s5, k5, by omega, rfl⟩ (fun i σ Hx _ h => ?_) ?_ ?_
  · obtain ⟨_, _, _, _, _, _, _, k, _⟩ := h
    exact SqT.of (k _ _ hp)
  · rintro i x σ H7 H6 hi ⟨v3, v4, v5, v6, v7, acc, rfl, s6, k6, l6, e6⟩ ⟨rfl, hx⟩
    obtain ⟨m, hm, rfl⟩ := mapS hx
    refine ⟨_, rfl, p, rfl, ⟨_, SqT.of (s6 _ _ hp)⟩, ?_⟩
    refine for_it (walk_tup (K := K) (a := p) (xs := ps.map V.str)) (fun j σ Hx => ∃ (v3 v5 v6 v7 : Option V) (ac2 : LnD), σ = [some (.ref p), some (.ref d), some (.ref f1), v3, some (.str m), v5, v6, v7] ∧ Same H Hx ∧ Hx f1 = some (.dT (lenT ac2)) ∧ ac2.length ≤ 1012 + i * 144 + j * 12 ∧ ac2 = (ps.take j).foldl (relax2 ps m) acc)
      ⟨_, _, _, _, acc, rfl, s6, k6, by omega, rfl⟩ (fun j σ Hx _ h => ?_) ?_ ?_
    · obtain ⟨_, _, _, _, _, _, k, _⟩ := h
      exact SqT.of (k _ _ hp)
    · rintro j x σ H9 H8 hj ⟨v3, v5, v6, v7, ac2, rfl, s8, k8, l8, e8⟩ ⟨rfl, hx⟩
      obtain ⟨a, ha, rfl⟩ := mapS hx
      refine ⟨_, rfl, p, rfl, ⟨_, SqT.of (s8 _ _ hp)⟩, ?_⟩
      refine for_it (walk_tup (K := K) (a := p) (xs := ps.map V.str)) (fun k σ Hx => ∃ (v3 v6 v7 : Option V) (ac3 : LnD), σ = [some (.ref p), some (.ref d), some (.ref f1), v3, some (.str m), some (.str a), v6, v7] ∧ Same H Hx ∧ Hx f1 = some (.dT (lenT ac3)) ∧ ac3.length ≤ 1012 + i * 144 + j * 12 + k ∧ ac3 = (ps.take k).foldl (relax m a) ac2)
        ⟨_, _, _, ac2, rfl, s8, k8, by omega, rfl⟩ (fun k σ Hx _ h => ?_) ?_ ?_
      · obtain ⟨_, _, _, _, _, k, _⟩ := h
        exact SqT.of (k _ _ hp)
      · rintro k x σ HB HA hk ⟨v3, v6, v7, ac3, rfl, sA, kA, lA, eA⟩ ⟨rfl, hx⟩
        obtain ⟨b, hb, rfl⟩ := mapS hx
        have hi1 := (List.getElem?_eq_some_iff.mp hm).1
        have hj1 := (List.getElem?_eq_some_iff.mp ha).1
        have hk1 := (List.getElem?_eq_some_iff.mp hb).1
        have szA : ac3.length < 90000 := by omega
        have e3 : (ps.take (k + 1)).foldl (relax m a) ac2 = relax m a ac3 b := by rw [foldl_take _ _ hb, ← eA]
        refine ⟨_, rfl, _, rfl, by show 2 ≤ sizeLine; decide, fun q1 hq1 => ?_⟩
        have t1 := same_new (o := .tup [.str a, .str m]) hq1
        have g1 := DGet.t (k := [.inr a, .inr m]) (t1 _ _ kA) (upd_same (H := HA) (a := q1) (o := .tup [.str a, .str m]))
        rw [valV_lenT] at g1
        generalize upd HA q1 (.tup [.str a, .str m]) = H1a at t1 g1
        refine ⟨_, rfl, f1, _, rfl, g1, _, rfl, ?_⟩
        rw [Option.isSome_map]
        cases hx1 : ac3.lookup (a, m) with
        | none =>
          refine iteF' rfl (iteF' rfl ⟨_, _, _, ac3, rfl, sA.trans t1, t1 _ _ kA, by omega, ?_⟩)
          rw [e3]
          unfold relax
          rw [hx1]
        | some n1 =>
          refine iteT' rfl ⟨_, rfl, _, rfl, by show 2 ≤ sizeLine; decide, fun q2 hq2 => ?_⟩
          have t2 := same_new (o := .tup [.str m, .str b]) hq2
          have g2 := DGet.t (k := [.inr m, .inr b]) (t2 _ _ (t1 _ _ kA)) (upd_same (H := H1a) (a := q2) (o := .tup [.str m, .str b]))
          rw [valV_lenT] at g2
          generalize upd H1a q2 (.tup [.str m, .str b]) = H2a at t2 g2
          refine ⟨_, rfl, f1, _, rfl, g2, _, rfl, ?_⟩
          rw [Option.isSome_map]
          cases hy1 : ac3.lookup (m, b) with
          | none =>
            refine iteF' rfl ⟨_, _, _, ac3, rfl, (sA.trans t1).trans t2, t2 _ _ (t1 _ _ kA), by omega, ?_⟩
            rw [e3]
            unfold relax
            rw [hx1, hy1]
          | some n2 =>
            have s2 := (sA.trans t1).trans t2
            have kB := t2 _ _ (t1 _ _ kA)
            have tw : ∀ {Hq : Hp} {q3 : Addr} {u v : Str}, Hq q3 = none → Same H Hq → Hq f1 = some (.dT (lenT ac3)) → Same H (upd Hq q3 (.tup [.str u, .str v])) ∧ (upd Hq q3 (.tup [.str u, .str v])) f1 = some (.dT (lenT ac3)) ∧ DGet (upd Hq q3 (.tup [.str u, .str v])) f1 (.ref q3) ((ac3.lookup (u, v)).map V.int) := fun {Hq q3 u v} h1 h2 h3 => by
              have t := same_new (o := .tup [.str u, .str v]) h1
              have g := DGet.t (k := [.inr u, .inr v]) (t _ _ h3) (upd_same (H := Hq) (a := q3) (o := .tup [.str u, .str v]))
              rw [valV_lenT] at g
              exact ⟨h2.trans t, t _ _ h3, g⟩
            refine iteT' rfl ⟨_, rfl, _, rfl, _, rfl, by show 2 ≤ sizeLine; decide, fun q3 hq3 => ?_⟩
            obtain ⟨s3, k3', g3⟩ := tw (u := a) (v := m) hq3 s2 kB
            rw [hx1] at g3
            generalize upd H2a q3 (.tup [.str a, .str m]) = H3a at s3 k3' g3
            refine ⟨f1, _, rfl, g3, _, rfl, _, rfl, _, rfl, by show 2 ≤ sizeLine; decide, fun q4 hq4 => ?_⟩
            obtain ⟨s4', k4', g4⟩ := tw (u := m) (v := b) hq4 s3 k3'
            rw [hy1] at g4
            generalize upd H3a q4 (.tup [.str m, .str b]) = H4a at s4' k4' g4
            refine ⟨f1, _, rfl, g4, n1, n2, rfl, rfl, ?_⟩
            refine ⟨_, rfl, _, rfl, f1, rfl, .inr ⟨_, .inl k4'⟩, _, rfl, _, rfl, by show 2 ≤ sizeLine; decide, fun q5 hq5 => ?_⟩
            obtain ⟨s5', k5', g5⟩ := tw (u := a) (v := b) hq5 s4' k4'
            generalize upd H4a q5 (.tup [.str a, .str b]) = H5a at s5' k5' g5
            have ev : ((ac3.lookup (a, b)).map V.int).getD (.int (n1 + n2)) = .int ((ac3.lookup (a, b)).getD (n1 + n2)) := by
              cases ac3.lookup (a, b) <;> rfl
            refine ⟨_, rfl, _, g5, ?_⟩
            rw [ev]
            refine ⟨_, _, rfl, _, rfl, _, rfl, _, rfl, by show 2 ≤ sizeLine; decide, fun q6 hq6 => ?_⟩
            have t6 := same_new (o := .tup [.str a, .str b]) hq6
            have e6' : (upd H5a q6 (.tup [.str a, .str b])) q6 = some (.tup [.str a, .str b]) := upd_same
            generalize upd H5a q6 (.tup [.str a, .str b]) = H6a at t6 e6'
            have d6 := DPut.t (k := [.inr a, .inr b]) (v := .int (if (ac3.lookup (a, b)).getD (n1 + n2) < n1 + n2 then (ac3.lookup (a, b)).getD (n1 + n2) else n1 + n2)) (t6 _ _ k5') e6' (by unfold lenT; rw [List.length_map, sizeLine_eq]; omega)
            rw [lenT_put] at d6
            refine ⟨f1, _, rfl, d6, ?_⟩
            refine ⟨_, _, _, putT ac3 (a, b) (if (ac3.lookup (a, b)).getD (n1 + n2) < n1 + n2 then (ac3.lookup (a, b)).getD (n1 + n2) else n1 + n2), rfl, same_old (s5'.trans t6) hf1, upd_same, Nat.le_trans (length_putT _ _ _) (by omega), ?_⟩
            rw [e3]
            unfold relax
            rw [hx1, hy1]
      · rintro σ Hx ⟨v3, v6, v7, ac3, rfl, sA, kA, lA, eA⟩
        rw [List.length_map] at lA eA
        rw [List.take_length] at eA
        refine ⟨_, _, _, _, ac3, rfl, sA, kA, by omega, ?_⟩
        rw [foldl_take _ _ ha, ← e8, eA]
        rfl
    · rintro σ Hx ⟨v3, v5, v6, v7, ac2, rfl, s8, k8, l8, e8⟩
      rw [List.length_map] at l8 e8
      rw [List.take_length] at e8
      refine ⟨_, _, _, _, _, ac2, rfl, s8, k8, by omega, ?_⟩
      rw [foldl_take _ _ hm, ← e6, e8]
      rfl
  · rintro σ Hx ⟨v3, v4, v5, v6, v7, acc, rfl, s6, k6, l6, e6⟩
    rw [List.length_map, List.take_length] at e6
    subst e6
    exact ⟨_, rfl, q Hx f1 s6 k6⟩
end
end G

/-! C11 -/
namespace G
open PySem PySem.Spec PyProof.Rows L2
def pairsOf (ns : List Str) (a : Str) : List (Str × Str) := (ns.filter fun b => decide (a ≠ b)).map fun b => (a, b)
def allPairs (ns : List Str) : List (Str × Str) := ns.flatMap (pairsOf ns)
def delaysOf (ns : List Str) (dl : LnD) : List (Str × Str × Int) := (allPairs ns).map fun q => (q.1, q.2, (dl.lookup (q.1, q.2)).getD 0)
abbrev PrAt (H : Hp) (t : Addr) (q : Str × Str) : Prop := H t = some (.tup [.str q.1, .str q.2])
theorem length_pairsOf (ns : List Str) (a : Str) : (pairsOf ns a).length ≤ ns.length := by
  unfold pairsOf
  rw [List.length_map]
  exact List.length_filter_le _ _
theorem length_flat (ns : List Str) : ∀ (xs : List Str), (xs.flatMap (pairsOf ns)).length ≤ xs.length * ns.length
  | [] => by simp
  | x :: xs => by
    rw [List.flatMap_cons, List.length_append, List.length_cons]
    have h1 := length_flat ns xs
    have h2 := length_pairsOf ns x
    rw [Nat.succ_mul]
    omega
section
variable {P : Program} {w : World} {K : PySem.W.Frag} {mg : Str → Option Value} {base : Heap}
def sp_all_delays : Sp := fun vs H Q _ => ∃ (p : Addr) (ts : List Addr) (ns : List Str) (d : Addr) (dl : LnD), vs = [.ref p, .ref d] ∧ H p = some (.tup (ts.map V.ref)) ∧ Paired (fun (t : Addr) (n : Str) => ∃ v : V, H t = some (.tup [.str n, v])) ts ns ∧ ns.length ≤ 100 ∧ H d = some (.dT (lenT dl)) ∧
  ∀ H' s us, Same H H' → H' s = some (.tup (us.map V.ref)) → Paired (WayAt H') us (delaysOf ns dl) → Q (.ref s) H'
theorem c_all_delays (B : Blt mg) (D : DefB K mg "all_delays" s_all_delays ["players", "told"]) : C8.Cal P w K mg base 1 "all_delays" sp_all_delays [] := by
  have S : C8.scC ["players", "told", "names", "pairs", "name", "_", "one", "other"] ["players", "told"] (C8.fnScope s_all_delays) = true := by decide +kernel
  have nd := (C8.fnScope_by S).nd
  refine calB D S (fun vs H Q E h => ?_) (fun f cdv Ar outer s H vs Q E hr h => ?_)
  · obtain ⟨_, _, _, _, _, rfl, _⟩ := h
    rfl
  obtain ⟨p, ts, ns, d, dl, rfl, hp, hpa, hn, hd, q⟩ := h
  have hu := hu_of hr
  refine ⟨_, pss_cons (ps_set (i := 2) nd rfl (.inr rfl) (pe_lc (own := [("name", 4), ("_", 5)]) (tt := tYes) rfl nd (pi_tup (pv 0)) (blkOk_by (N := ["players", "told", "names", "pairs", "name", "_", "one", "other"]) (sc := C8.fnScope s_all_delays) (by decide +kernel)) (fun _ _ _ _ _ => t_gt K (n := 2) rfl (pgs_cons (pg_name (i := 4) nd rfl (.inl rfl)) (pgs_cons (pg_name (i := 5) nd rfl (.inl rfl)) pgs_nil))) (fun _ _ _ _ _ => pts_nil) (fun _ _ _ _ _ => pv 4)))
    (pss_cons (ps_setLc2 (i := 3) (own := [("one", 6), ("other", 7)]) (vs1 := [7]) (g := gName 6) (g1 := gName 7) (tt := tYes) (wi1 := iList K (tVar 2)) (tt1 := tTest (tOp rNe (tVar 6) (tVar 7))) rfl nd rfl rfl (by exact sw_true2 rfl rfl rfl (by decide +kernel)) (pi_list (pv 2)) (blkOk_by (N := ["players", "told", "names", "pairs", "name", "_", "one", "other"]) (sc := C8.fnScope s_all_delays) (by decide +kernel)) (by decide)
      (fun _ _ _ _ _ => pg_name (i := 6) nd rfl (.inl rfl)) (fun _ _ _ _ _ => pts_nil) (fun _ _ _ _ _ => by exact pi_list (pv 2)) (fun _ _ _ _ _ => pg_name (i := 7) nd rfl (.inl rfl)) (fun _ _ _ _ _ => by exact pts_one (pt_cmpR op_ne (pv 6) (pv 7) (nomark _))) (fun _ _ _ _ _ => pe_tup (pa_cons (pv 6) (pa_cons (pv 7) pa_nil))))
    (pss_one (ps_ret (pe_tupleOf (by rfl) B.tup (pe_lc (own := [("one", 6), ("other", 7)]) (tt := tYes) rfl nd (pi_list (pv 3)) (blkOk_by (N := ["players", "told", "names", "pairs", "name", "_", "one", "other"]) (sc := C8.fnScope s_all_delays) (by decide +kernel)) (fun _ _ _ _ _ => t_gt K (n := 2) rfl (pgs_cons (pg_name (i := 6) nd rfl (.inl rfl)) (pgs_cons (pg_name (i := 7) nd rfl (.inl rfl)) pgs_nil))) (fun _ _ _ _ _ => pts_nil)
      (fun _ _ _ _ _ => pe_tup (pa_cons (pv 6) (pa_cons (pv 7) (pa_cons (pe_dget2 hu (pv 1) (pe_tup (pa_cons (pv 6) (pa_cons (pv 7) pa_nil))) pe_int ⟨by rfl, by rfl, by rfl, by rfl⟩) pa_nil))))))))), ?_⟩
  have lts : ts.length = ns.length := Paired.length hpa
  refine ⟨_, rfl, p, rfl, ⟨_, SqT.of hp⟩, fun D1 hD1 => ?_⟩
  refine lc_fm (walk_tup (K := K) (a := p) (xs := ts.map V.ref)) (fun i => (ns[i]?).map V.str) (by rw [List.length_map]; omega) hD1 (fun _ s1 => SqT.of (s1 _ _ hp)) ?_ ?_
  · rintro i x H3 H2 Kk Kn hi s2 ⟨rfl, hx⟩ k1 k2
    obtain ⟨t, ht, rfl⟩ := map_get_ref hx
    obtain ⟨n, hn1, v, hv⟩ := paired_at hpa ht
    exact ⟨t, _, rfl, SqT.of (s2 _ _ hv), rfl, _, _, rfl, _, _, rfl, rfl, rfl, yes_if ⟨_, rfl, k1 _ _ (by rw [hn1]; rfl) (Same.refl _)⟩⟩
  intro H1 s1 h1
  rw [List.length_map, lts, range_map] at h1
  refine ⟨_, rfl, D1, rfl, ⟨_, SqL.of h1⟩, fun D2 hD2 => ?_⟩
  have hp1 := s1 _ _ hp
  have mapS : ∀ {i : Nat} {x : V}, (ns.map V.str)[i]? = some x → ∃ z, ns[i]? = some z ∧ x = .str z := fun {i x} e => by
    rw [List.getElem?_map] at e
    cases h : ns[i]? with
    | none => rw [h] at e; cases e
    | some z => rw [h] at e; cases e; exact ⟨z, rfl, rfl⟩
  refine lc2_it (walk_list (K := K) (a := D1) (xs := ns.map V.str)) (fun i Hl => Same H1 Hl ∧ ∃ t2 : List Addr, Hl D2 = some (.lst (t2.map V.ref)) ∧ Paired (PrAt Hl) t2 ((ns.take i).flatMap (pairsOf ns)))
    ⟨same_new hD2, [], upd_same, .nil⟩ (fun i Hl _ h => SqL.of (h.1 _ _ h1)) ?_ ?_
  · rintro i x H3 H2 hi ⟨s2, t2, k2, p2⟩ ⟨rfl, hx⟩
    obtain ⟨a, ha, rfl⟩ := mapS hx
    have hi1 := (List.getElem?_eq_some_iff.mp ha).1
    refine ⟨rfl, yes_if ⟨_, rfl, D1, rfl, ⟨_, SqL.of (s2 _ _ h1)⟩, ?_⟩⟩
    refine in_it (walk_list (K := K) (a := D1) (xs := ns.map V.str)) (fun j Hl => Same H1 Hl ∧ ∃ t2 : List Addr, Hl D2 = some (.lst (t2.map V.ref)) ∧ Paired (PrAt Hl) t2 (((ns.take i).flatMap (pairsOf ns)) ++ (((ns.take j).filter fun b => decide (a ≠ b)).map fun b => (a, b))))
      ⟨s2, t2, k2, by simpa using p2⟩ (fun j Hl _ h => SqL.of (h.1 _ _ h1)) ?_ ?_
    · rintro j y H5 H4 hj ⟨s4, t4, k4, p4⟩ ⟨rfl, hy⟩
      obtain ⟨b, hb, rfl⟩ := mapS hy
      have hj1 := (List.getElem?_eq_some_iff.mp hb).1
      have et : (ns.take (j + 1)).filter (fun b => decide (a ≠ b)) = (ns.take j).filter (fun b => decide (a ≠ b)) ++ (if a = b then [] else [b]) := by
        rw [List.take_succ, hb, List.filter_append]
        by_cases c : a = b <;> simp [c]
      refine ⟨rfl, _, rfl, _, rfl, rfl, _, rfl, ?_⟩
      by_cases c : a = b
      · refine iteF' (by rw [c]; simp) ⟨s4, t4, k4, ?_⟩
        rw [et, if_pos c, List.append_nil]
        exact p4
      · refine iteT' (by simp; exact c) ⟨_, rfl, _, rfl, by show 2 ≤ sizeLine; decide, fun u hu1 => ?_⟩
        have su := same_new (o := .tup [.str a, .str b]) hu1
        have tu := tups_upd (o := .lst (t4.map V.ref ++ [.ref u])) (su _ _ k4) (fun _ z => by cases z)
        refine ⟨t4.map V.ref, su _ _ k4, ?_, same_old (s4.trans su) hD2, t4 ++ [u], by rw [upd_same, List.map_append]; rfl, ?_⟩
        · have l4 := Paired.length p4
          have l5 := length_flat ns (ns.take i)
          rw [List.length_append, List.length_map] at l4
          have l6 := List.length_filter_le (fun b => decide (a ≠ b)) (ns.take j)
          rw [List.length_take] at l5 l6
          have l7 : min i ns.length * ns.length ≤ 100 * 100 := Nat.mul_le_mul (by omega) hn
          rw [List.length_map, sizeLine_eq]
          omega
        · rw [et, if_neg c, List.map_append, ← List.append_assoc]
          exact Paired.snoc (Paired.mapP p4 fun _ _ z => tu _ _ (su _ _ z)) (tu _ _ upd_same)
    · rintro Hl ⟨s4, t4, k4, p4⟩
      refine ⟨s4, t4, k4, ?_⟩
      rw [List.length_map, List.take_length] at p4
      rw [List.take_succ, ha, List.flatMap_append]
      simpa [pairsOf] using p4
  · rintro H3 ⟨s3, t3, k3, p3⟩
    rw [List.length_map, List.take_length] at p3
    have p3 : Paired (PrAt H3) t3 (allPairs ns) := p3
    have l3 := Paired.length p3
    have l4 : (allPairs ns).length ≤ 10000 := by
      have l5 := length_flat ns ns
      have l6 : ns.length * ns.length ≤ 100 * 100 := Nat.mul_le_mul hn hn
      unfold allPairs
      omega
    refine ⟨_, rfl, D2, rfl, ⟨_, SqL.of k3⟩, fun D3 hD3 => ?_⟩
    have sHd : Same H H3 := s1.trans s3
    refine lc_rel (walk_list (K := K) (a := D2) (xs := t3.map V.ref)) (fun i v H => ∃ (u : Addr) (q : Str × Str), v = .ref u ∧ (allPairs ns)[i]? = some q ∧ H u = some (.tup [.str q.1, .str q.2, .int ((dl.lookup (q.1, q.2)).getD 0)])) (by rw [List.length_map]; omega) hD3
      (fun i v H H' ts ⟨u, q, h1, h2, h3⟩ => ⟨u, q, h1, h2, ts _ _ h3⟩) (fun H' s4 => SqL.of (s4 _ _ k3)) ?_ ?_
    · rintro i x H5 H4 Kk Kn hi s4 ⟨rfl, hx⟩ kk
      obtain ⟨t, ht, rfl⟩ := map_get_ref hx
      obtain ⟨q, hq, hv⟩ := paired_at p3 ht
      have hd4 := s4 _ _ (sHd _ _ hd)
      refine ⟨t, _, rfl, SqT.of (s4 _ _ hv), rfl, _, _, rfl, _, _, rfl, rfl, rfl, yes_if ⟨_, rfl, _, rfl, _, rfl, d, rfl, .inr ⟨_, .inl hd4⟩, _, rfl, _, rfl, by show 2 ≤ sizeLine; decide, fun u1 hu1 => ?_⟩⟩
      have su := same_new (o := .tup [.str q.1, .str q.2]) hu1
      have g := DGet.t (k := [.inr q.1, .inr q.2]) (su _ _ hd4) (upd_same (H := H4) (a := u1) (o := .tup [.str q.1, .str q.2]))
      rw [valV_lenT] at g
      have ev : ((dl.lookup (q.1, q.2)).map V.int).getD (.int 0) = .int ((dl.lookup (q.1, q.2)).getD 0) := by
        cases dl.lookup (q.1, q.2) <;> rfl
      refine ⟨_, g, ?_⟩
      rw [ev]
      refine ⟨by show 3 ≤ sizeLine; decide, fun u2 hu2 => ?_⟩
      exact kk _ _ ⟨u2, q, rfl, hq, upd_same⟩ (same_upd su hu2)
    · intro ys H4 s4 hys hlen hR
      have hlen2 : ys.length = (allPairs ns).length := by rw [hlen, List.length_map, l3]
      have cv : ∀ {ys : List V} {qs : List (Str × Str)}, ys.length = qs.length → (∀ (i : Nat) (y : V), ys[i]? = some y → ∃ (u : Addr) (q : Str × Str), y = V.ref u ∧ qs[i]? = some q ∧ H4 u = some (.tup [.str q.1, .str q.2, .int ((dl.lookup (q.1, q.2)).getD 0)])) →
          ∃ us : List Addr, ys = us.map V.ref ∧ Paired (WayAt H4) us (qs.map fun q => (q.1, q.2, (dl.lookup (q.1, q.2)).getD 0)) := fun {ys} => by
        induction ys with
        | nil => intro qs h1 _; cases qs with | nil => exact ⟨[], rfl, .nil⟩ | cons _ _ => cases h1
        | cons y ys ih =>
          intro qs h1 h2
          cases qs with
          | nil => cases h1
          | cons q qs =>
            obtain ⟨us, e, r⟩ := ih (by simpa using h1) fun i z hz => by
              obtain ⟨u, q', z1, z2, z3⟩ := h2 (i + 1) z hz
              exact ⟨u, q', z1, z2, z3⟩
            obtain ⟨u, q', z1, z2, z3⟩ := h2 0 y rfl
            cases z2
            exact ⟨u :: us, by rw [z1, e]; rfl, .cons z3 r⟩
      obtain ⟨us, e, r⟩ := cv hlen2 hR
      subst e
      refine .inl ⟨D3, _, rfl, SqL.of hys, fun u hu1 => ?_⟩
      have su := same_new (o := .tup (us.map V.ref)) hu1
      exact q _ u us ((sHd.trans s4).trans su) upd_same (Paired.mapP r fun _ _ z => su _ _ z)
end
end G

/-! C12 -/
namespace G
open PySem PySem.Spec PyProof.Rows L2
theorem DraftAt.low {CD : Addr} {H0 H1 H : Hp} {d : Addr} {A : DA} {dd : DraftD} (R : DraftAt CD H1 H d A dd) (s : Same H0 H1) : DraftAt CD H0 H d A dd :=
  ⟨s.trans R.s0, R.ob, R.co, R.pl, R.wy, R.ln, R.rm, R.ow, R.dl, R.st, (fun a ha => by
    cases e : H0 a with
    | none => rfl
    | some o => exact absurd ((R.new a ha).symm.trans (s _ _ e)) (by simp)), R.nd⟩
abbrev RmAt (H : Hp) (t : Addr) (q : Str × List Str) : Prop := ∃ u, H t = some (.tup [.str q.1, .ref u]) ∧ H u = some (.tup (q.2.map V.str))
/-- a court, whole -/
structure CourtX (H : Hp) (CC c : Addr) (z : Str) (dd : DraftD) : Prop where
  ex : ∃ (dx : Addr) (A : DA) (tp tw ty te tb tx : Addr) (sv : V) (ws ys es bs : List Addr), H c = some (.ins CC dx [("text", .str z), ("stretch", sv), ("places", .ref tp), ("ways", .ref tw), ("players", .ref ty), ("delays", .ref te), ("balls", .ref tb), ("rooms", .ref A.rm), ("owners", .ref A.ow), ("starts", .ref A.st), ("told_delays", .ref A.dl), ("lengths", .ref A.ln), ("distances", .ref tx)]) ∧ StrR H sv dd.stretch ∧ H tp = some (.tup (dd.places.map V.str)) ∧ (H tw = some (.tup (ws.map V.ref)) ∧ Paired (WayAt H) ws dd.ways) ∧
    (H ty = some (.tup (ys.map V.ref)) ∧ Paired (RmAt H) ys dd.rooms) ∧ (H te = some (.tup (es.map V.ref)) ∧ Paired (WayAt H) es (delaysOf (dd.rooms.map (·.1)) dd.delays)) ∧ (H tb = some (.tup (bs.map V.ref)) ∧ Paired (PrAt H) bs dd.starts) ∧
    (∃ kvs, H A.rm = some (.dK kvs) ∧ KR (RoomR H) kvs dd.rooms) ∧ H A.ow = some (.dK (strT dd.owners)) ∧ H A.st = some (.dK (strT dd.starts)) ∧ H A.dl = some (.dT (lenT dd.delays)) ∧ H A.ln = some (.dT (lenT dd.lengths)) ∧ H tx = some (.dT (lenT (allDist dd.places dd.lengths)))
theorem CourtX.at {H : Hp} {CC c : Addr} {z : Str} {dd : DraftD} (h : CourtX H CC c z dd) : CourtAt H CC c ⟨dd.lengths, dd.owners, dd.starts⟩ := by
  obtain ⟨dx, A, tp, tw, ty, te, tb, tx, sv, ws, ys, es, bs, h1, h2, h3, h4, h5, h6, h7, h8, h9, h10, h11, h12, h13⟩ := h.ex
  exact ⟨dx, A.ln, A.ow, A.st, _, h1, by kernel_rfl, h12, by kernel_rfl, h9, by kernel_rfl, h10⟩
theorem CourtX.stay {H H' : Hp} {CC c : Addr} {z : Str} {dd : DraftD} (h : CourtX H CC c z dd) (s : Same H H') : CourtX H' CC c z dd := by
  obtain ⟨dx, A, tp, tw, ty, te, tb, tx, sv, ws, ys, es, bs, h1, h2, h3, ⟨h4, h4b⟩, ⟨h5, h5b⟩, ⟨h6, h6b⟩, ⟨h7, h7b⟩, ⟨kvs, h8, h8b⟩, h9, h10, h11, h12, h13⟩ := h.ex
  have t := Same.tups s
  exact ⟨dx, A, tp, tw, ty, te, tb, tx, sv, ws, ys, es, bs, s _ _ h1, h2.stay t, s _ _ h3, ⟨s _ _ h4, Paired.mapP h4b fun _ _ z => s _ _ z⟩, ⟨s _ _ h5, Paired.mapP h5b fun _ _ ⟨u, z1, z2⟩ => ⟨u, s _ _ z1, s _ _ z2⟩⟩, ⟨s _ _ h6, Paired.mapP h6b fun _ _ z => s _ _ z⟩, ⟨s _ _ h7, Paired.mapP h7b fun _ _ z => s _ _ z⟩,
    ⟨kvs, s _ _ h8, h8b.imp fun _ _ ⟨x, e, w⟩ => ⟨x, e, s _ _ w⟩⟩, s _ _ h9, s _ _ h10, s _ _ h11, s _ _ h12, s _ _ h13⟩
def readsTo (steps : Nat → Option Step) (z : Str) (dd : DraftD) : Prop := z.length ≤ 100000 ∧ (Txt.split z "\n").length ≤ 1000 ∧ LinesTo steps draft0 (Txt.split z "\n") dd ∧ dd.starts ≠ [] ∧ dd.lengths.length < 1000 ∧ hangs dd = true
def sizesOk (dd : DraftD) : Prop := 1 ≤ dd.places.length ∧ dd.places.length ≤ 12 ∧ dd.rooms.length ≤ 100
section
variable {P : Program} {w : World} {K : PySem.W.Frag} {mg : Str → Option Value} {base : Heap}
def sp_court_init (CC : Addr) (steps : Nat → Option Step) : Sp := fun vs H Q _ => ∃ H0 x dx z dd, vs = [.ref x, .str z] ∧ Same H0 H ∧ H0 x = none ∧ H x = some (.ins CC dx []) ∧ readsTo steps z dd ∧ sizesOk dd ∧ ∀ H', Same H0 H' → CourtX H' CC x z dd → Q .non H'
theorem k_court {CC CD : Addr} {steps : Nat → Option Step} (B : Blt mg) (F : ClsF K CC courtFs) (FD : ClsF K CD draftFN) (D : MakB K mg CC "Court" "Court.__init__" s_Court_init ["self", "text"]) (C1 : C8.Cal P w K mg base 6 "read_court" (sp_read_court CD steps) [])
    (C2 : C8.Cal P w K mg base 1 "all_delays" sp_all_delays []) (C3 : C8.Cal P w K mg base 1 "all_distances" sp_all_dist []) : C8.Mak P w K mg base 7 "Court" CC (sp_court_init CC steps) [] := by
  have S : C8.scC ["self", "text", "draft"] ["self", "text"] (C8.fnScope s_Court_init) = true := by decide +kernel
  have nd := (C8.fnScope_by S).nd
  refine makB D S (fun vs H Q E h => ?_) (fun f cdv Ar outer s H vs Q E hr h => ?_)
  · obtain ⟨_, _, _, _, _, rfl, _⟩ := h
    rfl
  obtain ⟨H0, x, dx, z, dd, rfl, s0, x0, hx, ⟨r1, r2, r3, r4, r5, r6⟩, ⟨z1, z2, z3⟩, q⟩ := h
  refine ⟨_, pss_cons (ps_set (i := 2) nd rfl (.inl rfl) (C8.pe_c C1 hr (by decide) (by rfl) (pa_cons (pv 1) pa_nil)))
    (pss_cons (ps_fld (pv 0) (pv 1) rfl)
    (pss_cons (ps_fld (pv 0) (t_f K (pv 2)) rfl)
    (pss_cons (ps_fld (pv 0) (pe_tupleOf (by rfl) B.tup (t_f K (pv 2))) rfl)
    (pss_cons (ps_fld (pv 0) (pe_tupleOf (by rfl) B.tup (t_f K (pv 2))) rfl)
    (pss_cons (ps_fld (pv 0) (pe_tupItems rfl (t_f K (pv 2)) (by rfl) B.tup) rfl)
    (pss_cons (ps_fld (pv 0) (C8.pe_c C2 hr (by decide) (by rfl) (pa_cons (t_f K (pv 0)) (pa_cons (t_f K (pv 2)) pa_nil))) rfl)
    (pss_cons (ps_fld (pv 0) (pe_tupItems rfl (t_f K (pv 2)) (by rfl) B.tup) rfl)
    (pss_cons (ps_fld (pv 0) (t_f K (pv 2)) rfl)
    (pss_cons (ps_fld (pv 0) (t_f K (pv 2)) rfl)
    (pss_cons (ps_fld (pv 0) (t_f K (pv 2)) rfl)
    (pss_cons (ps_fld (pv 0) (t_f K (pv 2)) rfl)
    (pss_cons (ps_fld (pv 0) (t_f K (pv 2)) rfl)
    (pss_one (ps_fld (pv 0) (C8.pe_c C3 hr (by decide) (by rfl) (pa_cons (t_f K (pv 0)) (pa_cons (t_f K (pv 0)) pa_nil))) rfl)))))))))))))), ?_⟩
  refine ⟨_, rfl, z, dd, rfl, r1, r2, r3, r4, r5, r6, fun Hs0 d A R0' => ?_⟩
  have xown : x ∉ ownD d A := fun h => by rw [R0'.new x h] at hx; cases hx
  have x_0 := R0'.s0 _ _ hx
  have R_0 := R0'.low s0
  obtain ⟨ddx, sv, hd_0, hsv_0⟩ := R_0.ob
  have ndx : d ≠ x := fun e => xown (by rw [← e]; simp [ownD])
  have Rv_0 := R_0
  have xv_0 := x_0
  have hdv_0 := hd_0
  refine ⟨_, rfl, ?_⟩
  refine ⟨_, rfl, x, CC, dx, _, rfl, xv_0, F.cl, F.no "text" (by decide +kernel), by show 0 < 1000; decide, ?_⟩
  have R_1 := Rv_0.other (x := x) (o := .ins CC dx (putF ("text" : Str) (.str z) [])) xown x0 xv_0 (fun _ z => by cases z)
  have x_1 : (upd Hs0 x (.ins CC dx (putF ("text" : Str) (.str z) []))) x = some (.ins CC dx [("text", .str z)]) := by rw [upd_same]; congr 1
  have ts_0 : TupStay Hs0 (upd Hs0 x (.ins CC dx (putF ("text" : Str) (.str z) []))) := tups_upd xv_0 (fun _ z => by cases z)
  have hd_1 : (upd Hs0 x (.ins CC dx (putF ("text" : Str) (.str z) []))) d = some (.ins CD ddx (draftFs dd.kind A sv)) := by rw [upd_ne ndx]; exact hdv_0
  generalize upd Hs0 x (.ins CC dx (putF ("text" : Str) (.str z) [])) = Hs1 at R_1 x_1 ts_0 hd_1
  have Rv_1 := R_1
  have xv_1 := x_1
  have hdv_1 := hd_1
  refine ⟨_, rfl, d, CD, ddx, _, _, rfl, hd_1, FD.cl, FD.no "stretch" (by decide +kernel), df_stretch, ?_⟩
  refine ⟨_, rfl, x, CC, dx, _, rfl, xv_1, F.cl, F.no "stretch" (by decide +kernel), by show 1 < 1000; decide, ?_⟩
  have R_2 := Rv_1.other (x := x) (o := .ins CC dx (putF ("stretch" : Str) (sv) [("text", .str z)])) xown x0 xv_1 (fun _ z => by cases z)
  have x_2 : (upd Hs1 x (.ins CC dx (putF ("stretch" : Str) (sv) [("text", .str z)]))) x = some (.ins CC dx [("text", .str z), ("stretch", sv)]) := by rw [upd_same]; congr 1
  have ts_1 : TupStay Hs1 (upd Hs1 x (.ins CC dx (putF ("stretch" : Str) (sv) [("text", .str z)]))) := tups_upd xv_1 (fun _ z => by cases z)
  have hd_2 : (upd Hs1 x (.ins CC dx (putF ("stretch" : Str) (sv) [("text", .str z)]))) d = some (.ins CD ddx (draftFs dd.kind A sv)) := by rw [upd_ne ndx]; exact hdv_1
  generalize upd Hs1 x (.ins CC dx (putF ("stretch" : Str) (sv) [("text", .str z)])) = Hs2 at R_2 x_2 ts_1 hd_2
  refine ⟨_, rfl, d, CD, ddx, _, _, rfl, hd_2, FD.cl, FD.no "places" (by decide +kernel), df_places, .inl ⟨A.pl, _, rfl, SqL.of R_2.pl, fun tp htp => ?_⟩⟩
  have sv_2 := same_new (o := .tup (dd.places.map V.str)) htp
  have f_tp : (upd Hs2 tp (.tup (dd.places.map V.str))) tp = some (.tup (dd.places.map V.str)) := upd_same
  generalize upd Hs2 tp (.tup (dd.places.map V.str)) = Hv2 at sv_2 f_tp
  have Rv_2 := R_2.grow sv_2
  have xv_2 := sv_2 _ _ x_2
  have hdv_2 := sv_2 _ _ hd_2
  refine ⟨_, rfl, x, CC, dx, _, rfl, xv_2, F.cl, F.no "places" (by decide +kernel), by show 2 < 1000; decide, ?_⟩
  have R_3 := Rv_2.other (x := x) (o := .ins CC dx (putF ("places" : Str) (.ref tp) [("text", .str z), ("stretch", sv)])) xown x0 xv_2 (fun _ z => by cases z)
  have x_3 : (upd Hv2 x (.ins CC dx (putF ("places" : Str) (.ref tp) [("text", .str z), ("stretch", sv)]))) x = some (.ins CC dx [("text", .str z), ("stretch", sv), ("places", .ref tp)]) := by rw [upd_same]; congr 1
  have ts_2 : TupStay Hv2 (upd Hv2 x (.ins CC dx (putF ("places" : Str) (.ref tp) [("text", .str z), ("stretch", sv)]))) := tups_upd xv_2 (fun _ z => by cases z)
  have hd_3 : (upd Hv2 x (.ins CC dx (putF ("places" : Str) (.ref tp) [("text", .str z), ("stretch", sv)]))) d = some (.ins CD ddx (draftFs dd.kind A sv)) := by rw [upd_ne ndx]; exact hdv_2
  generalize upd Hv2 x (.ins CC dx (putF ("places" : Str) (.ref tp) [("text", .str z), ("stretch", sv)])) = Hs3 at R_3 x_3 ts_2 hd_3
  obtain ⟨ws, hw3, pw3⟩ := R_3.wy
  refine ⟨_, rfl, d, CD, ddx, _, _, rfl, hd_3, FD.cl, FD.no "ways" (by decide +kernel), df_ways, .inl ⟨A.wy, _, rfl, SqL.of hw3, fun tw htw => ?_⟩⟩
  have sv_3 := same_new (o := .tup (ws.map V.ref)) htw
  have f_tw : (upd Hs3 tw (.tup (ws.map V.ref))) tw = some (.tup (ws.map V.ref)) := upd_same
  generalize upd Hs3 tw (.tup (ws.map V.ref)) = Hv3 at sv_3 f_tw
  have pw3v := Paired.mapP pw3 fun _ _ z => sv_3 _ _ z
  have Rv_3 := R_3.grow sv_3
  have xv_3 := sv_3 _ _ x_3
  have hdv_3 := sv_3 _ _ hd_3
  refine ⟨_, rfl, x, CC, dx, _, rfl, xv_3, F.cl, F.no "ways" (by decide +kernel), by show 3 < 1000; decide, ?_⟩
  have R_4 := Rv_3.other (x := x) (o := .ins CC dx (putF ("ways" : Str) (.ref tw) [("text", .str z), ("stretch", sv), ("places", .ref tp)])) xown x0 xv_3 (fun _ z => by cases z)
  have x_4 : (upd Hv3 x (.ins CC dx (putF ("ways" : Str) (.ref tw) [("text", .str z), ("stretch", sv), ("places", .ref tp)]))) x = some (.ins CC dx [("text", .str z), ("stretch", sv), ("places", .ref tp), ("ways", .ref tw)]) := by rw [upd_same]; congr 1
  have ts_3 : TupStay Hv3 (upd Hv3 x (.ins CC dx (putF ("ways" : Str) (.ref tw) [("text", .str z), ("stretch", sv), ("places", .ref tp)]))) := tups_upd xv_3 (fun _ z => by cases z)
  have hd_4 : (upd Hv3 x (.ins CC dx (putF ("ways" : Str) (.ref tw) [("text", .str z), ("stretch", sv), ("places", .ref tp)]))) d = some (.ins CD ddx (draftFs dd.kind A sv)) := by rw [upd_ne ndx]; exact hdv_3
  generalize upd Hv3 x (.ins CC dx (putF ("ways" : Str) (.ref tw) [("text", .str z), ("stretch", sv), ("places", .ref tp)])) = Hs4 at R_4 x_4 ts_3 hd_4
  obtain ⟨kr, hr4, pr4⟩ := R_4.rm
  refine ⟨_, rfl, d, CD, ddx, _, _, rfl, hd_4, FD.cl, FD.no "rooms" (by decide +kernel), df_rooms, A.rm, _, rfl, hr4, fun Hv4 ty ys sv_4 hq41 hq42 hq43 f_ty p_ty => ?_⟩
  have sv_4 : Same Hs4 Hv4 := sv_4
  have Rv_4 := R_4.grow sv_4
  have xv_4 := sv_4 _ _ x_4
  have hdv_4 := sv_4 _ _ hd_4
  have gy : Paired (RmAt Hv4) ys dd.rooms := by
    have aux : ∀ {ys : List Addr} {kr : List (L2.Key × V)} {qs : List (Str × List Str)}, Paired (fun (t : Addr) (q : L2.Key × V) => Hv4 t = some (.tup [kV q.1, q.2])) ys kr → KR (RoomR Hs4) kr qs → Paired (RmAt Hv4) ys qs := fun {ys kr qs} h1 => by
      induction h1 generalizing qs with
      | nil => intro h2; cases h2; exact .nil
      | @cons a b as bs h t ih =>
        intro h2
        cases h2 with
        | @cons _ q2 _ qs2 g u =>
        obtain ⟨g1, v, g2, g3⟩ := g
        refine .cons ⟨v, ?_, sv_4 _ _ g3⟩ (ih u)
        rw [h, g1, g2]
        rfl
    exact aux p_ty pr4
  refine ⟨_, rfl, x, CC, dx, _, rfl, xv_4, F.cl, F.no "players" (by decide +kernel), by show 4 < 1000; decide, ?_⟩
  have R_5 := Rv_4.other (x := x) (o := .ins CC dx (putF ("players" : Str) (.ref ty) [("text", .str z), ("stretch", sv), ("places", .ref tp), ("ways", .ref tw)])) xown x0 xv_4 (fun _ z => by cases z)
  have x_5 : (upd Hv4 x (.ins CC dx (putF ("players" : Str) (.ref ty) [("text", .str z), ("stretch", sv), ("places", .ref tp), ("ways", .ref tw)]))) x = some (.ins CC dx [("text", .str z), ("stretch", sv), ("places", .ref tp), ("ways", .ref tw), ("players", .ref ty)]) := by rw [upd_same]; congr 1
  have ts_4 : TupStay Hv4 (upd Hv4 x (.ins CC dx (putF ("players" : Str) (.ref ty) [("text", .str z), ("stretch", sv), ("places", .ref tp), ("ways", .ref tw)]))) := tups_upd xv_4 (fun _ z => by cases z)
  have hd_5 : (upd Hv4 x (.ins CC dx (putF ("players" : Str) (.ref ty) [("text", .str z), ("stretch", sv), ("places", .ref tp), ("ways", .ref tw)]))) d = some (.ins CD ddx (draftFs dd.kind A sv)) := by rw [upd_ne ndx]; exact hdv_4
  generalize upd Hv4 x (.ins CC dx (putF ("players" : Str) (.ref ty) [("text", .str z), ("stretch", sv), ("places", .ref tp), ("ways", .ref tw)])) = Hs5 at R_5 x_5 ts_4 hd_5
  have gn : Paired (fun (t : Addr) (n : Str) => ∃ v : V, Hs5 t = some (.tup [.str n, v])) ys (dd.rooms.map (·.1)) := by
    have aux : ∀ {ys : List Addr} {qs : List (Str × List Str)}, Paired (RmAt Hv4) ys qs → Paired (fun (t : Addr) (n : Str) => ∃ v : V, Hs5 t = some (.tup [.str n, v])) ys (qs.map (·.1)) := fun {ys qs} h => by
      induction h with
      | nil => exact .nil
      | cons h t ih => obtain ⟨u, h1, h2⟩ := h; exact .cons ⟨_, ts_4 _ _ h1⟩ ih
    exact aux gy
  refine ⟨_, rfl, x, CC, dx, _, _, rfl, x_5, F.cl, F.no "players" (by decide +kernel), by kernel_rfl, _, rfl, d, CD, ddx, _, _, rfl, hd_5, FD.cl, FD.no "delays" (by decide +kernel), df_delays, ty, ys, dd.rooms.map (·.1), A.dl, dd.delays, rfl, ts_4 _ _ f_ty, gn, by rw [List.length_map]; exact z3, R_5.dl, fun Hv5 te es sv_5 f_te g_te => ?_⟩
  have Rv_5 := R_5.grow sv_5
  have xv_5 := sv_5 _ _ x_5
  have hdv_5 := sv_5 _ _ hd_5
  refine ⟨_, rfl, x, CC, dx, _, rfl, xv_5, F.cl, F.no "delays" (by decide +kernel), by show 5 < 1000; decide, ?_⟩
  have R_6 := Rv_5.other (x := x) (o := .ins CC dx (putF ("delays" : Str) (.ref te) [("text", .str z), ("stretch", sv), ("places", .ref tp), ("ways", .ref tw), ("players", .ref ty)])) xown x0 xv_5 (fun _ z => by cases z)
  have x_6 : (upd Hv5 x (.ins CC dx (putF ("delays" : Str) (.ref te) [("text", .str z), ("stretch", sv), ("places", .ref tp), ("ways", .ref tw), ("players", .ref ty)]))) x = some (.ins CC dx [("text", .str z), ("stretch", sv), ("places", .ref tp), ("ways", .ref tw), ("players", .ref ty), ("delays", .ref te)]) := by rw [upd_same]; congr 1
  have ts_5 : TupStay Hv5 (upd Hv5 x (.ins CC dx (putF ("delays" : Str) (.ref te) [("text", .str z), ("stretch", sv), ("places", .ref tp), ("ways", .ref tw), ("players", .ref ty)]))) := tups_upd xv_5 (fun _ z => by cases z)
  have hd_6 : (upd Hv5 x (.ins CC dx (putF ("delays" : Str) (.ref te) [("text", .str z), ("stretch", sv), ("places", .ref tp), ("ways", .ref tw), ("players", .ref ty)]))) d = some (.ins CD ddx (draftFs dd.kind A sv)) := by rw [upd_ne ndx]; exact hdv_5
  generalize upd Hv5 x (.ins CC dx (putF ("delays" : Str) (.ref te) [("text", .str z), ("stretch", sv), ("places", .ref tp), ("ways", .ref tw), ("players", .ref ty)])) = Hs6 at R_6 x_6 ts_5 hd_6
  refine ⟨_, rfl, d, CD, ddx, _, _, rfl, hd_6, FD.cl, FD.no "starts" (by decide +kernel), df_starts, A.st, _, rfl, R_6.st, fun Hv6 tb bs sv_6 hq61 hq62 hq63 f_tb p_tb => ?_⟩
  have sv_6 : Same Hs6 Hv6 := sv_6
  have Rv_6 := R_6.grow sv_6
  have xv_6 := sv_6 _ _ x_6
  have hdv_6 := sv_6 _ _ hd_6
  have gb : Paired (PrAt Hv6) bs dd.starts := by
    have aux : ∀ {ys : List Addr} {qs : List (Str × Str)}, Paired (fun (t : Addr) (q : L2.Key × V) => Hv6 t = some (.tup [kV q.1, q.2])) ys (strT qs) → Paired (PrAt Hv6) ys qs := fun {ys qs} => by
      induction qs generalizing ys with
      | nil => intro h1; cases h1; exact .nil
      | cons q qs ih =>
        intro h1
        cases h1 with
        | cons h t => exact .cons h (ih t)
    exact aux p_tb
  refine ⟨_, rfl, x, CC, dx, _, rfl, xv_6, F.cl, F.no "balls" (by decide +kernel), by show 6 < 1000; decide, ?_⟩
  have R_7 := Rv_6.other (x := x) (o := .ins CC dx (putF ("balls" : Str) (.ref tb) [("text", .str z), ("stretch", sv), ("places", .ref tp), ("ways", .ref tw), ("players", .ref ty), ("delays", .ref te)])) xown x0 xv_6 (fun _ z => by cases z)
  have x_7 : (upd Hv6 x (.ins CC dx (putF ("balls" : Str) (.ref tb) [("text", .str z), ("stretch", sv), ("places", .ref tp), ("ways", .ref tw), ("players", .ref ty), ("delays", .ref te)]))) x = some (.ins CC dx [("text", .str z), ("stretch", sv), ("places", .ref tp), ("ways", .ref tw), ("players", .ref ty), ("delays", .ref te), ("balls", .ref tb)]) := by rw [upd_same]; congr 1
  have ts_6 : TupStay Hv6 (upd Hv6 x (.ins CC dx (putF ("balls" : Str) (.ref tb) [("text", .str z), ("stretch", sv), ("places", .ref tp), ("ways", .ref tw), ("players", .ref ty), ("delays", .ref te)]))) := tups_upd xv_6 (fun _ z => by cases z)
  have hd_7 : (upd Hv6 x (.ins CC dx (putF ("balls" : Str) (.ref tb) [("text", .str z), ("stretch", sv), ("places", .ref tp), ("ways", .ref tw), ("players", .ref ty), ("delays", .ref te)]))) d = some (.ins CD ddx (draftFs dd.kind A sv)) := by rw [upd_ne ndx]; exact hdv_6
  generalize upd Hv6 x (.ins CC dx (putF ("balls" : Str) (.ref tb) [("text", .str z), ("stretch", sv), ("places", .ref tp), ("ways", .ref tw), ("players", .ref ty), ("delays", .ref te)])) = Hs7 at R_7 x_7 ts_6 hd_7
  have Rv_7 := R_7
  have xv_7 := x_7
  have hdv_7 := hd_7
  refine ⟨_, rfl, d, CD, ddx, _, _, rfl, hd_7, FD.cl, FD.no "rooms" (by decide +kernel), df_rooms, ?_⟩
  refine ⟨_, rfl, x, CC, dx, _, rfl, xv_7, F.cl, F.no "rooms" (by decide +kernel), by show 7 < 1000; decide, ?_⟩
  have R_8 := Rv_7.other (x := x) (o := .ins CC dx (putF ("rooms" : Str) (.ref A.rm) [("text", .str z), ("stretch", sv), ("places", .ref tp), ("ways", .ref tw), ("players", .ref ty), ("delays", .ref te), ("balls", .ref tb)])) xown x0 xv_7 (fun _ z => by cases z)
  have x_8 : (upd Hs7 x (.ins CC dx (putF ("rooms" : Str) (.ref A.rm) [("text", .str z), ("stretch", sv), ("places", .ref tp), ("ways", .ref tw), ("players", .ref ty), ("delays", .ref te), ("balls", .ref tb)]))) x = some (.ins CC dx [("text", .str z), ("stretch", sv), ("places", .ref tp), ("ways", .ref tw), ("players", .ref ty), ("delays", .ref te), ("balls", .ref tb), ("rooms", .ref A.rm)]) := by rw [upd_same]; congr 1
  have ts_7 : TupStay Hs7 (upd Hs7 x (.ins CC dx (putF ("rooms" : Str) (.ref A.rm) [("text", .str z), ("stretch", sv), ("places", .ref tp), ("ways", .ref tw), ("players", .ref ty), ("delays", .ref te), ("balls", .ref tb)]))) := tups_upd xv_7 (fun _ z => by cases z)
  have hd_8 : (upd Hs7 x (.ins CC dx (putF ("rooms" : Str) (.ref A.rm) [("text", .str z), ("stretch", sv), ("places", .ref tp), ("ways", .ref tw), ("players", .ref ty), ("delays", .ref te), ("balls", .ref tb)]))) d = some (.ins CD ddx (draftFs dd.kind A sv)) := by rw [upd_ne ndx]; exact hdv_7
  generalize upd Hs7 x (.ins CC dx (putF ("rooms" : Str) (.ref A.rm) [("text", .str z), ("stretch", sv), ("places", .ref tp), ("ways", .ref tw), ("players", .ref ty), ("delays", .ref te), ("balls", .ref tb)])) = Hs8 at R_8 x_8 ts_7 hd_8
  have Rv_8 := R_8
  have xv_8 := x_8
  have hdv_8 := hd_8
  refine ⟨_, rfl, d, CD, ddx, _, _, rfl, hd_8, FD.cl, FD.no "owners" (by decide +kernel), df_owners, ?_⟩
  refine ⟨_, rfl, x, CC, dx, _, rfl, xv_8, F.cl, F.no "owners" (by decide +kernel), by show 8 < 1000; decide, ?_⟩
  have R_9 := Rv_8.other (x := x) (o := .ins CC dx (putF ("owners" : Str) (.ref A.ow) [("text", .str z), ("stretch", sv), ("places", .ref tp), ("ways", .ref tw), ("players", .ref ty), ("delays", .ref te), ("balls", .ref tb), ("rooms", .ref A.rm)])) xown x0 xv_8 (fun _ z => by cases z)
  have x_9 : (upd Hs8 x (.ins CC dx (putF ("owners" : Str) (.ref A.ow) [("text", .str z), ("stretch", sv), ("places", .ref tp), ("ways", .ref tw), ("players", .ref ty), ("delays", .ref te), ("balls", .ref tb), ("rooms", .ref A.rm)]))) x = some (.ins CC dx [("text", .str z), ("stretch", sv), ("places", .ref tp), ("ways", .ref tw), ("players", .ref ty), ("delays", .ref te), ("balls", .ref tb), ("rooms", .ref A.rm), ("owners", .ref A.ow)]) := by rw [upd_same]; congr 1
  have ts_8 : TupStay Hs8 (upd Hs8 x (.ins CC dx (putF ("owners" : Str) (.ref A.ow) [("text", .str z), ("stretch", sv), ("places", .ref tp), ("ways", .ref tw), ("players", .ref ty), ("delays", .ref te), ("balls", .ref tb), ("rooms", .ref A.rm)]))) := tups_upd xv_8 (fun _ z => by cases z)
  have hd_9 : (upd Hs8 x (.ins CC dx (putF ("owners" : Str) (.ref A.ow) [("text", .str z), ("stretch", sv), ("places", .ref tp), ("ways", .ref tw), ("players", .ref ty), ("delays", .ref te), ("balls", .ref tb), ("rooms", .ref A.rm)]))) d = some (.ins CD ddx (draftFs dd.kind A sv)) := by rw [upd_ne ndx]; exact hdv_8
  generalize upd Hs8 x (.ins CC dx (putF ("owners" : Str) (.ref A.ow) [("text", .str z), ("stretch", sv), ("places", .ref tp), ("ways", .ref tw), ("players", .ref ty), ("delays", .ref te), ("balls", .ref tb), ("rooms", .ref A.rm)])) = Hs9 at R_9 x_9 ts_8 hd_9
  have Rv_9 := R_9
  have xv_9 := x_9
  have hdv_9 := hd_9
  refine ⟨_, rfl, d, CD, ddx, _, _, rfl, hd_9, FD.cl, FD.no "starts" (by decide +kernel), df_starts, ?_⟩
  refine ⟨_, rfl, x, CC, dx, _, rfl, xv_9, F.cl, F.no "starts" (by decide +kernel), by show 9 < 1000; decide, ?_⟩
  have R_10 := Rv_9.other (x := x) (o := .ins CC dx (putF ("starts" : Str) (.ref A.st) [("text", .str z), ("stretch", sv), ("places", .ref tp), ("ways", .ref tw), ("players", .ref ty), ("delays", .ref te), ("balls", .ref tb), ("rooms", .ref A.rm), ("owners", .ref A.ow)])) xown x0 xv_9 (fun _ z => by cases z)
  have x_10 : (upd Hs9 x (.ins CC dx (putF ("starts" : Str) (.ref A.st) [("text", .str z), ("stretch", sv), ("places", .ref tp), ("ways", .ref tw), ("players", .ref ty), ("delays", .ref te), ("balls", .ref tb), ("rooms", .ref A.rm), ("owners", .ref A.ow)]))) x = some (.ins CC dx [("text", .str z), ("stretch", sv), ("places", .ref tp), ("ways", .ref tw), ("players", .ref ty), ("delays", .ref te), ("balls", .ref tb), ("rooms", .ref A.rm), ("owners", .ref A.ow), ("starts", .ref A.st)]) := by rw [upd_same]; congr 1
  have ts_9 : TupStay Hs9 (upd Hs9 x (.ins CC dx (putF ("starts" : Str) (.ref A.st) [("text", .str z), ("stretch", sv), ("places", .ref tp), ("ways", .ref tw), ("players", .ref ty), ("delays", .ref te), ("balls", .ref tb), ("rooms", .ref A.rm), ("owners", .ref A.ow)]))) := tups_upd xv_9 (fun _ z => by cases z)
  have hd_10 : (upd Hs9 x (.ins CC dx (putF ("starts" : Str) (.ref A.st) [("text", .str z), ("stretch", sv), ("places", .ref tp), ("ways", .ref tw), ("players", .ref ty), ("delays", .ref te), ("balls", .ref tb), ("rooms", .ref A.rm), ("owners", .ref A.ow)]))) d = some (.ins CD ddx (draftFs dd.kind A sv)) := by rw [upd_ne ndx]; exact hdv_9
  generalize upd Hs9 x (.ins CC dx (putF ("starts" : Str) (.ref A.st) [("text", .str z), ("stretch", sv), ("places", .ref tp), ("ways", .ref tw), ("players", .ref ty), ("delays", .ref te), ("balls", .ref tb), ("rooms", .ref A.rm), ("owners", .ref A.ow)])) = Hs10 at R_10 x_10 ts_9 hd_10
  have Rv_10 := R_10
  have xv_10 := x_10
  have hdv_10 := hd_10
  refine ⟨_, rfl, d, CD, ddx, _, _, rfl, hd_10, FD.cl, FD.no "delays" (by decide +kernel), df_delays, ?_⟩
  refine ⟨_, rfl, x, CC, dx, _, rfl, xv_10, F.cl, F.no "told_delays" (by decide +kernel), by show 10 < 1000; decide, ?_⟩
  have R_11 := Rv_10.other (x := x) (o := .ins CC dx (putF ("told_delays" : Str) (.ref A.dl) [("text", .str z), ("stretch", sv), ("places", .ref tp), ("ways", .ref tw), ("players", .ref ty), ("delays", .ref te), ("balls", .ref tb), ("rooms", .ref A.rm), ("owners", .ref A.ow), ("starts", .ref A.st)])) xown x0 xv_10 (fun _ z => by cases z)
  have x_11 : (upd Hs10 x (.ins CC dx (putF ("told_delays" : Str) (.ref A.dl) [("text", .str z), ("stretch", sv), ("places", .ref tp), ("ways", .ref tw), ("players", .ref ty), ("delays", .ref te), ("balls", .ref tb), ("rooms", .ref A.rm), ("owners", .ref A.ow), ("starts", .ref A.st)]))) x = some (.ins CC dx [("text", .str z), ("stretch", sv), ("places", .ref tp), ("ways", .ref tw), ("players", .ref ty), ("delays", .ref te), ("balls", .ref tb), ("rooms", .ref A.rm), ("owners", .ref A.ow), ("starts", .ref A.st), ("told_delays", .ref A.dl)]) := by rw [upd_same]; congr 1
  have ts_10 : TupStay Hs10 (upd Hs10 x (.ins CC dx (putF ("told_delays" : Str) (.ref A.dl) [("text", .str z), ("stretch", sv), ("places", .ref tp), ("ways", .ref tw), ("players", .ref ty), ("delays", .ref te), ("balls", .ref tb), ("rooms", .ref A.rm), ("owners", .ref A.ow), ("starts", .ref A.st)]))) := tups_upd xv_10 (fun _ z => by cases z)
  have hd_11 : (upd Hs10 x (.ins CC dx (putF ("told_delays" : Str) (.ref A.dl) [("text", .str z), ("stretch", sv), ("places", .ref tp), ("ways", .ref tw), ("players", .ref ty), ("delays", .ref te), ("balls", .ref tb), ("rooms", .ref A.rm), ("owners", .ref A.ow), ("starts", .ref A.st)]))) d = some (.ins CD ddx (draftFs dd.kind A sv)) := by rw [upd_ne ndx]; exact hdv_10
  generalize upd Hs10 x (.ins CC dx (putF ("told_delays" : Str) (.ref A.dl) [("text", .str z), ("stretch", sv), ("places", .ref tp), ("ways", .ref tw), ("players", .ref ty), ("delays", .ref te), ("balls", .ref tb), ("rooms", .ref A.rm), ("owners", .ref A.ow), ("starts", .ref A.st)])) = Hs11 at R_11 x_11 ts_10 hd_11
  have Rv_11 := R_11
  have xv_11 := x_11
  have hdv_11 := hd_11
  refine ⟨_, rfl, d, CD, ddx, _, _, rfl, hd_11, FD.cl, FD.no "lengths" (by decide +kernel), df_lengths, ?_⟩
  refine ⟨_, rfl, x, CC, dx, _, rfl, xv_11, F.cl, F.no "lengths" (by decide +kernel), by show 11 < 1000; decide, ?_⟩
  have R_12 := Rv_11.other (x := x) (o := .ins CC dx (putF ("lengths" : Str) (.ref A.ln) [("text", .str z), ("stretch", sv), ("places", .ref tp), ("ways", .ref tw), ("players", .ref ty), ("delays", .ref te), ("balls", .ref tb), ("rooms", .ref A.rm), ("owners", .ref A.ow), ("starts", .ref A.st), ("told_delays", .ref A.dl)])) xown x0 xv_11 (fun _ z => by cases z)
  have x_12 : (upd Hs11 x (.ins CC dx (putF ("lengths" : Str) (.ref A.ln) [("text", .str z), ("stretch", sv), ("places", .ref tp), ("ways", .ref tw), ("players", .ref ty), ("delays", .ref te), ("balls", .ref tb), ("rooms", .ref A.rm), ("owners", .ref A.ow), ("starts", .ref A.st), ("told_delays", .ref A.dl)]))) x = some (.ins CC dx [("text", .str z), ("stretch", sv), ("places", .ref tp), ("ways", .ref tw), ("players", .ref ty), ("delays", .ref te), ("balls", .ref tb), ("rooms", .ref A.rm), ("owners", .ref A.ow), ("starts", .ref A.st), ("told_delays", .ref A.dl), ("lengths", .ref A.ln)]) := by rw [upd_same]; congr 1
  have ts_11 : TupStay Hs11 (upd Hs11 x (.ins CC dx (putF ("lengths" : Str) (.ref A.ln) [("text", .str z), ("stretch", sv), ("places", .ref tp), ("ways", .ref tw), ("players", .ref ty), ("delays", .ref te), ("balls", .ref tb), ("rooms", .ref A.rm), ("owners", .ref A.ow), ("starts", .ref A.st), ("told_delays", .ref A.dl)]))) := tups_upd xv_11 (fun _ z => by cases z)
  have hd_12 : (upd Hs11 x (.ins CC dx (putF ("lengths" : Str) (.ref A.ln) [("text", .str z), ("stretch", sv), ("places", .ref tp), ("ways", .ref tw), ("players", .ref ty), ("delays", .ref te), ("balls", .ref tb), ("rooms", .ref A.rm), ("owners", .ref A.ow), ("starts", .ref A.st), ("told_delays", .ref A.dl)]))) d = some (.ins CD ddx (draftFs dd.kind A sv)) := by rw [upd_ne ndx]; exact hdv_11
  generalize upd Hs11 x (.ins CC dx (putF ("lengths" : Str) (.ref A.ln) [("text", .str z), ("stretch", sv), ("places", .ref tp), ("ways", .ref tw), ("players", .ref ty), ("delays", .ref te), ("balls", .ref tb), ("rooms", .ref A.rm), ("owners", .ref A.ow), ("starts", .ref A.st), ("told_delays", .ref A.dl)])) = Hs12 at R_12 x_12 ts_11 hd_12
  have e_tp := ts_11 _ _ (ts_10 _ _ (ts_9 _ _ (ts_8 _ _ (ts_7 _ _ (ts_6 _ _ (Same.tups sv_6 _ _ (ts_5 _ _ (Same.tups sv_5 _ _ (ts_4 _ _ (Same.tups sv_4 _ _ (ts_3 _ _ (Same.tups sv_3 _ _ (ts_2 _ _ f_tp)))))))))))))
  refine ⟨_, rfl, x, CC, dx, _, _, rfl, x_12, F.cl, F.no "places" (by decide +kernel), by kernel_rfl, _, rfl, x, CC, dx, _, _, rfl, x_12, F.cl, F.no "lengths" (by decide +kernel), by kernel_rfl, tp, A.ln, dd.places, dd.lengths, rfl, e_tp, R_12.ln, z1, z2, by omega, fun Hv12 tx sv_12 f_tx => ?_⟩
  have Rv_12 := R_12.grow sv_12
  have xv_12 := sv_12 _ _ x_12
  have hdv_12 := sv_12 _ _ hd_12
  have ntx : tx ≠ x := fun e => by rw [e, xv_12] at f_tx; cases f_tx
  refine ⟨_, rfl, x, CC, dx, _, rfl, xv_12, F.cl, F.no "distances" (by decide +kernel), by show 12 < 1000; decide, ?_⟩
  have R_13 := Rv_12.other (x := x) (o := .ins CC dx (putF ("distances" : Str) (.ref tx) [("text", .str z), ("stretch", sv), ("places", .ref tp), ("ways", .ref tw), ("players", .ref ty), ("delays", .ref te), ("balls", .ref tb), ("rooms", .ref A.rm), ("owners", .ref A.ow), ("starts", .ref A.st), ("told_delays", .ref A.dl), ("lengths", .ref A.ln)])) xown x0 xv_12 (fun _ z => by cases z)
  have x_13 : (upd Hv12 x (.ins CC dx (putF ("distances" : Str) (.ref tx) [("text", .str z), ("stretch", sv), ("places", .ref tp), ("ways", .ref tw), ("players", .ref ty), ("delays", .ref te), ("balls", .ref tb), ("rooms", .ref A.rm), ("owners", .ref A.ow), ("starts", .ref A.st), ("told_delays", .ref A.dl), ("lengths", .ref A.ln)]))) x = some (.ins CC dx [("text", .str z), ("stretch", sv), ("places", .ref tp), ("ways", .ref tw), ("players", .ref ty), ("delays", .ref te), ("balls", .ref tb), ("rooms", .ref A.rm), ("owners", .ref A.ow), ("starts", .ref A.st), ("told_delays", .ref A.dl), ("lengths", .ref A.ln), ("distances", .ref tx)]) := by rw [upd_same]; congr 1
  have ts_12 : TupStay Hv12 (upd Hv12 x (.ins CC dx (putF ("distances" : Str) (.ref tx) [("text", .str z), ("stretch", sv), ("places", .ref tp), ("ways", .ref tw), ("players", .ref ty), ("delays", .ref te), ("balls", .ref tb), ("rooms", .ref A.rm), ("owners", .ref A.ow), ("starts", .ref A.st), ("told_delays", .ref A.dl), ("lengths", .ref A.ln)]))) := tups_upd xv_12 (fun _ z => by cases z)
  have f_tx13 : (upd Hv12 x (.ins CC dx (putF ("distances" : Str) (.ref tx) [("text", .str z), ("stretch", sv), ("places", .ref tp), ("ways", .ref tw), ("players", .ref ty), ("delays", .ref te), ("balls", .ref tb), ("rooms", .ref A.rm), ("owners", .ref A.ow), ("starts", .ref A.st), ("told_delays", .ref A.dl), ("lengths", .ref A.ln)]))) tx = some (.dT (lenT (allDist dd.places dd.lengths))) := by rw [upd_ne ntx]; exact f_tx
  generalize upd Hv12 x (.ins CC dx (putF ("distances" : Str) (.ref tx) [("text", .str z), ("stretch", sv), ("places", .ref tp), ("ways", .ref tw), ("players", .ref ty), ("delays", .ref te), ("balls", .ref tb), ("rooms", .ref A.rm), ("owners", .ref A.ow), ("starts", .ref A.st), ("told_delays", .ref A.dl), ("lengths", .ref A.ln)])) = Hs13 at R_13 x_13 ts_12 f_tx13
  have T12 : TupStay Hs12 Hs13 := fun b xs e => ts_12 _ _ (Same.tups sv_12 _ _ e)
  have T7 : TupStay Hv6 Hs13 := fun b xs e => T12 _ _ (ts_11 _ _ (ts_10 _ _ (ts_9 _ _ (ts_8 _ _ (ts_7 _ _ (ts_6 _ _ e))))))
  have T5 : TupStay Hv5 Hs13 := fun b xs e => T7 _ _ (Same.tups sv_6 _ _ (ts_5 _ _ e))
  have T4 : TupStay Hv4 Hs13 := fun b xs e => T5 _ _ (Same.tups sv_5 _ _ (ts_4 _ _ e))
  have T3 : TupStay Hv3 Hs13 := fun b xs e => T4 _ _ (Same.tups sv_4 _ _ (ts_3 _ _ e))
  have T1 : TupStay Hs0 Hs13 := fun b xs e => T3 _ _ (Same.tups sv_3 _ _ (ts_2 _ _ (Same.tups sv_2 _ _ (ts_1 _ _ (ts_0 _ _ e)))))
  exact q _ R_13.s0 ⟨dx, A, tp, tw, ty, te, tb, tx, sv, ws, ys, es, bs, x_13, hsv_0.stay T1, T12 _ _ e_tp, ⟨T3 _ _ f_tw, Paired.mapP pw3v fun _ _ z => T3 _ _ z⟩, ⟨T4 _ _ f_ty, Paired.mapP gy fun _ _ ⟨u, a, b⟩ => ⟨u, T4 _ _ a, T4 _ _ b⟩⟩,
    ⟨T5 _ _ f_te, Paired.mapP g_te fun _ _ z => T5 _ _ z⟩, ⟨T7 _ _ f_tb, Paired.mapP gb fun _ _ z => T7 _ _ z⟩, R_13.rm, R_13.ow, R_13.st, R_13.dl, R_13.ln, f_tx13⟩
end
end G

/-! E0 -/

namespace G
open PySem PySem.Spec PyProof.Rows L2
/-! what the head tells, by names: facts, defs, tables, and one test of one's own -/
abbrev AlX : Type := He.AlT × Bool
def obsX (fa : List He.Fa) (fn : List He.DefD) (ts : List He.Tab) (xt : PySem.W.Frag → Bool) (K : PySem.W.Frag) : AlX := (He.obsT fa fn ts K, xt K)
def valX (fn : List He.DefD) (ts : List He.Tab) (w : World) : AlX := (He.valT fn ts w, true)
def obsXG (n : Nat) (fa : List He.Fa) (fn : List He.DefD) (ts : List He.Tab) (xt : PySem.W.Frag → Bool) (g : Addr → Option Obj) : AlX := obsX fa fn ts xt (He.frG g (He.asD g n))
def SaysX (fa : List He.Fa) (fn : List He.DefD) (ts : List He.Tab) (xt : PySem.W.Frag → Bool) (w : World) (K : PySem.W.Frag) : Prop := obsX fa fn ts xt K = valX fn ts w
def hookX (n : Nat) (fa : List He.Fa) (fn : List He.DefD) (ts : List He.Tab) (xt : PySem.W.Frag → Bool) : PySem.W.Hook where
  α := AlX
  obs := fun s => obsXG n fa fn ts xt s.heap.get?
  val := fun w => valX fn ts w
  says := fun w h => ∃ K : PySem.W.Frag, K.In h ∧ SaysX fa fn ts xt w K
  of := fun _ _ e => ⟨_, He.frG_in, e⟩
  keeps := fun _ _ _ ⟨K, hK, c⟩ k => ⟨K, PySem.W.Frag.In.keeps hK k, c⟩
theorem obsXG_eq {n : Nat} {fa : List He.Fa} {fn : List He.DefD} {ts : List He.Tab} {xt : PySem.W.Frag → Bool} {g : Addr → Option Obj} {s : Shared} (h : ∀ a, g a = s.heap.get? a) : obsXG n fa fn ts xt g = (hookX n fa fn ts xt).obs s := by
  have e : g = s.heap.get? := funext h
  rw [e] <;> rfl
/-- a tuple of the top, of numbers and texts -/
def gtB (K : PySem.W.Frag) (x : Str) (vs : List V) : Bool := match K.lookup (He.ga K x) with
  | some ⟨.type c, none, .seq its _, _⟩ => decide (c = "tuple") && (decide (its.size ≤ sizeLine) && He.relAll vs its.toList)
  | _ => false
def bltB (K : PySem.W.Frag) (x : Str) (b : String) : Bool := match PySem.W.nsIn K mainGlobals x with
  | some (some (.builtin c)) => decide (c = b)
  | _ => false
theorem gtB_ok {K : PySem.W.Frag} {mg : Str → Option Value} {x : Str} {vs : List V} (h : gtB K x vs = true) (hm : mg x = some (.ref (He.ga K x))) : GT K mg x vs := by
  unfold gtB at h
  cases q : K.lookup (He.ga K x) with
  | none => rw [q] at h; cases h
  | some o =>
    obtain ⟨oc, od, dt, osl⟩ := o
    rw [q] at h
    cases oc with
    | type c =>
      cases od with
      | none =>
        cases dt with
        | seq its n =>
          obtain ⟨h1, h2⟩ := He.ba (show (decide (c = "tuple") && (decide (its.size ≤ sizeLine) && He.relAll vs its.toList)) = true from h)
          obtain ⟨h3, h4⟩ := He.ba h2
          have ec : c = "tuple" := of_decide_eq_true h1
          refine ⟨_, hm, fun H => .inr ⟨_, its, n, q, congrArg Value.type ec, rfl, of_decide_eq_true h3, He.relAll_ok h4⟩, _, q, congrArg Value.type ec, rfl⟩
        | _ => cases h
      | some a => cases dt <;> cases h
    | _ => cases od <;> cases dt <;> cases h
theorem bltB_ok {K : PySem.W.Frag} {h : Heap} {mg : Str → Option Value} {x : Str} {b : String} (X : K.In h) (G : h.Ns mainGlobals mg) (c : bltB K x b = true) : mg x = some (.builtin b) := by
  unfold bltB at c
  cases e : PySem.W.nsIn K mainGlobals x with
  | none => rw [e] at c; cases c
  | some r =>
    rw [e] at c
    cases r with
    | none => cases c
    | some v =>
      cases v with
      | builtin n =>
        have en : n = b := of_decide_eq_true c
        rw [en] at e
        exact PySem.W.mg_of X G e
      | _ => cases c
section
variable {fa : List He.Fa} {fn : List He.DefD} {ts : List He.Tab} {xt : PySem.W.Frag → Bool} {w : World} {K : PySem.W.Frag} {h : Heap} {mg : Str → Option Value}
theorem SaysX.t (c : SaysX fa fn ts xt w K) : He.SaysT fa fn ts w K := congrArg (fun z : AlX => z.1) c
theorem SaysX.ex (c : SaysX fa fn ts xt w K) : xt K = true := congrArg (fun z : AlX => z.2) c
theorem SaysX.fact (c : SaysX fa fn ts xt w K) (i : Nat) {f : He.Fa} (h : fa[i]? = some f := by rfl) : f.ok K = true := c.t.d.fact i h
theorem SaysX.def_ (c : SaysX fa fn ts xt w K) (i : Nat) {d : He.DefD} (h : fn[i]? = some d := by rfl) : ∃ fd, FunD K d.name d.qual d.params d.body d.scope (d.dvs K) (d.kws K) (He.fAd K d.at_) fd := c.t.d.def_ i h
/-- a def of the top, a method, as data -/
abbrev dDef (x : Str) (st : Stmt) : He.DefD := ⟨(x, none), x, x, C8.fnArgs st, C8.fnBody st, C8.fnScope st, [], []⟩
abbrev dMet (C m qual : Str) (st : Stmt) : He.DefD := ⟨(C, some m), m, qual, C8.fnArgs st, C8.fnBody st, C8.fnScope st, [], []⟩
theorem defB_of (X : K.In h) (G : h.Ns mainGlobals mg) (c : SaysX fa fn ts xt w K) {x : Str} {st : Stmt} {ps : List Str} (i j : Nat) (hb : ∀ (kV doc pm : Value) (an : Option Addr) (cdv ct : Value) (us : List Value), us.length = ps.length → bindArgs (PySem.W.fnOf x x (C8.fnArgs st) (C8.fnBody st) (C8.fnScope st) .none kV doc pm an cdv ct) ⟨us, []⟩ = pure (ps.zip us))
    (hi : fn[i]? = some (dDef x st)) (hj : fa[j]? = some (.glo x)) : DefB K mg x st ps := by
  obtain ⟨fd, F⟩ := c.def_ i hi
  have b : Binds K fd ps [] := F.bindsN hb
  obtain ⟨oc, od, dV, kV, doc, pm, an, cdv, ct, osl, e, lk, hcd, _, _⟩ := F.ex
  exact ⟨_, fd, ⟨⟨oc, od, dV, kV, doc, pm, an, cdv, ct, osl, e, lk, hcd⟩, He.glo_ok X G (c.fact j hj), F.kp⟩, b⟩
theorem metB_of (c : SaysX fa fn ts xt w K) {C m qual : Str} {st : Stmt} {ps : List Str} (i j : Nat) (hb : ∀ (kV doc pm : Value) (an : Option Addr) (cdv ct : Value) (us : List Value), us.length = ps.length → bindArgs (PySem.W.fnOf m qual (C8.fnArgs st) (C8.fnBody st) (C8.fnScope st) .none kV doc pm an cdv ct) ⟨us, []⟩ = pure (ps.zip us))
    (hi : fn[i]? = some (dMet C m qual st)) (hj : fa[j]? = some (.meth C m)) : MetB K (He.ga K C) m qual st ps := by
  obtain ⟨fd, F⟩ := c.def_ i hi
  have b : Binds K fd ps [] := F.bindsN hb
  obtain ⟨oc, od, dV, kV, doc, pm, an, cdv, ct, osl, e, lk, hcd, _, _⟩ := F.ex
  exact ⟨_, fd, He.meth_ok (c.fact j hj), ⟨oc, od, dV, kV, doc, pm, an, cdv, ct, osl, e, lk, hcd⟩, b⟩
theorem makB_of (X : K.In h) (G : h.Ns mainGlobals mg) (c : SaysX fa fn ts xt w K) {C qual : Str} {st : Stmt} {ps : List Str} (i j k : Nat) (hb : ∀ (kV doc pm : Value) (an : Option Addr) (cdv ct : Value) (us : List Value), us.length = ps.length → bindArgs (PySem.W.fnOf "__init__" qual (C8.fnArgs st) (C8.fnBody st) (C8.fnScope st) .none kV doc pm an cdv ct) ⟨us, []⟩ = pure (ps.zip us))
    (hi : fn[i]? = some (dMet C "__init__" qual st)) (hj : fa[j]? = some (.mkr C)) (hk : fa[k]? = some (.glo C)) : MakB K mg (He.ga K C) C qual st ps := by
  obtain ⟨fd, F⟩ := c.def_ i hi
  have b : Binds K fd ps [] := F.bindsN hb
  obtain ⟨oc, od, dV, kV, doc, pm, an, cdv, ct, osl, e, lk, hcd, _, _⟩ := F.ex
  exact ⟨_, fd, He.mkr_ok (c.fact j hj), He.glo_ok X G (c.fact k hk), ⟨oc, od, dV, kV, doc, pm, an, cdv, ct, osl, e, lk, hcd⟩, b⟩
/-- the fields are no attributes of the class: the facts stand one behind another from j on -/
theorem clsF_of (c : SaysX fa fn ts xt w K) {C : Str} {fs : List Str} (i j : Nat) (hi : fa[i]? = some (.cls C)) (hj : ∀ k, k < fs.length → fa[j + k]? = (fs[k]?).map fun f => He.Fa.noat C f) : ClsF K (He.ga K C) fs := by
  refine ⟨He.cls_ok (c.fact i hi), fun f hf => ?_⟩
  obtain ⟨k, hk, e⟩ := List.getElem_of_mem hf
  refine He.noat_ok (c.fact (j + k) ?_)
  rw [hj k hk, List.getElem?_eq_getElem hk, e]
  rfl
end
/-- a call's promise, at a higher level, by the address -/
theorem held_of {P : Program} {w : World} {K : PySem.W.Frag} {mg : Str → Option Value} {base : Heap} {k j : Nat} {x : Str} {f : Addr} {sp : Sp} (c : C8.Cal P w K mg base k x sp []) (hk : k ≤ j) (hm : mg x = some (.ref f)) : Held P w K mg base j f sp := by
  obtain ⟨f', fd, ps, ds, F, m, kp, b, d⟩ := c.ex
  cases d
  rw [hm] at m
  cases m
  exact ⟨fd, ps, F.mono hk, kp, b⟩
end G

/-! Z5 -/
namespace G
open PySem PySem.Spec PyProof.Rows L2
/-! a def that is called by the names of its parameters alone, too -/
structure DefBK (K : PySem.W.Frag) (mg : Str → Option Value) (x : Str) (st : Stmt) (ps : List Str) : Prop where
  ex : ∃ (f : Addr) (fd : FuncData), C8.Def K mg x st f fd ∧ Binds K fd ps [] ∧ KBn K fd ps 0 ps (fun _ ws => ws) (fun _ zs => zs)
structure CalK (P : Program) (w : World) (K : PySem.W.Frag) (mg : Str → Option Value) (base : Heap) (k : Nat) (x : Str) (sp : Sp) (ps : List Str) : Prop where
  ex : ∃ (f : Addr) (fd : FuncData), FnOk P w K mg base C8.CX0 k f fd ps sp ∧ mg x = some (.ref f) ∧ PySem.W.keepIn K (.ref f) = true ∧ KBn K fd ps 0 ps (fun _ ws => ws) (fun _ zs => zs)
section
variable {P : Program} {w : World} {K : PySem.W.Frag} {mg : Str → Option Value} {base : Heap}
theorem calBK {x : Str} {st : Stmt} {N ps : List Str} {k : Nat} {sp : Sp} (D : DefBK K mg x st ps) (S : C8.scC N ps (C8.fnScope st) = true) (len : ∀ vs H Q E, sp vs H Q E → vs.length = ps.length)
    (hbody : ∀ (f : Addr) (cdv : Value) (A : Around) (outer : List Env) (s : Shared) (H : Hp) (vs : List V) (Q : VK) (E : XK), Room k (A.deeper (envOfC x (C8.fnScope st) s.heap.objs.size f cdv)) → sp vs H Q E →
      ∃ t, PSs (cxOf C8.CX0 P w K mg base N x (C8.fnScope st) f cdv A outer s H E).nox (C8.fnBody st) t ∧ t { nx := fun _ H' => Q .non H', rt := Q } (start N vs) H) : C8.Cal P w K mg base (k + 1) x sp [] ∧ CalK P w K mg base (k + 1) x sp ps := by
  obtain ⟨f, fd, F, b, kb⟩ := D.ex
  have ok : FnOk P w K mg base C8.CX0 (k + 1) f fd ps sp := C8.fn0 F.fn (C8.fnScope_by S) len (hbody f)
  exact ⟨⟨f, fd, ps, [], ok, F.mgf, F.kp, b, .nil⟩, ⟨f, fd, ok, F.mgf, F.kp, kb⟩⟩
end
section
variable {X : Cx} {k j : Nat} {x : Str} {sp : Sp} {ps : List Str} {p pos : Pos} {kws : List Keyword} {tk : TA}
def tCallN (sp : Sp) (n : Nat) (tk : TA) : TE := fun σ H Q => tk σ H fun zs H1 => zs.length = n ∧ sp zs H1 Q C8.E0
/-- f(k = v, ..): all parameters by name, in their sequence -/
theorem pe_cK (c : CalK X.prog X.w X.K X.mg X.base k x sp ps) (hr : Room j X.A) (hk : k ≤ j) (hg : Gl X x) (hkw : PK X kws tk)
    (hall : (backToKw pos (keywordEach kws X.env)).all (·.1.isSome) = true := by rfl) (hks : (backToKw pos (keywordEach kws X.env)).filterMap (·.1) = ps := by rfl) (hdb : (x == ("__debug__" : Str)) = false := by decide)
    (hpl : ((backTo pos (starEach [] X.env)).any (·.1) || (backToKw pos (keywordEach kws X.env)).any (·.1.isNone)) = false := by rfl) :
    PE X (.Call (.Name x p) [] kws pos) (tCallN sp ps.length tk) := by
  obtain ⟨f, fd, F, hm, kp, hb⟩ := c.ex
  refine ⟨fun pins s σ H Q I h => ?_⟩
  refine wpAny_Call_Name_kw (ld_glob I hg hm ?_ hdb)
  refine PySem.W.callWith_KW0 (h₀ := X.base) I.ok.mod.kin kp hall ?_ hpl
  refine thn (hkw.run pos pins s σ H _ I h) fun ws s2 ⟨zs, H2, I2, rz, l2, q2⟩ => ⟨I2.kIn, ?_⟩
  rw [hks]
  refine wpAny_call (codeAny_mono (F.run X.A X.stack s2 H2 ⟨[], ps.zip ws⟩ ws zs Q C8.E0 (hr.mono hk) I2.env0 (hb.to s2 [] ws I2.kIn rfl (rz.length.symm.trans l2)) rz q2) fun r s' hq => ?_)
  cases r with
  | error e => exact C8.pass0 (E := C8.E0) pins σ H2 s2 e s' I2 hq
  | ok fl =>
    cases fl with
    | ret u => exact I2.after hq
    | next => exact False.elim hq
    | brk => exact False.elim hq
    | cont => exact False.elim hq
end
end G

/-! E0b -/
namespace G
open PySem PySem.Spec PyProof.Rows L2
section
variable {fa : List He.Fa} {fn : List He.DefD} {ts : List He.Tab} {xt : PySem.W.Frag → Bool} {w : World} {K : PySem.W.Frag} {h : Heap} {mg : Str → Option Value}
theorem kwB_of (X : K.In h) (G : h.Ns mainGlobals mg) (c : SaysX fa fn ts xt w K) {x : Str} {st : Stmt} {ps : List Str} (i j : Nat) (hb : ∀ (kV doc pm : Value) (an : Option Addr) (cdv ct : Value) (us : List Value), us.length = ps.length → bindArgs (PySem.W.fnOf x x (C8.fnArgs st) (C8.fnBody st) (C8.fnScope st) .none kV doc pm an cdv ct) ⟨us, []⟩ = pure (ps.zip us))
    (hk : ∀ (kV doc pm : Value) (an : Option Addr) (cdv ct : Value) (ws : List Value), ws.length = ps.length → bindArgs (PySem.W.fnOf x x (C8.fnArgs st) (C8.fnBody st) (C8.fnScope st) .none kV doc pm an cdv ct) ⟨[], ps.zip ws⟩ = pure (ps.zip ws))
    (hi : fn[i]? = some (dDef x st)) (hj : fa[j]? = some (.glo x)) : DefBK K mg x st ps := by
  obtain ⟨fd, F⟩ := c.def_ i hi
  have b : Binds K fd ps [] := F.bindsN hb
  obtain ⟨oc, od, dV, kV, doc, pm, an, cdv, ct, osl, e, lk, hcd, hD, _⟩ := F.ex
  refine ⟨_, fd, ⟨⟨oc, od, dV, kV, doc, pm, an, cdv, ct, osl, e, lk, hcd⟩, He.glo_ok X G (c.fact j hj), F.kp⟩, b, fun s us ws _ l1 l2 => ?_, fun r1 r2 => r2⟩
  obtain rfl := List.length_eq_zero_iff.mp l1
  rcases hD with ⟨_, rfl⟩ | ⟨e', _⟩
  · subst e
    exact .of_eq (hk kV doc pm an cdv ct ws l2)
  · exact absurd rfl e'
end
end G

/-! E1f -/
namespace G
open PySem PySem.Spec PyProof.Rows L2
def fa0 : List He.Fa := [.glo "fraction", .glo "is_at_most", .glo "plus", .glo "minus", .glo "times", .glo "is_integer", .glo "is_integer_from", .glo "is_pair", .glo "is_fraction", .glo "is_time", .glo "is_row", .glo "is_stretch", .glo "is_name", .glo "read_integer", .glo "read_fraction", .glo "is_known", .glo "check_field", .glo "field_on", .glo "is_spot", .glo "read_court", .glo "take_line", .glo "is_turn", .glo "hangs_together", .glo "take_court", .glo "take_stretch"]
def fa1 : List He.Fa := [.glo "take_place", .glo "take_way", .glo "take_player", .glo "take_delay", .glo "take_ball", .glo "all_delays", .glo "all_distances", .glo "_law_pot", .glo "_law_take", .glo "_law_of", .glo "_law_some", .glo "_law_frac_common", .glo "_law_frac", .glo "_law_frac_plus", .glo "_law_frac_less", .glo "_law_frac_times", .glo "_law_frac_is", .glo "_law_frac_same", .glo "_law_frac_text", .glo "_law_court_text", .glo "_law_court_drawn", .glo "_law_court_stretch_drawn", .glo "_law_mine_spot", .glo "_law_due", .glo "_law_right"]
def fa2 : List He.Fa := [.glo "law", .glo "Draft", .glo "Court", .glo "KINDS", .glo "LEAST", .glo "MOST", .glo "TAKERS", .free "len", .free "isinstance", .free "tuple", .free "int", .free "bool", .free "str", .free "all", .free "any", .free "zip", .free "enumerate", .free "range", .free "min", .free "max", .free "sorted", .free "set", .free "dict", .free "sum", .free "abs"]
def fa3 : List He.Fa := [.free "list", .str "LETTERS" abc, .cls "Draft", .noat "Draft" "kind", .noat "Draft" "counts", .noat "Draft" "stretch", .noat "Draft" "places", .noat "Draft" "ways", .noat "Draft" "lengths", .noat "Draft" "rooms", .noat "Draft" "owners", .noat "Draft" "delays", .noat "Draft" "starts", .cls "Court", .noat "Court" "text", .noat "Court" "stretch", .noat "Court" "places", .noat "Court" "ways", .noat "Court" "players", .noat "Court" "delays", .noat "Court" "balls", .noat "Court" "rooms", .noat "Court" "owners", .noat "Court" "starts", .noat "Court" "told_delays"]
def fa4 : List He.Fa := [.noat "Court" "lengths", .noat "Court" "distances", .mkr "Draft", .mkr "Court"]
def fa : List He.Fa := fa0 ++ (fa1 ++ (fa2 ++ (fa3 ++ (fa4))))
def fn0 : List He.DefD := [dDef "fraction" s_fraction, dDef "is_at_most" s_is_at_most, dDef "plus" s_plus, dDef "minus" s_minus, dDef "times" s_times, dDef "is_integer" s_is_integer, dDef "is_integer_from" s_is_integer_from, dDef "is_pair" s_is_pair, dDef "is_fraction" s_is_fraction, dDef "is_time" s_is_time, dDef "is_row" s_is_row, dDef "is_stretch" s_is_stretch, dDef "is_name" s_is_name, dDef "read_integer" s_read_integer, dDef "read_fraction" s_read_fraction, dDef "is_known" s_is_known, dDef "check_field" s_check_field, dDef "field_on" s_field_on, dDef "is_spot" s_is_spot, dDef "read_court" s_read_court, dDef "take_line" s_take_line, dDef "is_turn" s_is_turn, dDef "hangs_together" s_hangs_together, dDef "take_court" s_take_court, dDef "take_stretch" s_take_stretch]
def fn1 : List He.DefD := [dDef "take_place" s_take_place, dDef "take_way" s_take_way, dDef "take_player" s_take_player, dDef "take_delay" s_take_delay, dDef "take_ball" s_take_ball, dDef "all_delays" s_all_delays, dDef "all_distances" s_all_distances, dDef "_law_pot" s_law_pot, dDef "_law_take" s_law_take, dDef "_law_of" s_law_of, dDef "_law_some" s_law_some, dDef "_law_frac_common" s_law_frac_common, dDef "_law_frac" s_law_frac, dDef "_law_frac_plus" s_law_frac_plus, dDef "_law_frac_less" s_law_frac_less, dDef "_law_frac_times" s_law_frac_times, dDef "_law_frac_is" s_law_frac_is, dDef "_law_frac_same" s_law_frac_same, dDef "_law_frac_text" s_law_frac_text, dDef "_law_court_text" s_law_court_text, dDef "_law_court_drawn" s_law_court_drawn, dDef "_law_court_stretch_drawn" s_law_court_stretch_drawn, dDef "_law_mine_spot" s_law_mine_spot, dDef "_law_due" s_law_due, dDef "_law_right" s_law_right]
def fn2 : List He.DefD := [dDef "law" s_law, dMet "Draft" "__init__" "Draft.__init__" s_Draft_init, dMet "Court" "__init__" "Court.__init__" s_Court_init]
def fn : List He.DefD := fn0 ++ (fn1 ++ (fn2))
def ts : List He.Tab := [(fun K => He.ga K "TAKERS", kindsL)]
def tkV : List (Str × He.Dv) := [("court", .glo "take_court"), ("stretch", .glo "take_stretch"), ("place", .glo "take_place"), ("way", .glo "take_way"), ("player", .glo "take_player"), ("delay", .glo "take_delay"), ("ball", .glo "take_ball")]
def ex (K : PySem.W.Frag) : Bool := bltB K "gcd" "math.gcd" && (gtB K "KINDS" (kindsL.map V.str) && (gtB K "LEAST" (leastL.map V.int) && (gtB K "MOST" (mostL.map V.int) && He.valsB K (He.ga K "TAKERS") tkV)))
def loose0 : List Str := ["__name__", "TakenError", "BadCourt", "BadField", "BadSpot", "__name__", "fraction", "is_at_most", "plus", "minus", "times", "__name__", "LETTERS", "is_integer", "is_integer_from", "is_pair", "is_fraction", "is_time", "is_row", "is_stretch", "is_name", "read_integer", "read_fraction", "__name__", "is_known"]
def loose1 : List Str := ["check_field", "__name__", "KINDS", "LEAST", "MOST", "Draft", "read_court", "take_line", "is_turn", "hangs_together", "take_court", "take_stretch", "take_place", "take_way", "take_player", "take_delay", "take_ball", "TAKERS", "__name__", "Court", "all_delays", "all_distances", "__name__", "field_on", "is_spot"]
def loose2 : List Str := ["__name__", "_law_pot", "_law_take", "_law_of", "_law_some", "_law_frac_common", "_law_frac", "_law_frac_plus", "_law_frac_less", "_law_frac_times", "_law_frac_is", "_law_frac_same", "_law_frac_text", "_law_court_text", "_law_court_drawn", "_law_court_stretch_drawn", "_law_mine_spot", "_law_due", "_law_right"]
def loose : List Str := loose0 ++ (loose1 ++ (loose2))
abbrev R : PySem.W.OpenRow := PySem.W.OpenLaw.row PySem.Challenge.rw_nevertakenback_k28_whole_fields_on_ways
abbrev hk : PySem.W.Hook := hookX 5 fa fn ts ex
def ob (s : PySem.W.SharedT) : AlX := obsXG 5 fa fn ts ex (HandSHeadRun.getT s)
theorem ob_eq (s : PySem.W.SharedT) : ob s = hk.obs s.abs := obsXG_eq (HandSHeadRun.getT_eq s)
theorem run_false (w : World) : HandSHeadRun.RunEqI R (PySem.W.view R.prog [0, 70]) hk ob 6000 loose (w.withFollow "special-get-raises" false) := by
  unfold HandSHeadRun.RunEqI
  kernel_rfl
theorem run_true (w : World) : HandSHeadRun.RunEqI R (PySem.W.view R.prog [0, 70]) hk ob 6000 loose (w.withFollow "special-get-raises" true) := by
  unfold HandSHeadRun.RunEqI
  kernel_rfl
theorem run (w : World) : HandSHeadRun.RunEqI R (PySem.W.view R.prog [0, 70]) hk ob 6000 loose w := PySem.W.byRow2 "special-get-raises" (P := fun w => HandSHeadRun.RunEqI R (PySem.W.view R.prog [0, 70]) hk ob 6000 loose w) run_false run_true w
end G

/-! E2f -/
namespace G
open PySem PySem.Spec PyProof.Rows L2
section
variable {w : World} {K : PySem.W.Frag} {h : Heap} {mg : Str → Option Value}
theorem d_fraction (X : K.In h) (G : h.Ns mainGlobals mg) (c : SaysX fa fn ts ex w K) : DefB K mg "fraction" s_fraction ["top", "bottom"] := defB_of X G c 0 0 (fun _ _ _ _ _ _ us hl => match us, hl with | [_, _], _ => rfl) rfl rfl
theorem d_is_at_most (X : K.In h) (G : h.Ns mainGlobals mg) (c : SaysX fa fn ts ex w K) : DefB K mg "is_at_most" s_is_at_most ["one", "other"] := defB_of X G c 1 1 (fun _ _ _ _ _ _ us hl => match us, hl with | [_, _], _ => rfl) rfl rfl
theorem d_plus (X : K.In h) (G : h.Ns mainGlobals mg) (c : SaysX fa fn ts ex w K) : DefB K mg "plus" s_plus ["one", "other"] := defB_of X G c 2 2 (fun _ _ _ _ _ _ us hl => match us, hl with | [_, _], _ => rfl) rfl rfl
theorem d_minus (X : K.In h) (G : h.Ns mainGlobals mg) (c : SaysX fa fn ts ex w K) : DefB K mg "minus" s_minus ["one", "other"] := defB_of X G c 3 3 (fun _ _ _ _ _ _ us hl => match us, hl with | [_, _], _ => rfl) rfl rfl
theorem d_times (X : K.In h) (G : h.Ns mainGlobals mg) (c : SaysX fa fn ts ex w K) : DefB K mg "times" s_times ["one", "other"] := defB_of X G c 4 4 (fun _ _ _ _ _ _ us hl => match us, hl with | [_, _], _ => rfl) rfl rfl
theorem d_is_integer (X : K.In h) (G : h.Ns mainGlobals mg) (c : SaysX fa fn ts ex w K) : DefB K mg "is_integer" s_is_integer ["value"] := defB_of X G c 5 5 (fun _ _ _ _ _ _ us hl => match us, hl with | [_], _ => rfl) rfl rfl
theorem d_is_integer_from (X : K.In h) (G : h.Ns mainGlobals mg) (c : SaysX fa fn ts ex w K) : DefB K mg "is_integer_from" s_is_integer_from ["value", "least", "most"] := defB_of X G c 6 6 (fun _ _ _ _ _ _ us hl => match us, hl with | [_, _, _], _ => rfl) rfl rfl
theorem d_is_pair (X : K.In h) (G : h.Ns mainGlobals mg) (c : SaysX fa fn ts ex w K) : DefB K mg "is_pair" s_is_pair ["value"] := defB_of X G c 7 7 (fun _ _ _ _ _ _ us hl => match us, hl with | [_], _ => rfl) rfl rfl
theorem d_is_fraction (X : K.In h) (G : h.Ns mainGlobals mg) (c : SaysX fa fn ts ex w K) : DefB K mg "is_fraction" s_is_fraction ["value"] := defB_of X G c 8 8 (fun _ _ _ _ _ _ us hl => match us, hl with | [_], _ => rfl) rfl rfl
theorem d_is_time (X : K.In h) (G : h.Ns mainGlobals mg) (c : SaysX fa fn ts ex w K) : DefB K mg "is_time" s_is_time ["value"] := defB_of X G c 9 9 (fun _ _ _ _ _ _ us hl => match us, hl with | [_], _ => rfl) rfl rfl
theorem d_is_row (X : K.In h) (G : h.Ns mainGlobals mg) (c : SaysX fa fn ts ex w K) : DefB K mg "is_row" s_is_row ["value", "many"] := defB_of X G c 10 10 (fun _ _ _ _ _ _ us hl => match us, hl with | [_, _], _ => rfl) rfl rfl
theorem d_is_stretch (X : K.In h) (G : h.Ns mainGlobals mg) (c : SaysX fa fn ts ex w K) : DefB K mg "is_stretch" s_is_stretch ["p", "q"] := defB_of X G c 11 11 (fun _ _ _ _ _ _ us hl => match us, hl with | [_, _], _ => rfl) rfl rfl
theorem d_is_name (X : K.In h) (G : h.Ns mainGlobals mg) (c : SaysX fa fn ts ex w K) : DefB K mg "is_name" s_is_name ["value"] := defB_of X G c 12 12 (fun _ _ _ _ _ _ us hl => match us, hl with | [_], _ => rfl) rfl rfl
theorem d_read_integer (X : K.In h) (G : h.Ns mainGlobals mg) (c : SaysX fa fn ts ex w K) : DefB K mg "read_integer" s_read_integer ["word"] := defB_of X G c 13 13 (fun _ _ _ _ _ _ us hl => match us, hl with | [_], _ => rfl) rfl rfl
theorem d_read_fraction (X : K.In h) (G : h.Ns mainGlobals mg) (c : SaysX fa fn ts ex w K) : DefB K mg "read_fraction" s_read_fraction ["word"] := defB_of X G c 14 14 (fun _ _ _ _ _ _ us hl => match us, hl with | [_], _ => rfl) rfl rfl
theorem d_is_known (X : K.In h) (G : h.Ns mainGlobals mg) (c : SaysX fa fn ts ex w K) : DefB K mg "is_known" s_is_known ["value", "names"] := defB_of X G c 15 15 (fun _ _ _ _ _ _ us hl => match us, hl with | [_, _], _ => rfl) rfl rfl
theorem d_check_field (X : K.In h) (G : h.Ns mainGlobals mg) (c : SaysX fa fn ts ex w K) : DefB K mg "check_field" s_check_field ["court", "value"] := defB_of X G c 16 16 (fun _ _ _ _ _ _ us hl => match us, hl with | [_, _], _ => rfl) rfl rfl
theorem d_field_on (X : K.In h) (G : h.Ns mainGlobals mg) (c : SaysX fa fn ts ex w K) : DefBK K mg "field_on" s_field_on ["court", "field", "spot"] := kwB_of X G c 17 17 (fun _ _ _ _ _ _ us hl => match us, hl with | [_, _, _], _ => rfl) (fun _ _ _ _ _ _ us hl => match us, hl with | [_, _, _], _ => rfl) rfl rfl
theorem d_is_spot (X : K.In h) (G : h.Ns mainGlobals mg) (c : SaysX fa fn ts ex w K) : DefB K mg "is_spot" s_is_spot ["court", "value"] := defB_of X G c 18 18 (fun _ _ _ _ _ _ us hl => match us, hl with | [_, _], _ => rfl) rfl rfl
theorem d_read_court (X : K.In h) (G : h.Ns mainGlobals mg) (c : SaysX fa fn ts ex w K) : DefB K mg "read_court" s_read_court ["text"] := defB_of X G c 19 19 (fun _ _ _ _ _ _ us hl => match us, hl with | [_], _ => rfl) rfl rfl
theorem d_take_line (X : K.In h) (G : h.Ns mainGlobals mg) (c : SaysX fa fn ts ex w K) : DefB K mg "take_line" s_take_line ["draft", "line"] := defB_of X G c 20 20 (fun _ _ _ _ _ _ us hl => match us, hl with | [_, _], _ => rfl) rfl rfl
theorem d_is_turn (X : K.In h) (G : h.Ns mainGlobals mg) (c : SaysX fa fn ts ex w K) : DefB K mg "is_turn" s_is_turn ["draft", "kind"] := defB_of X G c 21 21 (fun _ _ _ _ _ _ us hl => match us, hl with | [_, _], _ => rfl) rfl rfl
theorem d_hangs_together (X : K.In h) (G : h.Ns mainGlobals mg) (c : SaysX fa fn ts ex w K) : DefB K mg "hangs_together" s_hangs_together ["draft"] := defB_of X G c 22 22 (fun _ _ _ _ _ _ us hl => match us, hl with | [_], _ => rfl) rfl rfl
theorem d_take_court (X : K.In h) (G : h.Ns mainGlobals mg) (c : SaysX fa fn ts ex w K) : DefB K mg "take_court" s_take_court ["draft", "words"] := defB_of X G c 23 23 (fun _ _ _ _ _ _ us hl => match us, hl with | [_, _], _ => rfl) rfl rfl
theorem d_take_stretch (X : K.In h) (G : h.Ns mainGlobals mg) (c : SaysX fa fn ts ex w K) : DefB K mg "take_stretch" s_take_stretch ["draft", "words"] := defB_of X G c 24 24 (fun _ _ _ _ _ _ us hl => match us, hl with | [_, _], _ => rfl) rfl rfl
theorem d_take_place (X : K.In h) (G : h.Ns mainGlobals mg) (c : SaysX fa fn ts ex w K) : DefB K mg "take_place" s_take_place ["draft", "words"] := defB_of X G c 25 25 (fun _ _ _ _ _ _ us hl => match us, hl with | [_, _], _ => rfl) rfl rfl
theorem d_take_way (X : K.In h) (G : h.Ns mainGlobals mg) (c : SaysX fa fn ts ex w K) : DefB K mg "take_way" s_take_way ["draft", "words"] := defB_of X G c 26 26 (fun _ _ _ _ _ _ us hl => match us, hl with | [_, _], _ => rfl) rfl rfl
theorem d_take_player (X : K.In h) (G : h.Ns mainGlobals mg) (c : SaysX fa fn ts ex w K) : DefB K mg "take_player" s_take_player ["draft", "words"] := defB_of X G c 27 27 (fun _ _ _ _ _ _ us hl => match us, hl with | [_, _], _ => rfl) rfl rfl
theorem d_take_delay (X : K.In h) (G : h.Ns mainGlobals mg) (c : SaysX fa fn ts ex w K) : DefB K mg "take_delay" s_take_delay ["draft", "words"] := defB_of X G c 28 28 (fun _ _ _ _ _ _ us hl => match us, hl with | [_, _], _ => rfl) rfl rfl
theorem d_take_ball (X : K.In h) (G : h.Ns mainGlobals mg) (c : SaysX fa fn ts ex w K) : DefB K mg "take_ball" s_take_ball ["draft", "words"] := defB_of X G c 29 29 (fun _ _ _ _ _ _ us hl => match us, hl with | [_, _], _ => rfl) rfl rfl
theorem d_all_delays (X : K.In h) (G : h.Ns mainGlobals mg) (c : SaysX fa fn ts ex w K) : DefB K mg "all_delays" s_all_delays ["players", "told"] := defB_of X G c 30 30 (fun _ _ _ _ _ _ us hl => match us, hl with | [_, _], _ => rfl) rfl rfl
theorem d_all_distances (X : K.In h) (G : h.Ns mainGlobals mg) (c : SaysX fa fn ts ex w K) : DefB K mg "all_distances" s_all_distances ["places", "lengths"] := defB_of X G c 31 31 (fun _ _ _ _ _ _ us hl => match us, hl with | [_, _], _ => rfl) rfl rfl
theorem d_law_pot (X : K.In h) (G : h.Ns mainGlobals mg) (c : SaysX fa fn ts ex w K) : DefB K mg "_law_pot" s_law_pot ["script", "place"] := defB_of X G c 32 32 (fun _ _ _ _ _ _ us hl => match us, hl with | [_, _], _ => rfl) rfl rfl
theorem d_law_take (X : K.In h) (G : h.Ns mainGlobals mg) (c : SaysX fa fn ts ex w K) : DefB K mg "_law_take" s_law_take ["pot", "upto"] := defB_of X G c 33 33 (fun _ _ _ _ _ _ us hl => match us, hl with | [_, _], _ => rfl) rfl rfl
theorem d_law_of (X : K.In h) (G : h.Ns mainGlobals mg) (c : SaysX fa fn ts ex w K) : DefB K mg "_law_of" s_law_of ["pot", "some"] := defB_of X G c 34 34 (fun _ _ _ _ _ _ us hl => match us, hl with | [_, _], _ => rfl) rfl rfl
theorem d_law_some (X : K.In h) (G : h.Ns mainGlobals mg) (c : SaysX fa fn ts ex w K) : DefB K mg "_law_some" s_law_some ["pot", "pool", "many"] := defB_of X G c 35 35 (fun _ _ _ _ _ _ us hl => match us, hl with | [_, _, _], _ => rfl) rfl rfl
theorem d_law_frac_common (X : K.In h) (G : h.Ns mainGlobals mg) (c : SaysX fa fn ts ex w K) : DefB K mg "_law_frac_common" s_law_frac_common ["one", "other"] := defB_of X G c 36 36 (fun _ _ _ _ _ _ us hl => match us, hl with | [_, _], _ => rfl) rfl rfl
theorem d_law_frac (X : K.In h) (G : h.Ns mainGlobals mg) (c : SaysX fa fn ts ex w K) : DefB K mg "_law_frac" s_law_frac ["top", "bottom"] := defB_of X G c 37 37 (fun _ _ _ _ _ _ us hl => match us, hl with | [_, _], _ => rfl) rfl rfl
theorem d_law_frac_plus (X : K.In h) (G : h.Ns mainGlobals mg) (c : SaysX fa fn ts ex w K) : DefB K mg "_law_frac_plus" s_law_frac_plus ["one", "other"] := defB_of X G c 38 38 (fun _ _ _ _ _ _ us hl => match us, hl with | [_, _], _ => rfl) rfl rfl
theorem d_law_frac_less (X : K.In h) (G : h.Ns mainGlobals mg) (c : SaysX fa fn ts ex w K) : DefB K mg "_law_frac_less" s_law_frac_less ["one", "other"] := defB_of X G c 39 39 (fun _ _ _ _ _ _ us hl => match us, hl with | [_, _], _ => rfl) rfl rfl
theorem d_law_frac_times (X : K.In h) (G : h.Ns mainGlobals mg) (c : SaysX fa fn ts ex w K) : DefB K mg "_law_frac_times" s_law_frac_times ["one", "other"] := defB_of X G c 40 40 (fun _ _ _ _ _ _ us hl => match us, hl with | [_, _], _ => rfl) rfl rfl
theorem d_law_frac_is (X : K.In h) (G : h.Ns mainGlobals mg) (c : SaysX fa fn ts ex w K) : DefB K mg "_law_frac_is" s_law_frac_is ["value"] := defB_of X G c 41 41 (fun _ _ _ _ _ _ us hl => match us, hl with | [_], _ => rfl) rfl rfl
theorem d_law_frac_same (X : K.In h) (G : h.Ns mainGlobals mg) (c : SaysX fa fn ts ex w K) : DefB K mg "_law_frac_same" s_law_frac_same ["value", "due"] := defB_of X G c 42 42 (fun _ _ _ _ _ _ us hl => match us, hl with | [_, _], _ => rfl) rfl rfl
theorem d_law_frac_text (X : K.In h) (G : h.Ns mainGlobals mg) (c : SaysX fa fn ts ex w K) : DefB K mg "_law_frac_text" s_law_frac_text ["one"] := defB_of X G c 43 43 (fun _ _ _ _ _ _ us hl => match us, hl with | [_], _ => rfl) rfl rfl
theorem d_law_court_text (X : K.In h) (G : h.Ns mainGlobals mg) (c : SaysX fa fn ts ex w K) : DefB K mg "_law_court_text" s_law_court_text ["own"] := defB_of X G c 44 44 (fun _ _ _ _ _ _ us hl => match us, hl with | [_], _ => rfl) rfl rfl
theorem d_law_court_drawn (X : K.In h) (G : h.Ns mainGlobals mg) (c : SaysX fa fn ts ex w K) : DefB K mg "_law_court_drawn" s_law_court_drawn ["pot", "places", "players", "balls"] := defB_of X G c 45 45 (fun _ _ _ _ _ _ us hl => match us, hl with | [_, _, _, _], _ => rfl) rfl rfl
theorem d_law_court_stretch_drawn (X : K.In h) (G : h.Ns mainGlobals mg) (c : SaysX fa fn ts ex w K) : DefB K mg "_law_court_stretch_drawn" s_law_court_stretch_drawn ["pot"] := defB_of X G c 46 46 (fun _ _ _ _ _ _ us hl => match us, hl with | [_], _ => rfl) rfl rfl
theorem d_law_mine_spot (X : K.In h) (G : h.Ns mainGlobals mg) (c : SaysX fa fn ts ex w K) : DefB K mg "_law_mine_spot" s_law_mine_spot ["pot", "own"] := defB_of X G c 47 47 (fun _ _ _ _ _ _ us hl => match us, hl with | [_, _], _ => rfl) rfl rfl
theorem d_law_due (X : K.In h) (G : h.Ns mainGlobals mg) (c : SaysX fa fn ts ex w K) : DefB K mg "_law_due" s_law_due ["own", "field", "seen"] := defB_of X G c 48 48 (fun _ _ _ _ _ _ us hl => match us, hl with | [_, _, _], _ => rfl) rfl rfl
theorem d_law_right (X : K.In h) (G : h.Ns mainGlobals mg) (c : SaysX fa fn ts ex w K) : DefB K mg "_law_right" s_law_right ["pot"] := defB_of X G c 49 49 (fun _ _ _ _ _ _ us hl => match us, hl with | [_], _ => rfl) rfl rfl
theorem d_law (X : K.In h) (G : h.Ns mainGlobals mg) (c : SaysX fa fn ts ex w K) : DefB K mg "law" s_law ["script"] := defB_of X G c 50 50 (fun _ _ _ _ _ _ us hl => match us, hl with | [_], _ => rfl) rfl rfl
theorem d_Draft (X : K.In h) (G : h.Ns mainGlobals mg) (c : SaysX fa fn ts ex w K) : MakB K mg (He.ga K "Draft") "Draft" "Draft.__init__" s_Draft_init ["self"] := makB_of X G c 51 102 51 (fun _ _ _ _ _ _ us hl => match us, hl with | [_], _ => rfl) rfl rfl rfl
theorem f_Draft (c : SaysX fa fn ts ex w K) : ClsF K (He.ga K "Draft") draftFN := clsF_of c 77 78 rfl (fun k hk => match k, hk with | 0, _ => rfl | 1, _ => rfl | 2, _ => rfl | 3, _ => rfl | 4, _ => rfl | 5, _ => rfl | 6, _ => rfl | 7, _ => rfl | 8, _ => rfl | 9, _ => rfl | k + 10, hk => absurd hk (by show ¬ k + 10 < 10; omega))
theorem d_Court (X : K.In h) (G : h.Ns mainGlobals mg) (c : SaysX fa fn ts ex w K) : MakB K mg (He.ga K "Court") "Court" "Court.__init__" s_Court_init ["self", "text"] := makB_of X G c 52 103 52 (fun _ _ _ _ _ _ us hl => match us, hl with | [_, _], _ => rfl) rfl rfl rfl
theorem f_Court (c : SaysX fa fn ts ex w K) : ClsF K (He.ga K "Court") courtFs := clsF_of c 88 89 rfl (fun k hk => match k, hk with | 0, _ => rfl | 1, _ => rfl | 2, _ => rfl | 3, _ => rfl | 4, _ => rfl | 5, _ => rfl | 6, _ => rfl | 7, _ => rfl | 8, _ => rfl | 9, _ => rfl | 10, _ => rfl | 11, _ => rfl | 12, _ => rfl | k + 13, hk => absurd hk (by show ¬ k + 13 < 13; omega))
theorem blt (X : K.In h) (G : h.Ns mainGlobals mg) (c : SaysX fa fn ts ex w K) : Blt mg := { len := He.free_ok X G (c.fact 57 (f := .free "len") rfl), isi := He.free_ok X G (c.fact 58 (f := .free "isinstance") rfl), tup := He.free_ok X G (c.fact 59 (f := .free "tuple") rfl), int := He.free_ok X G (c.fact 60 (f := .free "int") rfl), bool := He.free_ok X G (c.fact 61 (f := .free "bool") rfl), str := He.free_ok X G (c.fact 62 (f := .free "str") rfl), all := He.free_ok X G (c.fact 63 (f := .free "all") rfl), any := He.free_ok X G (c.fact 64 (f := .free "any") rfl), zip := He.free_ok X G (c.fact 65 (f := .free "zip") rfl), enu := He.free_ok X G (c.fact 66 (f := .free "enumerate") rfl), rng := He.free_ok X G (c.fact 67 (f := .free "range") rfl), min := He.free_ok X G (c.fact 68 (f := .free "min") rfl), max := He.free_ok X G (c.fact 69 (f := .free "max") rfl), sor := He.free_ok X G (c.fact 70 (f := .free "sorted") rfl), set := He.free_ok X G (c.fact 71 (f := .free "set") rfl), dict := He.free_ok X G (c.fact 72 (f := .free "dict") rfl), sum := He.free_ok X G (c.fact 73 (f := .free "sum") rfl), abs := He.free_ok X G (c.fact 74 (f := .free "abs") rfl), lst := He.free_ok X G (c.fact 75 (f := .free "list") rfl), gcd := bltB_ok X G (He.ba c.ex).1 }
theorem letters (X : K.In h) (G : h.Ns mainGlobals mg) (c : SaysX fa fn ts ex w K) : ∃ u, mg "LETTERS" = some u ∧ RelV (.str abc) u := by
  obtain ⟨t, e⟩ := He.str_ok X G (c.fact 76 (f := .str "LETTERS" abc) rfl)
  exact ⟨_, e, t, rfl⟩
theorem g_KINDS (X : K.In h) (G : h.Ns mainGlobals mg) (c : SaysX fa fn ts ex w K) : GT K mg "KINDS" (kindsL.map V.str) := gtB_ok (He.ba (He.ba c.ex).2).1 (He.glo_ok X G (c.fact 53 (f := .glo "KINDS") rfl))
theorem g_LEAST (X : K.In h) (G : h.Ns mainGlobals mg) (c : SaysX fa fn ts ex w K) : GT K mg "LEAST" (leastL.map V.int) := gtB_ok (He.ba (He.ba (He.ba c.ex).2).2).1 (He.glo_ok X G (c.fact 54 (f := .glo "LEAST") rfl))
theorem g_MOST (X : K.In h) (G : h.Ns mainGlobals mg) (c : SaysX fa fn ts ex w K) : GT K mg "MOST" (mostL.map V.int) := gtB_ok (He.ba (He.ba (He.ba (He.ba c.ex).2).2).2).1 (He.glo_ok X G (c.fact 55 (f := .glo "MOST") rfl))
theorem tk_vals (c : SaysX fa fn ts ex w K) : He.valsB K (He.ga K "TAKERS") tkV = true := (He.ba (He.ba (He.ba (He.ba c.ex).2).2).2).2
theorem m_TAKERS (X : K.In h) (G : h.Ns mainGlobals mg) (c : SaysX fa fn ts ex w K) : mg "TAKERS" = some (.ref (He.ga K "TAKERS")) := He.glo_ok X G (c.fact 56 (f := .glo "TAKERS") rfl)
theorem m_take_court (X : K.In h) (G : h.Ns mainGlobals mg) (c : SaysX fa fn ts ex w K) : mg "take_court" = some (.ref (He.ga K "take_court")) := He.glo_ok X G (c.fact 23 (f := .glo "take_court") rfl)
theorem m_take_stretch (X : K.In h) (G : h.Ns mainGlobals mg) (c : SaysX fa fn ts ex w K) : mg "take_stretch" = some (.ref (He.ga K "take_stretch")) := He.glo_ok X G (c.fact 24 (f := .glo "take_stretch") rfl)
theorem m_take_place (X : K.In h) (G : h.Ns mainGlobals mg) (c : SaysX fa fn ts ex w K) : mg "take_place" = some (.ref (He.ga K "take_place")) := He.glo_ok X G (c.fact 25 (f := .glo "take_place") rfl)
theorem m_take_way (X : K.In h) (G : h.Ns mainGlobals mg) (c : SaysX fa fn ts ex w K) : mg "take_way" = some (.ref (He.ga K "take_way")) := He.glo_ok X G (c.fact 26 (f := .glo "take_way") rfl)
theorem m_take_player (X : K.In h) (G : h.Ns mainGlobals mg) (c : SaysX fa fn ts ex w K) : mg "take_player" = some (.ref (He.ga K "take_player")) := He.glo_ok X G (c.fact 27 (f := .glo "take_player") rfl)
theorem m_take_delay (X : K.In h) (G : h.Ns mainGlobals mg) (c : SaysX fa fn ts ex w K) : mg "take_delay" = some (.ref (He.ga K "take_delay")) := He.glo_ok X G (c.fact 28 (f := .glo "take_delay") rfl)
theorem m_take_ball (X : K.In h) (G : h.Ns mainGlobals mg) (c : SaysX fa fn ts ex w K) : mg "take_ball" = some (.ref (He.ga K "take_ball")) := He.glo_ok X G (c.fact 29 (f := .glo "take_ball") rfl)
theorem f_law (c : SaysX fa fn ts ex w K) : ∃ fd, FunD K "law" "law" (C8.fnArgs s_law) (C8.fnBody s_law) (C8.fnScope s_law) [] [] (He.ga K "law") fd := c.def_ 50 (d := dDef "law" s_law) rfl
theorem m_law (X : K.In h) (G : h.Ns mainGlobals mg) (c : SaysX fa fn ts ex w K) : mg "law" = some (.ref (He.ga K "law")) := He.glo_ok X G (c.fact 50 (f := .glo "law") rfl)
end
end G

/-! K1 -/
namespace G
open PySem PySem.Spec PyProof.Rows L2
/-- a pot of draws -/
def PotAt (H : Hp) (p : Addr) : Prop := ∃ a b c : Int, H p = some (.lst [.int a, .int b, .int c]) ∧ 0 ≤ a ∧ a < 10 ^ 300 ∧ 0 ≤ b ∧ b < 2 ^ 61 ∧ 0 ≤ c ∧ c < 10000
theorem pick2 {c : Bool} {TA TB : VK → Prop} {C : VK} (R : Int → Hp → Prop) (h1 : c = true → ∀ C' : VK, (∀ i H, R i H → C' (.int i) H) → TA C') (h2 : c = false → ∀ C' : VK, (∀ i H, R i H → C' (.int i) H) → TB C') (h : ∀ i H, R i H → C (.int i) H) : if c = true then TA C else TB C := by
  cases c with
  | true => rw [if_pos rfl]; exact h1 rfl C h
  | false => rw [if_neg (by decide)]; exact h2 rfl C h
theorem ten60 : CPowW 10 60 := by unfold CPowW; decide +kernel
theorem ten300 : CPowW ((10 : Int) ^ (60 : Int).toNat) 5 := by unfold CPowW; decide +kernel
theorem ten300_eq : ((10 : Int) ^ (60 : Int).toNat) ^ (5 : Int).toNat = 10 ^ 300 := by decide +kernel
theorem ten1 : (0 : Int) < 10 ^ 300 := by decide +kernel
theorem ten0 : (10 : Int) ^ 300 ≠ 0 := by decide +kernel
theorem bool_lt (b : Bool) : (if b = true then (1 : Int) else 0).natAbs < 2 ^ 2 := by cases b <;> decide
theorem pot_own (m : Int) (b : Bool) : 0 ≤ m % 10 ^ 300 * (if b = true then 1 else 0) ∧ m % 10 ^ 300 * (if b = true then 1 else 0) < 10 ^ 300 := by
  have h1 := Int.emod_nonneg m ten0
  have h2 := Int.emod_lt_of_pos m ten1
  have h3 := ten1
  generalize m % 10 ^ 300 = x at *
  generalize (10 : Int) ^ 300 = y at *
  cases b
  · simp only [Bool.false_eq_true, if_false, Int.mul_zero]; omega
  · simp only [if_true, Int.mul_one]; omega
theorem wide300 : ((10 : Int) ^ 300).natAbs < 2 ^ 1000 := by decide +kernel
section
variable {P : Program} {w : World} {K : PySem.W.Frag} {mg : Str → Option Value} {base : Heap}
def sp_pot (K : PySem.W.Frag) : Sp := fun vs H Q _ => ∃ (s : Addr) (ns : List Int) (k : Nat), vs = [.ref s, .int k] ∧ SqL K H s (ns.map V.int) ∧ k < 100 ∧ ns.length < 1000 ∧
  ∀ H' p, Same H H' → H p = none → (∃ a b : Int, H' p = some (.lst [.int a, .int b, .int 0]) ∧ 0 ≤ a ∧ a < 10 ^ 300 ∧ 0 ≤ b ∧ b < 2 ^ 61) → Q (.ref p) H'
theorem c_pot (B : Blt mg) (D : DefB K mg "_law_pot" s_law_pot ["script", "place"]) : C8.Cal P w K mg base 1 "_law_pot" (sp_pot K) [] := by
  have S : C8.scC ["script", "place", "cell", "own", "small"] ["script", "place"] (C8.fnScope s_law_pot) = true := by decide +kernel
  have nd := (C8.fnScope_by S).nd
  refine calB D S (fun vs H Q E h => ?_) (fun f cdv Ar outer s H vs Q E hr h => ?_)
  · obtain ⟨_, _, _, rfl, _⟩ := h
    rfl
  obtain ⟨sa, ns, k, rfl, hs, hk, hn, q⟩ := h
  refine ⟨_, pss_cons (ps_set (i := 2) nd rfl (.inl rfl) (pe_ifExp (pt_cmpR op_lt (pv 1) (t_len K B (pa_cons (pv 0) pa_nil)) (nomark _)) (t_il K (pv 0) (pv 1))
      (pe_op op_add (pe_op op_add (pe_op op_mod (pe_callB (cr_sum rfl) (by rfl) B.sum (by decide +kernel) (pa_cons (pe_slice sl_list (pv 0) po_none (po_some pe_int)) pa_nil)) pe_int) (pe_op op_mul pe_int (pv 1))) pe_int)))
    (pss_cons (ps_set (i := 3) nd rfl (.inl rfl) (pe_op op_mulW (pe_op op_mod (pe_callTy call_int1 (by rfl) B.int (by decide +kernel) (pa_cons (pe_callB call_abs (by rfl) B.abs (by decide +kernel) (pa_cons (pv 2) pa_nil)) pa_nil)) (pe_op op_powW (pe_op op_powW pe_int pe_int) pe_int))
      (pe_callTy call_int1 (by rfl) B.int (by decide +kernel) (pa_cons (pe_cmpR op_ge (pe_callB call_abs (by rfl) B.abs (by decide +kernel) (pa_cons (pv 2) pa_nil)) (pe_op op_pow pe_int pe_int) (nomark _)) pa_nil))))
    (pss_cons (ps_set (i := 4) nd rfl (.inl rfl) (pe_op op_mod (pe_callTy call_int1 (by rfl) B.int (by decide +kernel) (pa_cons (pv 2) pa_nil)) pe_int))
    (pss_one (ps_ret (pe_lst (pa_cons (pv 3) (pa_cons (pe_op op_mod (pe_callTy call_int1 (by rfl) B.int (by decide +kernel) (pa_cons (pe_op op_add (pe_op op_add (pe_op op_mul (pv 4) pe_int) (pe_op op_mul (pe_op op_mul pe_int (pv 1)) (pv 1))) pe_int) pa_nil)) pe_int) (pa_cons pe_int pa_nil)))))))), ?_⟩
  refine ⟨_, rfl, _, rfl, sa, _, rfl, .inl hs, _, _, rfl, rfl, _, rfl, ?_⟩
  refine pick2 (TA := fun C => tOp (rIxL K) (tVar 0) (tVar 1) _ _ C) (fun _ H1 => Same H H1) (fun hc C' kC => ?_) (fun hc C' kC => ?_) (fun c H1 s1 => ?_)
  · have hlt : k < ns.length := by
      have z := of_decide_eq_true hc
      rw [List.length_map] at z
      omega
    exact ⟨_, rfl, _, rfl, sa, _, k, _, rfl, rfl, hs, atI_0 (by rw [List.getElem?_map, List.getElem?_eq_getElem hlt]; rfl), kC _ _ (Same.refl H)⟩
  · refine ⟨_, rfl, 1, rfl, sa, _, rfl, hs, fun p1 hp1 => ?_⟩
    rw [cut_to1, ← List.map_take]
    refine ⟨p1, ns.take 1, rfl, SqL.of upd_same, _, _, rfl, rfl, (by show (0 : Int) < 1000003; decide), _, rfl, _, _, rfl, rfl, ?_, _, _, rfl, rfl, _, _, rfl, rfl, ?_⟩
    · exact .inl (by decide)
    · exact kC _ _ (same_new hp1)
  · generalize hm : (if c < 0 then -c else c) = m
    have pos300 : (0 : Int) < ((10 : Int) ^ (60 : Int).toNat) ^ (5 : Int).toNat := by decide +kernel
    refine ⟨_, rfl, _, rfl, .inl ⟨_, rfl, _, _, rfl, rfl, ten60, _, _, rfl, rfl, ten300, _, _, rfl, rfl, pos300, _, rfl, _, rfl, _, _, rfl, rfl, by unfold CPow; decide, _, _, rfl, rfl, .inr ⟨_, rfl, _, _, rfl, rfl, ?_, ?_⟩⟩⟩
    · rw [ten300_eq]
      refine wide_mul (a := 1000) (b := 2) ?_ ?_ (by decide) (by decide) (by decide)
      · exact wide_le (Int.emod_nonneg _ ten0) (Int.le_of_lt (Int.emod_lt_of_pos _ ten1)) wide300
      · exact bool_lt _
    rw [ten300_eq]
    refine ⟨_, rfl, .inl ⟨_, rfl, _, _, rfl, rfl, (by show (0 : Int) < 2305843009213693951; decide), ?_⟩⟩
    generalize hsm : c % 2305843009213693951 = sm
    have sm0 : 0 ≤ sm := by omega
    have sm1 : sm < 2305843009213693951 := by omega
    refine ⟨_, rfl, _, rfl, _, _, rfl, rfl, .inr (by decide), _, rfl, _, _, rfl, rfl, .inl (by decide), _, rfl, _, _, rfl, rfl, .inr (by omega), _, _, rfl, rfl, _, _, rfl, rfl, .inl ⟨_, rfl, _, _, rfl, rfl, (by show (0 : Int) < 2305843009213693921; decide), by show 3 ≤ sizeLine; decide, fun p hp => ?_⟩⟩
    have own := pot_own (if c < 0 then -c else c) (decide ((10 : Int) ^ (18 : Int).toNat ≤ if c < 0 then -c else c))
    refine q _ p (s1.trans (same_new hp)) (by
      cases e : H p with
      | none => rfl
      | some o => rw [s1 _ _ e] at hp; cases hp) ⟨_, _, upd_same, own.1, own.2, ?_, ?_⟩
    · show 0 ≤ _ % (2305843009213693921 : Int)
      omega
    · show _ % (2305843009213693921 : Int) < 2 ^ 61
      omega
end
end G

/-! K2 -/
namespace G
open PySem PySem.Spec PyProof.Rows L2
/-- a pot from which at most n were taken -/
def PotN (H : Hp) (p : Addr) (n : Nat) : Prop := ∃ a b c : Int, H p = some (.lst [.int a, .int b, .int c]) ∧ 0 ≤ a ∧ a < 10 ^ 300 ∧ 0 ≤ b ∧ b < 2 ^ 61 ∧ 0 ≤ c ∧ c ≤ n
theorem PotN.stay {H H' : Hp} {p : Addr} {n : Nat} (h : PotN H p n) (s : Same H H') : PotN H' p n := by
  obtain ⟨a, b, c, h1, h2⟩ := h
  exact ⟨a, b, c, s _ _ h1, h2⟩
section
variable {P : Program} {w : World} {K : PySem.W.Frag} {mg : Str → Option Value} {base : Heap}
def sp_law_take : Sp := fun vs H Q _ => ∃ (p : Addr) (u : Int) (n : Nat), vs = [.ref p, .int u] ∧ PotN H p n ∧ n < 1000 ∧ 0 < u ∧ u < 1000 ∧ ∀ H' d, 0 ≤ d → d < u → PotN H' p (n + 1) → Up p H H' → Q (.int d) H'
theorem c_law_take (B : Blt mg) (D : DefB K mg "_law_take" s_law_take ["pot", "upto"]) : C8.Cal P w K mg base 1 "_law_take" sp_law_take [] := by
  have S : C8.scC ["pot", "upto", "digit", "prime", "blend"] ["pot", "upto"] (C8.fnScope s_law_take) = true := by decide +kernel
  have nd := (C8.fnScope_by S).nd
  refine calB D S (fun vs H Q E h => ?_) (fun f cdv Ar outer s H vs Q E hr h => ?_)
  · obtain ⟨_, _, _, rfl, _⟩ := h
    rfl
  obtain ⟨p, u, n, rfl, ⟨a, b, c, hp, a0, a1, b0, b1, c0, c1⟩, hn, u0, u1, q⟩ := h
  refine ⟨_, pss_cons (ps_if (pt_cmpR op_gt (t_il K (pv 0) pe_int) pe_int (nomark _))
      (pss_cons (ps_set (i := 2) nd rfl (.inl rfl) (pe_op op_mod (pe_callTy call_int1 (by rfl) B.int (by decide +kernel) (pa_cons (t_il K (pv 0) pe_int) pa_nil)) (pv 1)))
      (pss_cons (ps_asg (pe_op op_fdiv (t_il K (pv 0) pe_int) (pv 1)) (pg_sub (pv 0) pe_int set_list))
      (pss_one (ps_ret (pv 2))))) pss_nil)
    (pss_cons (ps_asg (pe_op op_add (t_il K (pv 0) pe_int) pe_int) (pg_sub (pv 0) pe_int set_list))
    (pss_cons (ps_set (i := 3) nd rfl (.inl rfl) (t_il K (pe_lst (pa_cons pe_int (pa_cons pe_int (pa_cons pe_int (pa_cons pe_int (pa_cons pe_int pa_nil)))))) (pe_op op_mod (pe_callTy call_int1 (by rfl) B.int (by decide +kernel) (pa_cons (t_il K (pv 0) pe_int) pa_nil)) pe_int)))
    (pss_cons (ps_set (i := 4) nd rfl (.inl rfl) (pe_op op_mod (pe_callTy call_int1 (by rfl) B.int (by decide +kernel) (pa_cons (pe_op op_powW (pe_callTy call_int1 (by rfl) B.int (by decide +kernel) (pa_cons (pe_op op_add (pe_op op_add (t_il K (pv 0) pe_int) (pe_op op_mul (pe_op op_mul pe_int (t_il K (pv 0) pe_int)) (t_il K (pv 0) pe_int))) pe_int) pa_nil)) pe_int) pa_nil)) (pv 3)))
    (pss_cons (ps_set (i := 4) nd rfl (.inl rfl) (pe_op op_mod (pe_callTy call_int1 (by rfl) B.int (by decide +kernel) (pa_cons (pe_op op_mul (pv 4) (pe_op op_add (pe_op op_mod (pe_callTy call_int1 (by rfl) B.int (by decide +kernel) (pa_cons (pv 4) pa_nil)) pe_int) (pe_op op_mul pe_int (t_il K (pv 0) pe_int)))) pa_nil)) pe_int))
    (pss_one (ps_ret (pe_op op_mod (pe_callTy call_int1 (by rfl) B.int (by decide +kernel) (pa_cons (pe_op op_fdiv (pv 4) pe_int) pa_nil)) (pv 1)))))))), ?_⟩
  refine ⟨_, rfl, p, _, 0, _, rfl, rfl, SqL.of hp, atI_0 (n := 0) rfl, _, _, rfl, rfl, _, rfl, ?_⟩
  by_cases hpos : 0 < a
  · refine iteT' (by simpa using hpos) ⟨_, rfl, p, _, 0, _, rfl, rfl, SqL.of hp, atI_0 (n := 0) rfl, .inl ⟨a, rfl, _, rfl, _, _, rfl, rfl, u0, ?_⟩⟩
    refine ⟨_, rfl, p, _, 0, _, rfl, rfl, SqL.of hp, atI_0 (n := 0) rfl, _, rfl, _, _, rfl, rfl, ⟨u0, by omega⟩, _, rfl, p, _, 0, 0, rfl, rfl, hp, rfl, ?_⟩
    have hU : Up p H (upd H p (.lst ([V.int a, V.int b, V.int c].set 0 (.int (a / u))))) := .own
    refine ⟨_, rfl, q _ (a % u) (Int.emod_nonneg _ (by omega)) (Int.emod_lt_of_pos _ u0) ⟨a / u, b, c, upd_same, Int.ediv_nonneg a0 (by omega), ?_, b0, b1, c0, by omega⟩ hU⟩
    exact Int.lt_of_le_of_lt (Int.ediv_le_self _ a0) a1
  · refine iteF' (by simpa using hpos) ?_
    refine ⟨_, rfl, p, _, 2, _, rfl, rfl, SqL.of hp, atI_0 (n := 2) rfl, _, _, rfl, rfl, _, rfl, p, _, 2, 2, rfl, rfl, hp, rfl, ?_⟩
    have hU : Up p H (upd H p (.lst ([V.int a, V.int b, V.int c].set 2 (.int (c + 1))))) := .own
    have hp2 : (upd H p (.lst ([V.int a, V.int b, V.int c].set 2 (.int (c + 1))))) p = some (.lst [.int a, .int b, .int (c + 1)]) := upd_same
    generalize upd H p (.lst ([V.int a, V.int b, V.int c].set 2 (.int (c + 1)))) = H2 at hU hp2
    have pr : ∃ r : Int, atI ([V.int 2147483647, V.int 2147483629, V.int 2147483587, V.int 2147483579, V.int 2147483563]) ((c + 1) % 5) = some (.int r) ∧ 0 < r ∧ r < 2 ^ 31 := by
      have h5 : (c + 1) % 5 = 0 ∨ (c + 1) % 5 = 1 ∨ (c + 1) % 5 = 2 ∨ (c + 1) % 5 = 3 ∨ (c + 1) % 5 = 4 := by omega
      rcases h5 with e | e | e | e | e <;> rw [e] <;> exact ⟨_, rfl, by decide, by decide⟩
    obtain ⟨r, hr1, hr2, hr3⟩ := pr
    refine ⟨by show 5 ≤ sizeLine; decide, fun p3 hp3 => ?_⟩
    have s3 := same_new (o := .lst [V.int 2147483647, V.int 2147483629, V.int 2147483587, V.int 2147483579, V.int 2147483563]) hp3
    have hp23 := s3 _ _ hp2
    refine ⟨_, rfl, p, _, 2, _, rfl, rfl, SqL.of hp23, atI_0 (n := 2) rfl, .inl ⟨_, rfl, _, _, rfl, rfl, (by show (0 : Int) < 5; decide), p3, _, _, _, rfl, rfl, SqL.of upd_same, hr1, ?_⟩⟩
    generalize upd H2 p3 (.lst [V.int 2147483647, V.int 2147483629, V.int 2147483587, V.int 2147483579, V.int 2147483563]) = H3 at s3 hp23
    generalize hcc : c + 1 = cc at hp23
    have cc1 : 1 ≤ cc := by omega
    have cc2 : cc ≤ 1000 := by omega
    refine ⟨_, rfl, p, _, 1, _, rfl, rfl, SqL.of hp23, atI_0 (n := 1) rfl, _, rfl, p, _, 2, _, rfl, rfl, SqL.of hp23, atI_0 (n := 2) rfl, _, _, rfl, rfl, .inl (by decide), _, rfl, p, _, 2, _, rfl, rfl, SqL.of hp23, atI_0 (n := 2) rfl, _, _, rfl, rfl, .inr (by omega), _, _, rfl, rfl, _, _, rfl, rfl, .inl ⟨_, rfl, _, _, rfl, rfl, ?_, .inl ⟨_, rfl, _, rfl, _, _, rfl, rfl, hr2, ?_⟩⟩⟩
    · have h1 : cc * cc ≤ 1000 * 1000 := Int.mul_le_mul cc2 cc2 (by omega) (by omega)
      have h0 : 0 ≤ cc * cc := Int.mul_nonneg (by omega) (by omega)
      rw [Int.mul_assoc]
      generalize cc * cc = y at h0 h1
      refine ⟨by decide, ?_⟩
      have h3 := intBits_le_64 (k := b + 111413 * y + 3421) (by omega) (by omega)
      omega
    generalize hbl : (b + 111413 * cc * cc + 3421) ^ (3 : Int).toNat % r = bl
    have bl0 : 0 ≤ bl := by rw [← hbl]; exact Int.emod_nonneg _ (by omega)
    have bl1 : bl < r := by rw [← hbl]; exact Int.emod_lt_of_pos _ hr2
    refine ⟨_, rfl, _, rfl, .inl ⟨_, rfl, _, _, rfl, rfl, (by show (0 : Int) < 14387; decide), _, rfl, p, _, 2, _, rfl, rfl, SqL.of hp23, atI_0 (n := 2) rfl, _, _, rfl, rfl, .inl (by decide), _, _, rfl, rfl, _, _, rfl, rfl, .inl (by omega), .inl ⟨_, rfl, _, _, rfl, rfl, (by show (0 : Int) < 2305843009213693907; decide), ?_⟩⟩⟩
    generalize hbb : bl * (bl % 14387 + 1641 * cc) % 2305843009213693907 = bb
    have bb0 : 0 ≤ bb := by rw [← hbb]; exact Int.emod_nonneg _ (by decide)
    refine ⟨_, rfl, _, _, rfl, rfl, ⟨by decide, by decide⟩, .inl ⟨_, rfl, _, rfl, _, _, rfl, rfl, u0, ?_⟩⟩
    refine q H3 _ (Int.emod_nonneg _ (by omega)) (Int.emod_lt_of_pos _ u0) ⟨a, b, cc, hp23, a0, a1, b0, b1, by omega, by omega⟩ (hU.trans (Up.same s3))
end
end G

/-! L1 -/
namespace G
open PySem PySem.Spec PyProof.Rows L2
theorem Up.refl {x : Addr} {H : Hp} : Up x H H := fun _ _ _ e => e
theorem Up.new {x r : Addr} {H H1 : Hp} {o : HO} (u : Up x H H1) (hr : H r = none) : Up x H (upd H1 r o) := fun b v n e => by
  rw [upd_ne (ne_of_none e hr)]
  exact u b v n e
theorem Up.none {x r : Addr} {H H1 : Hp} (u : Up x H H1) (hx : H1 x ≠ none) (hr : H1 r = none) : H r = none := by
  cases e : H r with
  | none => rfl
  | some o =>
    have c : r ≠ x := fun z => hx (z ▸ hr)
    rw [u r o c e] at hr
    cases hr
theorem PotN.some {H : Hp} {p : Addr} {n : Nat} (h : PotN H p n) : H p ≠ none := by
  obtain ⟨_, _, _, e, _⟩ := h
  rw [e]
  simp
theorem PotN.upd {H : Hp} {p r : Addr} {n : Nat} {o : HO} (h : PotN H p n) (hr : r ≠ p) : PotN (upd H r o) p n := by
  obtain ⟨a, b, c, e, h2⟩ := h
  exact ⟨a, b, c, by rw [upd_ne hr.symm]; exact e, h2⟩
theorem PotN.mono {H : Hp} {p : Addr} {m n : Nat} (h : PotN H p m) (l : m ≤ n) : PotN H p n := by
  obtain ⟨a, b, c, e, h1, h2, h3, h4, h5, h6⟩ := h
  exact ⟨a, b, c, e, h1, h2, h3, h4, h5, by omega⟩
theorem seq_nat {k n : Nat} (h : k < n) : seqIndex? (k : Int) n = some k := PySem.StrLaws.seqIndex_nonneg (by omega) (by omega)
theorem erase_perm {α : Type} : ∀ (xs : List α) (k : Nat) (h : k < xs.length), (xs[k] :: xs.eraseIdx k).Perm xs
  | x :: xs, 0, _ => .refl _
  | x :: xs, k + 1, h => by
    have h' : k < xs.length := by simpa using h
    show (xs[k] :: x :: xs.eraseIdx k).Perm (x :: xs)
    exact (List.Perm.swap x xs[k] _).trans ((erase_perm xs k h').cons x)
section
variable {P : Program} {w : World} {K : PySem.W.Frag} {mg : Str → Option Value} {base : Heap}
def sp_law_of (K : PySem.W.Frag) : Sp := fun vs H Q _ => ∃ (p l : Addr) (n : Nat) (xs : List V), vs = [.ref p, .ref l] ∧ PotN H p n ∧ n < 999 ∧ H l = some (.lst xs) ∧ l ≠ p ∧ 0 < xs.length ∧ xs.length < 1000 ∧
  ∀ (H' : Hp) (i : Nat) (x : V), xs[i]? = some x → PotN H' p (n + 1) → Up p H H' → Q x H'
theorem c_law_of (B : Blt mg) (D : DefB K mg "_law_of" s_law_of ["pot", "some"]) (CT : C8.Cal P w K mg base 1 "_law_take" sp_law_take []) : C8.Cal P w K mg base 2 "_law_of" (sp_law_of K) [] := by
  have S : C8.scC ["pot", "some"] ["pot", "some"] (C8.fnScope s_law_of) = true := by decide +kernel
  refine calB D S (fun vs H Q E h => ?_) (fun f cdv Ar outer s H vs Q E hr h => ?_)
  · obtain ⟨_, _, _, _, rfl, _⟩ := h
    rfl
  obtain ⟨p, l, n, xs, rfl, hp, hn, hl, hlp, l0, l1, q⟩ := h
  refine ⟨_, pss_one (ps_ret (t_il K (pv 1) (C8.pe_c CT hr (by decide) rfl (pa_cons (pv 0) (pa_cons (t_len K B (pa_cons (pv 1) pa_nil)) pa_nil))))), ?_⟩
  refine ⟨_, rfl, _, rfl, _, rfl, l, xs, rfl, .inl (SqL.of hl), p, xs.length, n, rfl, hp, by omega, by omega, by omega, fun H1 d d0 d1 hp1 u1 => ?_⟩
  obtain ⟨i, rfl⟩ : ∃ i : Nat, d = i := ⟨d.toNat, by omega⟩
  have hi : i < xs.length := by omega
  exact ⟨l, xs, i, xs[i], rfl, rfl, SqL.of (u1 _ _ hlp hl), atI_0 (List.getElem?_eq_getElem hi), q _ i _ (List.getElem?_eq_getElem hi) hp1 u1⟩
/-- so many of a pool, in a drawn sequence -/
def sp_law_some (K : PySem.W.Frag) : Sp := fun vs H Q _ => ∃ (p l : Addr) (n m : Nat) (xs : List V), vs = [.ref p, .ref l, .int m] ∧ PotN H p n ∧ n + m < 999 ∧ H l = some (.lst xs) ∧ l ≠ p ∧ m ≤ xs.length ∧ xs.length < 1000 ∧
  ∀ H' f fs rs, (fs ++ rs).Perm xs → fs.length = m → H f = none → H' f = some (.lst fs) → PotN H' p (n + m) → Up p H H' → Q (.ref f) H'
theorem c_law_some (B : Blt mg) (D : DefB K mg "_law_some" s_law_some ["pot", "pool", "many"]) (CT : C8.Cal P w K mg base 1 "_law_take" sp_law_take []) : C8.Cal P w K mg base 2 "_law_some" (sp_law_some K) [] := by
  have S : C8.scC ["pot", "pool", "many", "rests", "found", "lap"] ["pot", "pool", "many"] (C8.fnScope s_law_some) = true := by decide +kernel
  have nd := (C8.fnScope_by S).nd
  refine calB D S (fun vs H Q E h => ?_) (fun f cdv Ar outer s H vs Q E hr h => ?_)
  · obtain ⟨_, _, _, _, _, rfl, _⟩ := h
    rfl
  obtain ⟨p, l, n, m, xs, rfl, hp, hn, hl, hlp, hm, l1, q⟩ := h
  refine ⟨_, pss_cons (ps_par (i := 3) (j := 4) rfl nd rfl rfl (by decide) rfl rfl (pa_cons (pe_callTy call_list_of (by rfl) B.lst (by decide +kernel) (pa_cons (pv 1) pa_nil)) (pa_cons (pe_lst pa_nil) pa_nil)) (by rfl))
    (pss_cons (ps_for PassesOwn.never rfl (pi_range1 (by rfl) B.rng (pa_cons (pv 2) pa_nil)) (pg_name (i := 5) nd rfl (.inl rfl))
      (pss_one (ps_expr (pe_bm PySem.F.plainAttrs_list PySem.F.slot_list_append PySem.F.type_list_append mt_append (pv 4) (pa_cons (pe_bm PySem.F.plainAttrs_list PySem.F.slot_list_pop PySem.F.type_list_pop mt_popAt (pv 3) (pa_cons (C8.pe_c CT hr (by decide) rfl (pa_cons (pv 0) (pa_cons (t_len K B (pa_cons (pv 3) pa_nil)) pa_nil))) pa_nil)) pa_nil)))))
    (pss_one (ps_ret (pv 4)))), ?_⟩
  refine ⟨_, rfl, l, xs, rfl, .inl (SqL.of hl), fun r hr0 => ⟨by show 0 ≤ sizeLine; decide, fun g hg0 => ⟨_, _, rfl, ?_⟩⟩⟩
  have hrp : r ≠ p := fun z => hp.some (z ▸ hr0)
  have hg0' : H g = none := by
    cases e : H g with
    | none => rfl
    | some o => rw [upd_ne (ne_of_none e hr0), e] at hg0; cases hg0
  have hgp : g ≠ p := fun z => hp.some (z ▸ hg0')
  have hgr : g ≠ r := fun z => by rw [z, upd_same] at hg0; cases hg0
  refine ⟨_, rfl, m, rfl, by omega, by omega, ?_⟩
  rw [show ((m : Int)).toNat = m by omega]
  refine for_range (lo := 0) (n := m) (fun i σ Hx => ∃ (rs fs : List V) (v5 : Option V), σ = [some (.ref p), some (.ref l), some (.int m), some (.ref r), some (.ref g), v5] ∧ PotN Hx p (n + i) ∧ Up p H Hx ∧ Hx r = some (.lst rs) ∧ Hx g = some (.lst fs) ∧ (fs ++ rs).Perm xs ∧ fs.length = i) ?_ ?_ ?_
  · exact ⟨xs, [], none, rfl, (hp.upd hrp).upd hgp, (Up.refl.new hr0).new hg0', by rw [upd_ne hgr.symm, upd_same], upd_same, .refl _, rfl⟩
  · rintro i σ Hx hi ⟨rs, fs, v5, rfl, hp1, u1, r1, g1, pm, fl⟩
    have hlen : rs.length = xs.length - i := by
      have := pm.length_eq
      rw [List.length_append] at this
      omega
    refine ⟨_, rfl, .inl ⟨rfl, _, SqL.of g1⟩, ?_⟩
    refine ⟨_, rfl, .inl ⟨rfl, _, SqL.of r1⟩, ?_⟩
    refine ⟨_, rfl, _, rfl, r, rs, rfl, .inl (SqL.of r1), p, rs.length, n + i, rfl, hp1, by omega, by omega, by omega, fun H2 d d0 d1 hp2 u2 => ?_⟩
    obtain ⟨k, rfl⟩ : ∃ k : Nat, d = k := ⟨d.toNat, by omega⟩
    have hk : k < rs.length := by omega
    have r2 := u2 _ _ hrp r1
    have g2 := u2 _ _ hgp g1
    refine ⟨r, rs, k, k, rs[k], rfl, rfl, r2, by omega, by omega, seq_nat hk, List.getElem?_eq_getElem hk, ?_⟩
    refine ⟨g, fs, rs[k], rfl, rfl, by rw [upd_ne hgr]; exact g2, by rw [fl, sizeLine_eq]; omega, ?_⟩
    refine ⟨rs.eraseIdx k, fs ++ [rs[k]], _, rfl, ?_, ((u1.trans u2).new hr0).new hg0', by rw [upd_ne hgr.symm, upd_same], upd_same, ?_, by rw [List.length_append, fl]; rfl⟩
    · have := (hp2.upd (o := .lst (rs.eraseIdx k)) hrp).upd (o := .lst (fs ++ [rs[k]])) hgp
      exact this
    · rw [List.append_assoc]
      refine List.Perm.trans (List.Perm.append_left fs ?_) pm
      show (rs[k] :: rs.eraseIdx k).Perm rs
      exact erase_perm rs k hk
  · rintro σ Hx ⟨rs, fs, v5, rfl, hp1, u1, r1, g1, pm, fl⟩
    exact ⟨_, rfl, q Hx g fs rs pm fl hg0' g1 hp1 u1⟩
end
end G

/-! F1 -/
namespace G
open PySem PySem.Spec PyProof.Rows L2
/-- a fraction in least terms, as two ints -/
def redT (a b : Int) : Int := a / (Nat.gcd a.natAbs b.natAbs : Nat)
def redB (a b : Int) : Int := b / (Nat.gcd a.natAbs b.natAbs : Nat)
abbrev numP (a b c d : Int) : Int := a * d + c * b
abbrev numM (a b c d : Int) : Int := a * d - c * b
abbrev numX (a b c d : Int) : Int := a * c
def Small (a : Int) : Prop := -(2 ^ 62) < a ∧ a < 2 ^ 62
/-- one op other, of two fractions at t and u: their reduced value, at a new tuple -/
def sp_fop (K : PySem.W.Frag) (num : Int → Int → Int → Int → Int) : Sp := fun vs H Q _ => ∃ (t u : Addr) (a b c d : Int), vs = [.ref t, .ref u] ∧ Fr2 K H t a b ∧ Fr2 K H u c d ∧ Small a ∧ Small c ∧ 0 < b ∧ b < 2 ^ 30 ∧ 0 < d ∧ d < 2 ^ 30 ∧ b * d < 2 ^ 30 ∧
  ∀ p, H p = none → Q (.ref p) (upd H p (.tup [.int (redT (num a b c d) (b * d)), .int (redB (num a b c d) (b * d))]))
theorem Small.w {a : Int} (h : Small a) : -(2 ^ 64) < a ∧ a < 2 ^ 64 := ⟨Int.lt_of_lt_of_le (by decide) (Int.le_of_lt h.1), Int.lt_of_lt_of_le h.2 (by decide)⟩
section
variable {P : Program} {w : World} {K : PySem.W.Frag} {mg : Str → Option Value} {base : Heap}
theorem c_plus (D : DefB K mg "plus" s_plus ["one", "other"]) (C1 : C8.Cal P w K mg base 1 "fraction" sp_fraction []) : C8.Cal P w K mg base 2 "plus" (sp_fop K numP) [] := by
  have S : C8.scC ["one", "other"] ["one", "other"] (C8.fnScope s_plus) = true := by decide +kernel
  refine calB D S (fun vs H Q E h => ?_) (fun f cdv A outer s H vs Q E hr h => ?_)
  · obtain ⟨_, _, _, _, _, _, rfl, _⟩ := h
    rfl
  obtain ⟨t, u, a, b, c, d, rfl, ht, hu, ha, hc, b0, b1, d0, d1, bd, q⟩ := h
  refine ⟨_, pss_one (ps_ret (C8.pe_c C1 hr (by decide) rfl (pa_cons (pe_op op_add (pe_op op_mul (t_it K (pv 0) pe_int) (t_it K (pv 1) pe_int)) (pe_op op_mul (t_it K (pv 1) pe_int) (t_it K (pv 0) pe_int))) (pa_cons (pe_op op_mul (t_it K (pv 0) pe_int) (t_it K (pv 1) pe_int)) pa_nil)))), ?_⟩
  refine ⟨_, rfl, t, _, 0, _, rfl, rfl, ht, atI_0 (n := 0) rfl, _, rfl, u, _, 1, _, rfl, rfl, hu, atI_0 (n := 1) rfl, _, _, rfl, rfl, .inl ha.w, ?_⟩
  refine ⟨_, rfl, u, _, 0, _, rfl, rfl, hu, atI_0 (n := 0) rfl, _, rfl, t, _, 1, _, rfl, rfl, ht, atI_0 (n := 1) rfl, _, _, rfl, rfl, .inl hc.w, _, _, rfl, rfl, ?_⟩
  refine ⟨_, rfl, t, _, 1, _, rfl, rfl, ht, atI_0 (n := 1) rfl, _, rfl, u, _, 1, _, rfl, rfl, hu, atI_0 (n := 1) rfl, _, _, rfl, rfl, .inl ⟨by omega, by omega⟩, ?_⟩
  exact ⟨_, _, rfl, Int.mul_pos b0 d0, by omega, q⟩
theorem c_minus (D : DefB K mg "minus" s_minus ["one", "other"]) (C1 : C8.Cal P w K mg base 1 "fraction" sp_fraction []) : C8.Cal P w K mg base 2 "minus" (sp_fop K numM) [] := by
  have S : C8.scC ["one", "other"] ["one", "other"] (C8.fnScope s_minus) = true := by decide +kernel
  refine calB D S (fun vs H Q E h => ?_) (fun f cdv A outer s H vs Q E hr h => ?_)
  · obtain ⟨_, _, _, _, _, _, rfl, _⟩ := h
    rfl
  obtain ⟨t, u, a, b, c, d, rfl, ht, hu, ha, hc, b0, b1, d0, d1, bd, q⟩ := h
  refine ⟨_, pss_one (ps_ret (C8.pe_c C1 hr (by decide) rfl (pa_cons (pe_op op_sub (pe_op op_mul (t_it K (pv 0) pe_int) (t_it K (pv 1) pe_int)) (pe_op op_mul (t_it K (pv 1) pe_int) (t_it K (pv 0) pe_int))) (pa_cons (pe_op op_mul (t_it K (pv 0) pe_int) (t_it K (pv 1) pe_int)) pa_nil)))), ?_⟩
  refine ⟨_, rfl, t, _, 0, _, rfl, rfl, ht, atI_0 (n := 0) rfl, _, rfl, u, _, 1, _, rfl, rfl, hu, atI_0 (n := 1) rfl, _, _, rfl, rfl, .inl ha.w, ?_⟩
  refine ⟨_, rfl, u, _, 0, _, rfl, rfl, hu, atI_0 (n := 0) rfl, _, rfl, t, _, 1, _, rfl, rfl, ht, atI_0 (n := 1) rfl, _, _, rfl, rfl, .inl hc.w, _, _, rfl, rfl, ?_⟩
  refine ⟨_, rfl, t, _, 1, _, rfl, rfl, ht, atI_0 (n := 1) rfl, _, rfl, u, _, 1, _, rfl, rfl, hu, atI_0 (n := 1) rfl, _, _, rfl, rfl, .inl ⟨by omega, by omega⟩, ?_⟩
  exact ⟨_, _, rfl, Int.mul_pos b0 d0, by omega, q⟩
theorem c_times (D : DefB K mg "times" s_times ["one", "other"]) (C1 : C8.Cal P w K mg base 1 "fraction" sp_fraction []) : C8.Cal P w K mg base 2 "times" (sp_fop K numX) [] := by
  have S : C8.scC ["one", "other"] ["one", "other"] (C8.fnScope s_times) = true := by decide +kernel
  refine calB D S (fun vs H Q E h => ?_) (fun f cdv A outer s H vs Q E hr h => ?_)
  · obtain ⟨_, _, _, _, _, _, rfl, _⟩ := h
    rfl
  obtain ⟨t, u, a, b, c, d, rfl, ht, hu, ha, hc, b0, b1, d0, d1, bd, q⟩ := h
  refine ⟨_, pss_one (ps_ret (C8.pe_c C1 hr (by decide) rfl (pa_cons (pe_op op_mul (t_it K (pv 0) pe_int) (t_it K (pv 1) pe_int)) (pa_cons (pe_op op_mul (t_it K (pv 0) pe_int) (t_it K (pv 1) pe_int)) pa_nil)))), ?_⟩
  refine ⟨_, rfl, t, _, 0, _, rfl, rfl, ht, atI_0 (n := 0) rfl, _, rfl, u, _, 0, _, rfl, rfl, hu, atI_0 (n := 0) rfl, _, _, rfl, rfl, .inl ha.w, ?_⟩
  refine ⟨_, rfl, t, _, 1, _, rfl, rfl, ht, atI_0 (n := 1) rfl, _, rfl, u, _, 1, _, rfl, rfl, hu, atI_0 (n := 1) rfl, _, _, rfl, rfl, .inl ⟨by omega, by omega⟩, ?_⟩
  exact ⟨_, _, rfl, Int.mul_pos b0 d0, by omega, q⟩
/-! the law's own fractions -/
def sp_common : Sp := fun vs H Q _ => ∃ a b : Int, vs = [.int a, .int b] ∧ Q (.int (Nat.gcd a.natAbs b.natAbs : Nat)) H
theorem abs_nat (a : Int) : (if a < 0 then -a else a) = (a.natAbs : Int) := by
  by_cases h : a < 0
  · rw [if_pos h]; omega
  · rw [if_neg h]; omega
theorem c_common (B : Blt mg) (D : DefB K mg "_law_frac_common" s_law_frac_common ["one", "other"]) : C8.Cal P w K mg base 1 "_law_frac_common" sp_common [] := by
  have S : C8.scC ["one", "other"] ["one", "other"] (C8.fnScope s_law_frac_common) = true := by decide +kernel
  have nd := (C8.fnScope_by S).nd
  refine calB D S (fun vs H Q E h => ?_) (fun f cdv A outer s H vs Q E hr h => ?_)
  · obtain ⟨_, _, rfl, _⟩ := h
    rfl
  obtain ⟨a, b, rfl, q⟩ := h
  refine ⟨_, pss_cons (ps_par (i := 0) (j := 1) rfl nd rfl rfl (by decide) rfl rfl (pa_cons (pe_callB call_abs (by rfl) B.abs (by decide +kernel) (pa_cons (pv 0) pa_nil)) (pa_cons (pe_callB call_abs (by rfl) B.abs (by decide +kernel) (pa_cons (pv 1) pa_nil)) pa_nil)) (by rfl))
    (pss_cons (ps_while PassesOwn.never (pt_cmpR op_gt (pv 1) pe_int (nomark _))
      (pss_one (ps_par (i := 0) (j := 1) rfl nd rfl rfl (by decide) rfl rfl (pa_cons (pv 1) (pa_cons (pe_op op_mod (pe_callTy call_int1 (by rfl) B.int (by decide +kernel) (pa_cons (pv 0) pa_nil)) (pv 1)) pa_nil)) (by rfl))))
    (pss_one (ps_ret (pv 0)))), ?_⟩
  refine ⟨_, rfl, a, rfl, _, rfl, b, rfl, _, _, rfl, ?_⟩
  rw [abs_nat, abs_nat]
  refine ⟨fun m σ Hx => ∃ x y : Nat, σ = [some (.int x), some (.int y)] ∧ y = m ∧ Nat.gcd x y = Nat.gcd a.natAbs b.natAbs ∧ Hx = H, ⟨_, a.natAbs, b.natAbs, rfl, rfl, rfl, rfl⟩, ?_⟩
  rintro m σ Hx ⟨x, y, rfl, rfl, hg, rfl⟩
  refine ⟨_, rfl, _, _, rfl, rfl, _, rfl, ?_⟩
  by_cases h0 : 0 < y
  · refine iteT' (by simp; omega) ⟨fun σ' H' => ∃ x' y' : Nat, σ' = [some (.int x'), some (.int y')] ∧ y' < y ∧ Nat.gcd x' y' = Nat.gcd a.natAbs b.natAbs ∧ H' = Hx, fun σ' H' ⟨x', y', e1, e2, e3, e4⟩ => ⟨y', e2, x', y', e1, rfl, e3, e4⟩, ?_⟩
    refine ⟨_, rfl, _, rfl, .inl ⟨_, rfl, _, rfl, _, _, rfl, rfl, by omega, _, _, rfl, ?_⟩⟩
    refine ⟨y, x % y, ?_, Nat.mod_lt _ h0, ?_, rfl⟩
    · show [some (V.int y), some (V.int ((x : Int) % (y : Int)))] = _
      rw [Int.natCast_emod]
    · rw [← hg, Nat.gcd_comm x y, Nat.gcd_rec y x, Nat.gcd_comm]
  · refine iteF' (by simp; omega) ⟨_, rfl, ?_⟩
    have : y = 0 := by omega
    subst this
    rw [Nat.gcd_zero_right] at hg
    rw [hg]
    exact q
/-- a tuple of a fraction in least terms, of a top and a bottom above 0 -/
def sp_frac : Sp := fun vs H Q _ => ∃ a b : Int, vs = [.int a, .int b] ∧ 0 < b ∧ b < 1073741824 ∧ ∀ p, H p = none → Q (.ref p) (upd H p (.tup [.int (redT a b), .int (redB a b)]))
theorem c_frac (B : Blt mg) (D : DefB K mg "_law_frac" s_law_frac ["top", "bottom"]) (C1 : C8.Cal P w K mg base 1 "_law_frac_common" sp_common []) : C8.Cal P w K mg base 2 "_law_frac" sp_frac [] := by
  have S : C8.scC ["top", "bottom", "by"] ["top", "bottom"] (C8.fnScope s_law_frac) = true := by decide +kernel
  have nd := (C8.fnScope_by S).nd
  refine calB D S (fun vs H Q E h => ?_) (fun f cdv A outer s H vs Q E hr h => ?_)
  · obtain ⟨_, _, rfl, _⟩ := h
    rfl
  obtain ⟨a, b, rfl, h0, h1, q⟩ := h
  refine ⟨_, pss_cons (ps_set (i := 2) nd rfl (.inl rfl) (C8.pe_c C1 hr (by decide) rfl (pa_cons (pv 0) (pa_cons (pv 1) pa_nil))))
    (pss_cons (ps_set (i := 2) nd rfl (.inl rfl) (pe_ifExp (pt_cmpR op_gt (pv 1) pe_int (nomark _)) (pv 2) (pe_un un_neg (pv 2))))
    (pss_one (ps_ret (pe_tup (pa_cons (pe_op op_fdiv (pv 0) (pv 2)) (pa_cons (pe_op op_fdiv (pv 1) (pv 2)) pa_nil)))))), ?_⟩
  have g0 : 0 < Nat.gcd a.natAbs b.natAbs := Nat.gcd_pos_of_pos_right _ (by omega)
  have g1 : Nat.gcd a.natAbs b.natAbs ≤ b.natAbs := Nat.gcd_le_right _ (by omega)
  refine ⟨_, rfl, _, rfl, a, b, rfl, _, rfl, _, _, rfl, rfl, _, rfl, iteT' (by simp; omega) ⟨_, rfl, ?_⟩⟩
  refine ⟨_, rfl, _, rfl, _, _, rfl, rfl, ⟨by omega, by omega⟩, _, rfl, _, rfl, _, _, rfl, rfl, ⟨by omega, by omega⟩, (by show 2 ≤ sizeLine; decide), fun p hp => ?_⟩
  exact q p hp
theorem c_frac_plus (D : DefB K mg "_law_frac_plus" s_law_frac_plus ["one", "other"]) (C1 : C8.Cal P w K mg base 2 "_law_frac" sp_frac []) : C8.Cal P w K mg base 3 "_law_frac_plus" (sp_fop K numP) [] := by
  have S : C8.scC ["one", "other"] ["one", "other"] (C8.fnScope s_law_frac_plus) = true := by decide +kernel
  refine calB D S (fun vs H Q E h => ?_) (fun f cdv A outer s H vs Q E hr h => ?_)
  · obtain ⟨_, _, _, _, _, _, rfl, _⟩ := h
    rfl
  obtain ⟨t, u, a, b, c, d, rfl, ht, hu, ha, hc, b0, b1, d0, d1, bd, q⟩ := h
  refine ⟨_, pss_one (ps_ret (C8.pe_c C1 hr (by decide) rfl (pa_cons (pe_op op_add (pe_op op_mul (t_it K (pv 0) pe_int) (t_it K (pv 1) pe_int)) (pe_op op_mul (t_it K (pv 1) pe_int) (t_it K (pv 0) pe_int))) (pa_cons (pe_op op_mul (t_it K (pv 0) pe_int) (t_it K (pv 1) pe_int)) pa_nil)))), ?_⟩
  refine ⟨_, rfl, t, _, 0, _, rfl, rfl, ht, atI_0 (n := 0) rfl, _, rfl, u, _, 1, _, rfl, rfl, hu, atI_0 (n := 1) rfl, _, _, rfl, rfl, .inl ha.w, ?_⟩
  refine ⟨_, rfl, u, _, 0, _, rfl, rfl, hu, atI_0 (n := 0) rfl, _, rfl, t, _, 1, _, rfl, rfl, ht, atI_0 (n := 1) rfl, _, _, rfl, rfl, .inl hc.w, _, _, rfl, rfl, ?_⟩
  refine ⟨_, rfl, t, _, 1, _, rfl, rfl, ht, atI_0 (n := 1) rfl, _, rfl, u, _, 1, _, rfl, rfl, hu, atI_0 (n := 1) rfl, _, _, rfl, rfl, .inl ⟨by omega, by omega⟩, ?_⟩
  exact ⟨_, _, rfl, Int.mul_pos b0 d0, by omega, q⟩
theorem c_frac_less (D : DefB K mg "_law_frac_less" s_law_frac_less ["one", "other"]) (C1 : C8.Cal P w K mg base 2 "_law_frac" sp_frac []) : C8.Cal P w K mg base 3 "_law_frac_less" (sp_fop K numM) [] := by
  have S : C8.scC ["one", "other"] ["one", "other"] (C8.fnScope s_law_frac_less) = true := by decide +kernel
  refine calB D S (fun vs H Q E h => ?_) (fun f cdv A outer s H vs Q E hr h => ?_)
  · obtain ⟨_, _, _, _, _, _, rfl, _⟩ := h
    rfl
  obtain ⟨t, u, a, b, c, d, rfl, ht, hu, ha, hc, b0, b1, d0, d1, bd, q⟩ := h
  refine ⟨_, pss_one (ps_ret (C8.pe_c C1 hr (by decide) rfl (pa_cons (pe_op op_sub (pe_op op_mul (t_it K (pv 0) pe_int) (t_it K (pv 1) pe_int)) (pe_op op_mul (t_it K (pv 1) pe_int) (t_it K (pv 0) pe_int))) (pa_cons (pe_op op_mul (t_it K (pv 0) pe_int) (t_it K (pv 1) pe_int)) pa_nil)))), ?_⟩
  refine ⟨_, rfl, t, _, 0, _, rfl, rfl, ht, atI_0 (n := 0) rfl, _, rfl, u, _, 1, _, rfl, rfl, hu, atI_0 (n := 1) rfl, _, _, rfl, rfl, .inl ha.w, ?_⟩
  refine ⟨_, rfl, u, _, 0, _, rfl, rfl, hu, atI_0 (n := 0) rfl, _, rfl, t, _, 1, _, rfl, rfl, ht, atI_0 (n := 1) rfl, _, _, rfl, rfl, .inl hc.w, _, _, rfl, rfl, ?_⟩
  refine ⟨_, rfl, t, _, 1, _, rfl, rfl, ht, atI_0 (n := 1) rfl, _, rfl, u, _, 1, _, rfl, rfl, hu, atI_0 (n := 1) rfl, _, _, rfl, rfl, .inl ⟨by omega, by omega⟩, ?_⟩
  exact ⟨_, _, rfl, Int.mul_pos b0 d0, by omega, q⟩
theorem c_frac_times (D : DefB K mg "_law_frac_times" s_law_frac_times ["one", "other"]) (C1 : C8.Cal P w K mg base 2 "_law_frac" sp_frac []) : C8.Cal P w K mg base 3 "_law_frac_times" (sp_fop K numX) [] := by
  have S : C8.scC ["one", "other"] ["one", "other"] (C8.fnScope s_law_frac_times) = true := by decide +kernel
  refine calB D S (fun vs H Q E h => ?_) (fun f cdv A outer s H vs Q E hr h => ?_)
  · obtain ⟨_, _, _, _, _, _, rfl, _⟩ := h
    rfl
  obtain ⟨t, u, a, b, c, d, rfl, ht, hu, ha, hc, b0, b1, d0, d1, bd, q⟩ := h
  refine ⟨_, pss_one (ps_ret (C8.pe_c C1 hr (by decide) rfl (pa_cons (pe_op op_mul (t_it K (pv 0) pe_int) (t_it K (pv 1) pe_int)) (pa_cons (pe_op op_mul (t_it K (pv 0) pe_int) (t_it K (pv 1) pe_int)) pa_nil)))), ?_⟩
  refine ⟨_, rfl, t, _, 0, _, rfl, rfl, ht, atI_0 (n := 0) rfl, _, rfl, u, _, 0, _, rfl, rfl, hu, atI_0 (n := 0) rfl, _, _, rfl, rfl, .inl ha.w, ?_⟩
  refine ⟨_, rfl, t, _, 1, _, rfl, rfl, ht, atI_0 (n := 1) rfl, _, rfl, u, _, 1, _, rfl, rfl, hu, atI_0 (n := 1) rfl, _, _, rfl, rfl, .inl ⟨by omega, by omega⟩, ?_⟩
  exact ⟨_, _, rfl, Int.mul_pos b0 d0, by omega, q⟩
/-- a tuple that is a fraction -/
def sp_frac_is : Sp := fun vs H Q _ => ∃ t a b, vs = [.ref t] ∧ H t = some (.tup [.int a, .int b]) ∧ 1 ≤ b ∧ Nat.gcd a.natAbs b.natAbs = 1 ∧ ∀ H', Same H H' → Q (.bl true) H'
theorem c_frac_is (B : Blt mg) (D : DefB K mg "_law_frac_is" s_law_frac_is ["value"]) (C1 : C8.Cal P w K mg base 1 "_law_frac_common" sp_common []) : C8.Cal P w K mg base 2 "_law_frac_is" sp_frac_is [] := by
  have S : C8.scC ["value", "one"] ["value"] (C8.fnScope s_law_frac_is) = true := by decide +kernel
  have nd := (C8.fnScope_by S).nd
  refine calB D S (fun vs H Q E h => ?_) (fun f cdv A outer s H vs Q E hr h => ?_)
  · obtain ⟨_, _, _, rfl, _⟩ := h
    rfl
  obtain ⟨t, a, b, rfl, ht, hb, hg, q⟩ := h
  refine ⟨_, pss_cons (ps_if (PW.pt (pw_or (pt_not (pt_val (t_isi K B (pa_cons (pv 0) (pa_cons (t_ty B.tup PyProof.Rows.boot_tuple) pa_nil))))) (pw_or1 (pt_cmpR op_ne (t_len K B (pa_cons (pv 0) pa_nil)) pe_int (nomark _))))) (pss_one (ps_ret pe_bl)) pss_nil)
    (pss_cons (ps_if (PW.pt (pw_or (pt_not (pt_val (t_all K rfl B (pa_cons (pe_lc (own := [("one", 1)]) (g := gName 1) (tt := tYes) rfl nd (pi_tup (pv 0)) (blkOk_by (N := ["value", "one"]) (sc := C8.fnScope s_law_frac_is) (by decide +kernel)) (fun _ _ _ _ _ => pg_name (i := 1) nd rfl (.inl rfl)) (fun _ _ _ _ _ => pts_nil)
        (fun _ _ _ _ _ => pe_and (t_isi K B (pa_cons (pv 1) (pa_cons (t_ty (n := "int") B.int (by decide +kernel)) pa_nil))) (pe_one (pe_not (t_isi K B (pa_cons (pv 1) (pa_cons (t_ty (n := "bool") B.bool (by decide +kernel)) pa_nil))))))) pa_nil)))) (pw_or1 (pt_cmpR op_lt (t_it K (pv 0) pe_int) pe_int (nomark _))))) (pss_one (ps_ret pe_bl)) pss_nil)
    (pss_one (ps_ret (pe_cmpR op_eq (C8.pe_c C1 hr (by decide) rfl (pa_cons (t_it K (pv 0) pe_int) (pa_cons (t_it K (pv 0) pe_int) pa_nil))) pe_int (nomark _))))), ?_⟩
  refine ⟨_, rfl, _, _, _, _, true, rfl, .ty _, .base (.tup ht), kit_ty (by decide +kernel), true, rfl, iteF' rfl ?_⟩
  refine ⟨_, rfl, t, _, rfl, .inr (SqT.of ht), rfl, _, rfl, iteF' rfl ?_⟩
  refine ⟨_, rfl, t, rfl, ⟨_, SqT.of ht⟩, fun Dd hD => ?_⟩
  refine lc_fm (walk_tup (K := K) (a := t) (xs := [V.int a, V.int b])) (fun i => some (.bl true)) (by show 2 ≤ 100000; decide) hD (fun _ s1 => SqT.of (s1 _ _ ht)) ?_ ?_
  · rintro i x H3 H2 Kk Kn hi s2 ⟨rfl, hx⟩ k1 k2
    obtain ⟨z, rfl⟩ : ∃ z : Int, x = .int z := by
      match i, hi, hx with
      | 0, _, hx => exact ⟨a, (Option.some.inj hx).symm⟩
      | 1, _, hx => exact ⟨b, (Option.some.inj hx).symm⟩
    refine ⟨rfl, yes_if ?_⟩
    refine ⟨_, rfl, _, _, _, _, true, rfl, .ty _, .base (.int z), kit_ty (by decide +kernel), true, rfl, iteT' rfl ?_⟩
    refine ⟨_, rfl, _, _, _, _, false, rfl, .ty _, .base (.int z), kit_ty (by decide +kernel), false, rfl, ?_⟩
    exact k1 _ _ rfl (Same.refl _)
  · intro H2 s2 h2
    rw [range_const] at h2
    refine ⟨Dd, List.replicate 2 true, rfl, SqL.of (by rw [h2]; rfl), true, rfl, iteF' rfl ?_⟩
    have ht2 := s2 _ _ ht
    refine ⟨_, rfl, t, _, 1, _, rfl, rfl, SqT.of ht2, atI_0 (n := 1) rfl, _, _, rfl, rfl, _, rfl, iteF' (by simp; omega) ?_⟩
    refine ⟨_, rfl, t, _, 0, _, rfl, rfl, SqT.of ht2, atI_0 (n := 0) rfl, _, rfl, t, _, 1, _, rfl, rfl, SqT.of ht2, atI_0 (n := 1) rfl, a, b, rfl, rfl, ?_⟩
    rw [hg]
    exact q H2 s2
/-- the same fraction twice -/
def sp_frac_same : Sp := fun vs H Q _ => ∃ t u a b, vs = [.ref t, .ref u] ∧ H t = some (.tup [.int a, .int b]) ∧ H u = some (.tup [.int a, .int b]) ∧ 1 ≤ b ∧ Nat.gcd a.natAbs b.natAbs = 1 ∧ ∀ H', Same H H' → Q (.bl true) H'
theorem c_frac_same (B : Blt mg) (D : DefB K mg "_law_frac_same" s_law_frac_same ["value", "due"]) (C1 : C8.Cal P w K mg base 2 "_law_frac_is" sp_frac_is []) : C8.Cal P w K mg base 3 "_law_frac_same" sp_frac_same [] := by
  have S : C8.scC ["value", "due"] ["value", "due"] (C8.fnScope s_law_frac_same) = true := by decide +kernel
  refine calB D S (fun vs H Q E h => ?_) (fun f cdv A outer s H vs Q E hr h => ?_)
  · obtain ⟨_, _, _, _, rfl, _⟩ := h
    rfl
  obtain ⟨t, u, a, b, rfl, ht, hu, hb, hg, q⟩ := h
  refine ⟨_, pss_one (ps_ret (pe_and (C8.pe_c C1 hr (by decide) rfl (pa_cons (pv 0) pa_nil)) (pe_one (pe_cmpR (op_eqD hr.units) (pv 0) (pv 1) (nomark _))))), ?_⟩
  refine ⟨_, rfl, t, a, b, rfl, ht, hb, hg, fun H1 s1 => ⟨true, rfl, iteT' rfl ?_⟩⟩
  refine ⟨_, rfl, _, rfl, .tuple [.int a, .int b], .tuple [.int a, .int b], .tup (SqT.of (s1 _ _ ht)) (.cons (.int a) (.cons (.int b) .nil)), .tup (SqT.of (s1 _ _ hu)) (.cons (.int a) (.cons (.int b) .nil)), by kernel_rfl, by kernel_rfl, ?_⟩
  rw [show PyData.eqv (.tuple [.int a, .int b]) (.tuple [.int a, .int b]) = true from SeqAt.eqv_refl _ (by kernel_rfl)]
  exact q H1 s1
end
end G

/-! C6b -/
namespace G
open PySem PySem.Spec PyProof.Rows L2
def tkDelay : Step := fun dd ws dd' => ∃ z0 a b : Str, ∃ n : Nat, ws = [z0, a, b, numS n] ∧ n < 1000000000 ∧ (dd.rooms.lookup a).isSome = true ∧ (dd.rooms.lookup b).isSome = true ∧ a ≠ b ∧ dd.delays.lookup (a, b) = none ∧ n ≤ 99 ∧ dd.delays.length < 1000 ∧
  dd' = { dd with delays := putT dd.delays (a, b) n }
section
variable {P : Program} {w : World} {K : PySem.W.Frag} {mg : Str → Option Value} {base : Heap}
theorem c_take_delay {CD : Addr} (B : Blt mg) (F : ClsF K CD draftFN) (D : DefB K mg "take_delay" s_take_delay ["draft", "words"]) (C1 : C8.Cal P w K mg base 1 "read_integer" sp_read_integer []) (C2 : C8.Cal P w K mg base 2 "is_integer_from" sp_is_integer_from []) :
    C8.Cal P w K mg base 3 "take_delay" (sp_tk CD tkDelay) [] := by
  have S : C8.scC ["draft", "words", "one", "other", "ticks"] ["draft", "words"] (C8.fnScope s_take_delay) = true := by decide +kernel
  have nd := (C8.fnScope_by S).nd
  have nR := F.no "rooms" (by decide +kernel)
  have nL := F.no "delays" (by decide +kernel)
  refine calB D S (fun vs H Q E h => ?_) (fun f cdv Ar outer s H vs Q E hr h => ?_)
  · obtain ⟨_, _, _, _, _, _, _, rfl, _⟩ := h
    rfl
  obtain ⟨H0, d, A, dd, dd', wa, ws, rfl, R, hw, hwl, hwn, ht, q⟩ := h
  have hu := hu_of hr
  refine ⟨_, pss_cons (ps_if (pt_cmpR op_ne (t_len K B (pa_cons (pv 1) pa_nil)) pe_int (nomark _)) (pss_one (ps_ret pe_bl)) pss_nil)
    (pss_cons (ps_par3 (i := 2) (j := 3) (l := 4) rfl nd rfl rfl rfl (by decide) (by decide) (by decide) rfl rfl rfl (pa_cons (t_il K (pv 1) pe_int) (pa_cons (t_il K (pv 1) pe_int) (pa_cons (C8.pe_c C1 hr (by decide) rfl (pa_cons (t_il K (pv 1) pe_int) pa_nil)) pa_nil))) (by rfl))
    (pss_cons (ps_if (PW.pt (pw_or (pt_cmp (pc_dnotin hu (pv 2) (t_f K (pv 0)))) (pw_or (pt_cmp (pc_dnotin hu (pv 3) (t_f K (pv 0)))) (pw_or1 (pt_cmpR op_eq (pv 2) (pv 3) (nomark _)))))) (pss_one (ps_ret pe_bl)) pss_nil)
    (pss_cons (ps_if (PW.pt (pw_or (pt_cmp (pc_din hu (pe_tup (pa_cons (pv 2) (pa_cons (pv 3) pa_nil))) (t_f K (pv 0)))) (pw_or1 (pt_not (pt_val (C8.pe_c C2 hr (by decide) rfl (pa_cons (pv 4) (pa_cons pe_int (pa_cons pe_int pa_nil))))))))) (pss_one (ps_ret pe_bl)) pss_nil)
    (pss_cons (ps_dput hu (t_f K (pv 0)) (pe_tup (pa_cons (pv 2) (pa_cons (pv 3) pa_nil))) (pv 4) rfl)
    (pss_one (ps_ret pe_bl)))))), ?_⟩
  obtain ⟨z0, a, b, n, rfl, hn, ha, hb, hab, hlk, n2, l1, rfl⟩ := ht
  have hw' := R.s0 _ _ hw
  obtain ⟨dx, sv, hob, hsv⟩ := R.ob
  obtain ⟨kvs, r1, r2⟩ := R.rm
  refine ⟨_, rfl, wa, _, rfl, .inl (SqL.of hw'), rfl, _, rfl, iteF' rfl ?_⟩
  refine ⟨_, rfl, wa, _, 1, _, rfl, rfl, SqL.of hw', atI_0 (n := 1) rfl, _, rfl, wa, _, 2, _, rfl, rfl, SqL.of hw', atI_0 (n := 2) rfl, _, rfl, wa, _, 3, _, rfl, rfl, SqL.of hw', atI_0 (n := 3) rfl, n, rfl, hn, _, _, _, rfl, ?_⟩
  refine ⟨_, rfl, _, rfl, d, CD, dx, _, _, rfl, hob, F.cl, nR, df_rooms, A.rm, _, rfl, DGet.k (k := Sum.inr a) r1, _, rfl, ?_⟩
  rw [r2.isSome, ha]
  refine iteF' rfl ⟨_, rfl, _, rfl, d, CD, dx, _, _, rfl, hob, F.cl, nR, df_rooms, A.rm, _, rfl, DGet.k (k := Sum.inr b) r1, _, rfl, ?_⟩
  rw [r2.isSome, hb]
  refine iteF' rfl ⟨_, rfl, _, rfl, rfl, _, rfl, iteF' (decide_eq_false fun z => by injection z with z; exact hab z) ?_⟩
  refine ⟨_, rfl, _, rfl, by show 2 ≤ sizeLine; decide, fun p1 hp1 => ?_⟩
  have s1 := same_new (o := .tup [.str a, .str b]) hp1
  have t1 : (upd H p1 (.tup [.str a, .str b])) p1 = some (.tup [.str a, .str b]) := upd_same
  generalize upd H p1 (.tup [.str a, .str b]) = H1 at s1 t1
  have R1 := R.grow s1
  have dg1 := DGet.t (k := [.inr a, .inr b]) R1.dl t1
  rw [valV_lenT, hlk] at dg1
  refine ⟨_, rfl, d, CD, dx, _, _, rfl, s1 _ _ hob, F.cl, nL, df_delays, A.dl, _, rfl, dg1, _, rfl, iteF' rfl ?_⟩
  refine ⟨_, rfl, (n : Int), 0, 99, rfl, _, rfl, iteF' ?_ ?_⟩
  · rw [decide_eq_true (show (0 : Int) ≤ n by omega), decide_eq_true (show (n : Int) ≤ 99 by omega)]
    rfl
  refine ⟨_, rfl, _, rfl, d, CD, dx, _, _, rfl, s1 _ _ hob, F.cl, nL, df_delays, _, rfl, _, rfl, by show 2 ≤ sizeLine; decide, fun p3 hp3 => ?_⟩
  have s4 := same_new (o := .tup [.str a, .str b]) hp3
  have t4 : (upd H1 p3 (.tup [.str a, .str b])) p3 = some (.tup [.str a, .str b]) := upd_same
  generalize upd H1 p3 (.tup [.str a, .str b]) = H4 at s4 t4
  have R4 := R1.grow s4
  have d4 := DPut.t (k := [.inr a, .inr b]) (v := .int n) R4.dl t4 (by unfold lenT; rw [List.length_map, sizeLine_eq]; show dd.delays.length < _; omega)
  rw [lenT_put] at d4
  exact ⟨A.dl, _, rfl, d4, q _ (R4.setDelays (putT dd.delays (a, b) n))⟩
end
end G

/-! N1 -/
namespace G
open PySem PySem.Spec PyProof.Rows L2
/-! the text of an own court, line by line -/
def stepsAll : Nat → Option Step
  | 0 => some tkCourt
  | 1 => some tkStretch
  | 2 => some tkPlace
  | 3 => some tkWay
  | 4 => some tkPlayer
  | 5 => some tkDelay
  | 6 => some tkBall
  | _ => none
theorem tl_inj {a b : Str} (h : TL.tl a = TL.tl b) : a = b := PySem.W.str_of_cps h
theorem abc_no : (32 : Nat) ∉ abc.cps.toList ∧ (10 : Nat) ∉ abc.cps.toList := by decide +kernel
/-- a name has neither a blank nor a line feed -/
theorem name_free {z : Str} (h : nameOk z = true) : 32 ∉ TL.tl z ∧ 10 ∉ TL.tl z ∧ 1 ≤ z.length ∧ z.length ≤ 6 := by
  unfold nameOk at h
  simp only [Bool.and_eq_true, decide_eq_true_eq, List.all_eq_true] at h
  obtain ⟨h1, h2, h3⟩ := h
  exact ⟨fun m => abc_no.1 (h3 _ m), fun m => abc_no.2 (h3 _ m), by omega, by omega⟩
theorem nums_ok : ∀ n : Fin 100, 32 ∉ TL.tl (numS n.val) ∧ 10 ∉ TL.tl (numS n.val) ∧ (numS n.val).length ≤ 3 := by decide +kernel
theorem num_ok {n : Nat} (h : n < 100) : 32 ∉ TL.tl (numS n) ∧ 10 ∉ TL.tl (numS n) ∧ (numS n).length ≤ 3 := nums_ok ⟨n, h⟩
theorem split_words {ws : List Str} (ne : ws ≠ []) (h : ∀ p ∈ ws, 32 ∉ TL.tl p) : Txt.split (Txt.join " " ws) " " = ws :=
  TL.split_join (y := (" " : Str)) (s := 32) (S := []) (by decide +kernel) (by decide +kernel) ne h
theorem split_lines {ls : List Str} (ne : ls ≠ []) (h : ∀ p ∈ ls, 10 ∉ TL.tl p) : Txt.split (Txt.join "\n" ls) "\n" = ls :=
  TL.split_join (y := ("\n" : Str)) (s := 10) (S := []) (by decide +kernel) (by decide +kernel) ne h
theorem joinL_len (S : List Nat) : ∀ (l : List (List Nat)), (TL.joinL S l).length ≤ (l.map fun p => p.length + S.length).sum
  | [] => Nat.zero_le _
  | [p] => by simp [TL.joinL]
  | p :: q :: r => by
    have ih := joinL_len S (q :: r)
    show (p ++ (S ++ TL.joinL S (q :: r))).length ≤ _
    rw [List.length_append, List.length_append, List.map_cons, List.sum_cons]
    omega
theorem join_len (y : Str) (l : List Str) : (Txt.join y l).length ≤ (l.map fun p => p.length + y.length).sum := by
  have h : (TL.tl (Txt.join y l)).length ≤ ((l.map TL.tl).map fun p => p.length + (TL.tl y).length).sum := by
    rw [TL.join_eq, TL.tl_join]
    exact joinL_len (TL.tl y) (l.map TL.tl)
  rw [List.map_map] at h
  exact h
theorem sum_le {α : Type} (f : α → Nat) (b : Nat) : ∀ (l : List α), (∀ x ∈ l, f x ≤ b) → (l.map f).sum ≤ l.length * b
  | [], _ => by simp
  | x :: l, h => by
    have h1 := h x List.mem_cons_self
    have h2 := sum_le f b l fun y hy => h y (List.mem_cons_of_mem _ hy)
    rw [List.map_cons, List.sum_cons, List.length_cons, Nat.succ_mul]
    omega
theorem blank_len : (" " : Str).length = 1 := by decide +kernel
theorem feed_len : ("\n" : Str).length = 1 := by decide +kernel
theorem words_len {ws : List Str} {b : Nat} (h : ∀ x ∈ ws, x.length ≤ b) : (Txt.join " " ws).length ≤ ws.length * (b + 1) :=
  Nat.le_trans (join_len _ _) (sum_le _ _ _ fun x hx => by rw [blank_len]; have := h x hx; omega)
theorem mem_joinL {c : Nat} {S : List Nat} (hs : c ∉ S) : ∀ {l : List (List Nat)}, (∀ p ∈ l, c ∉ p) → c ∉ TL.joinL S l
  | [], _ => by simp [TL.joinL]
  | [p], h => by simpa [TL.joinL] using h p (by simp)
  | p :: q :: r, h => by
    have ih := mem_joinL hs (l := q :: r) fun x hx => h x (List.mem_cons_of_mem _ hx)
    show c ∉ p ++ (S ++ TL.joinL S (q :: r))
    rw [List.mem_append, List.mem_append]
    rintro (z | z | z)
    · exact h p (by simp) z
    · exact hs z
    · exact ih z
theorem words_no10 {ws : List Str} (h : ∀ p ∈ ws, 10 ∉ TL.tl p) : 10 ∉ TL.tl (Txt.join " " ws) := by
  rw [TL.join_eq, TL.tl_join]
  refine mem_joinL (by decide +kernel) fun p hp => ?_
  obtain ⟨q, hq, rfl⟩ := List.mem_map.mp hp
  exact h q hq
/-- a word, a blank, another one -/
theorem glue_words (k : Str) (ws : List Str) (ne : ws ≠ []) (kb : Str) (hk : TL.tl kb = TL.tl k ++ [32]) : kb ++ Txt.join " " ws = Txt.join " " (k :: ws) := by
  refine tl_inj ?_
  rw [TL.tl_append, TL.join_eq, TL.join_eq, TL.tl_join, TL.tl_join, hk]
  obtain ⟨x, xs, rfl⟩ := List.exists_cons_of_ne_nil ne
  have sp : TL.tl (" " : Str) = [32] := by decide +kernel
  rw [sp]
  show _ = TL.tl k ++ ([32] ++ TL.joinL [32] ((x :: xs).map TL.tl))
  rw [List.append_assoc]
theorem join_one (x : Str) : Txt.join " " [x] = x := by
  refine tl_inj ?_
  rw [TL.join_eq, TL.tl_join]
  rfl
theorem place_words (n : Str) : ("place " : Str) ++ n = Txt.join " " ["place", n] := by
  rw [← glue_words "place" [n] (by simp) "place " (by decide +kernel), join_one]
theorem putT_fresh {ln : List ((Str × Str) × Int)} {k : Str × Str} {n : Int} (h : ln.lookup k = none) : putT ln k n = ln ++ [(k, n)] := by
  unfold putT
  rw [if_neg]
  intro c
  obtain ⟨q, hq, e⟩ := List.any_eq_true.mp c
  have := (List.lookup_eq_none_iff.mp h) q hq
  simp only [decide_eq_true_eq] at e
  rw [e] at this
  simp at this
theorem putA_fresh {α : Type} {qs : List (Str × α)} {k : Str} {y : α} (h : qs.lookup k = none) : putA qs k y = qs ++ [(k, y)] := by
  unfold putA
  rw [if_neg]
  intro c
  obtain ⟨q, hq, e⟩ := List.any_eq_true.mp c
  have := (List.lookup_eq_none_iff.mp h) q hq
  simp only [decide_eq_true_eq] at e
  rw [e] at this
  simp at this
theorem lookup_none_of {α β : Type} [BEq α] [LawfulBEq α] {qs : List (α × β)} {k : α} (h : k ∉ qs.map (·.1)) : qs.lookup k = none := by
  rw [List.lookup_eq_none_iff]
  intro q hq
  have : ¬ k = q.1 := fun e => h (e ▸ List.mem_map_of_mem (f := (·.1)) hq)
  simp [this]
theorem lookup_some_of {α β : Type} [BEq α] [LawfulBEq α] {qs : List (α × β)} {k : α} (h : k ∈ qs.map (·.1)) : (qs.lookup k).isSome = true := by
  cases e : qs.lookup k with
  | some v => rfl
  | none =>
    obtain ⟨q, hq, rfl⟩ := List.mem_map.mp h
    have := (List.lookup_eq_none_iff.mp e) q hq
    simp at this
theorem name_word {z : Str} (h : nameOk z = true) : 32 ∉ TL.tl z ∧ z.length ≤ 10 := ⟨(name_free h).1, Nat.le_trans (name_free h).2.2.2 (by decide)⟩
theorem LinesTo.app {steps : Nat → Option Step} {d1 d2 d3 : DraftD} {a b : List Str} (h : LinesTo steps d1 a d2) (k : LinesTo steps d2 b d3) : LinesTo steps d1 (a ++ b) d3 := by
  induction h with
  | nil => exact k
  | cons h t ih => exact .cons h (ih k)
/-! the lines -/
theorem ln_court : lineStep stepsAll draft0 "court" { draft0 with counts := [1, 0, 0, 0, 0, 0, 0] } := ⟨0, "court", [], tkCourt, draft0, 0, by decide +kernel, rfl, rfl, by decide +kernel, rfl, ⟨rfl, rfl⟩, rfl, rfl, by decide +kernel, by decide, by decide +kernel, rfl⟩
abbrev dCt : DraftD := { draft0 with counts := [1, 0, 0, 0, 0, 0, 0] }
theorem ln_stretch {z1 z2 : Str} {a b c e : Nat} (f1 : fracWord z1 a b) (f2 : fracWord z2 c e) (h1 : a < 1000) (h2 : b < 1000) (h3 : c < 1000) (h4 : e < 1000) (g1 : fracOk a b = true) (g2 : fracOk c e = true) (g3 : strOk a b c e = true)
    (w1 : 32 ∉ TL.tl z1) (w2 : 32 ∉ TL.tl z2) (l1 : z1.length ≤ 10) (l2 : z2.length ≤ 10) :
    lineStep stepsAll dCt ("stretch " ++ Txt.join " " [z1, z2]) { dCt with kind := 1, counts := [1, 1, 0, 0, 0, 0, 0], stretch := some (a, b, c, e) } := by
  rw [glue_words "stretch" [z1, z2] (by simp) "stretch " (by decide +kernel)]
  have ww : ∀ p ∈ (["stretch", z1, z2] : List Str), 32 ∉ TL.tl p := fun p hp => by
    simp only [List.mem_cons, List.not_mem_nil, or_false] at hp
    rcases hp with rfl | rfl | rfl
    · decide +kernel
    · exact w1
    · exact w2
  have wl : ∀ p ∈ (["stretch", z1, z2] : List Str), p.length ≤ 10 := fun p hp => by
    simp only [List.mem_cons, List.not_mem_nil, or_false] at hp
    rcases hp with rfl | rfl | rfl
    · decide +kernel
    · exact l1
    · exact l2
  exact ⟨1, "stretch", [z1, z2], tkStretch, { dCt with stretch := some (a, b, c, e) }, 0, split_words (by simp) ww, rfl, rfl, by decide +kernel, rfl, ⟨"stretch", z1, z2, a, b, c, e, rfl, f1, f2, by omega, by omega, by omega, by omega, g1, g2, g3, rfl⟩, rfl, rfl, fun p hp => Nat.le_trans (wl p hp) (by decide), by show 3 ≤ 100; decide, Nat.le_trans (words_len wl) (by show 3 * 11 ≤ 4000; decide), rfl⟩
theorem ln_place {dd : DraftD} {c : Int} {n : Str} (hk : dd.kind ≤ 2) (hc : dd.counts = [1, 1, c, 0, 0, 0, 0]) (c0 : c < 12) (hn : nameOk n = true) (hf : n ∉ dd.places) (hl : dd.places.length < 100) :
    lineStep stepsAll dd ("place " ++ n) { dd with kind := 2, counts := [1, 1, c + 1, 0, 0, 0, 0], places := dd.places ++ [n] } := by
  have hnf := name_free hn
  rw [place_words]
  have ww : ∀ p ∈ (["place", n] : List Str), 32 ∉ TL.tl p := fun p hp => by
    simp only [List.mem_cons, List.not_mem_nil, or_false] at hp
    rcases hp with rfl | rfl
    · decide +kernel
    · exact hnf.1
  have wl : ∀ p ∈ (["place", n] : List Str), p.length ≤ 10 := fun p hp => by
    simp only [List.mem_cons, List.not_mem_nil, or_false] at hp
    rcases hp with rfl | rfl
    · decide +kernel
    · omega
  refine ⟨2, "place", [n], tkPlace, { dd with places := dd.places ++ [n] }, c, split_words (by simp) ww, rfl, rfl, ?_, by rw [hc]; rfl, ⟨"place", n, rfl, hn, hf, hl, rfl⟩, by show dd.counts[2]? = _; rw [hc]; rfl, by show dd.counts.length = 7; rw [hc]; rfl, fun p hp => Nat.le_trans (wl p hp) (by decide), by show 2 ≤ 100; decide, Nat.le_trans (words_len wl) (by show 2 * 11 ≤ 4000; decide), ?_⟩
  · unfold isTurn
    rw [hc, decide_eq_true hk]
    have : c ≠ 12 := by omega
    simp [mostL, leastL, List.range_succ, this]
  · show _ = DraftD.mk 2 (dd.counts.set 2 (c + 1)) _ _ _ _ _ _ _ _
    rw [hc]
    rfl
theorem lns_place : ∀ (ps : List Str) (dd : DraftD) (c : Int), dd.kind ≤ 2 → dd.counts = [1, 1, c, 0, 0, 0, 0] → c + ps.length ≤ 12 → (dd.places ++ ps).Nodup → (∀ p ∈ ps, nameOk p = true) → dd.places.length + ps.length < 100 →
    ∃ k, k ≤ 2 ∧ LinesTo stepsAll dd (ps.map fun p => "place " ++ p) { dd with kind := k, counts := [1, 1, c + ps.length, 0, 0, 0, 0], places := dd.places ++ ps }
  | [], dd, c, hk, hc, _, _, _, _ => by
    refine ⟨dd.kind, hk, ?_⟩
    have e : { dd with kind := dd.kind, counts := [1, 1, c + (([] : List Str).length : Nat), 0, 0, 0, 0], places := dd.places ++ [] } = dd := by
      rw [List.append_nil, show c + (([] : List Str).length : Nat) = c by simp, ← hc]
    rw [e]
    exact .nil
  | p :: ps, dd, c, hk, hc, h12, hnd, hok, hl => by
    rw [List.length_cons] at h12 hl
    have hp : p ∉ dd.places := fun m => by
      rw [List.nodup_append] at hnd
      exact hnd.2.2 p m p List.mem_cons_self rfl
    obtain ⟨k, k2, t⟩ := lns_place ps { dd with kind := 2, counts := [1, 1, c + 1, 0, 0, 0, 0], places := dd.places ++ [p] } (c + 1) (Nat.le_refl _) rfl (by omega) (by show ((dd.places ++ [p]) ++ ps).Nodup; rw [List.append_assoc]; exact hnd) (fun q hq => hok q (List.mem_cons_of_mem _ hq)) (by show (dd.places ++ [p]).length + ps.length < 100; rw [List.length_append]; simp; omega)
    refine ⟨k, k2, ?_⟩
    have := LinesTo.cons (ln_place hk hc (by omega) (hok p List.mem_cons_self) hp (by omega)) t
    rw [List.map_cons]
    rw [show c + 1 + (ps.length : Int) = c + ((p :: ps).length : Nat) by rw [List.length_cons]; omega, show (dd.places ++ [p]) ++ ps = dd.places ++ (p :: ps) by simp] at this
    exact this
end G

/-! N2 -/
namespace G
open PySem PySem.Spec PyProof.Rows L2
abbrev WayN := Str × Str × Nat
def lensOf (ws : List WayN) : LnD := ws.flatMap fun w => [((w.1, w.2.1), (w.2.2 : Int)), ((w.2.1, w.1), (w.2.2 : Int))]
def wayI (w : WayN) : Str × Str × Int := (w.1, w.2.1, (w.2.2 : Int))
def ownersOf (ps : List (Str × List Str)) : List (Str × Str) := ps.flatMap fun q => q.2.map fun p => (p, q.1)
def dlI (d : (Str × Str) × Nat) : (Str × Str) × Int := (d.1, (d.2 : Int))
theorem lensOf_append (a b : List WayN) : lensOf (a ++ b) = lensOf a ++ lensOf b := List.flatMap_append ..
theorem length_lensOf : ∀ ws : List WayN, (lensOf ws).length = 2 * ws.length
  | [] => rfl
  | w :: ws => by
    have := length_lensOf ws
    show (_ :: _ :: lensOf ws).length = _
    rw [List.length_cons, List.length_cons, List.length_cons]
    omega
def wayZ (w : WayN) : Str := Txt.join " " ["way", w.1, w.2.1, numS w.2.2]
def playerZ (q : Str × List Str) : Str := Txt.join " " ("player" :: q.1 :: q.2)
def delayZ (d : (Str × Str) × Nat) : Str := Txt.join " " ["delay", d.1.1, d.1.2, numS d.2]
def ballZ (b : Str × Str) : Str := Txt.join " " ["ball", b.1, b.2]
theorem four_words {k a b : Str} {n : Nat} (hk : 32 ∉ TL.tl k ∧ k.length ≤ 10) (ha : nameOk a = true) (hb : nameOk b = true) (hn : n < 100) : Txt.split (Txt.join " " [k, a, b, numS n]) " " = [k, a, b, numS n] ∧ (∀ p ∈ ([k, a, b, numS n] : List Str), p.length ≤ 10) := by
  have fa := name_free ha
  have fb := name_free hb
  have fn := num_ok hn
  refine ⟨split_words (by simp) fun p hp => ?_, fun p hp => ?_⟩
  · simp only [List.mem_cons, List.not_mem_nil, or_false] at hp
    rcases hp with rfl | rfl | rfl | rfl
    · exact hk.1
    · exact fa.1
    · exact fb.1
    · exact fn.1
  · simp only [List.mem_cons, List.not_mem_nil, or_false] at hp
    rcases hp with rfl | rfl | rfl | rfl
    · exact hk.2
    · omega
    · omega
    · have h : (numS n).length ≤ 3 := fn.2.2
      exact Nat.le_trans h (by decide)
theorem ln_way {dd : DraftD} {c np : Int} {w : WayN} (hk : dd.kind ≤ 3) (hc : dd.counts = [1, 1, np, c, 0, 0, 0]) (hp : 2 ≤ np) (c0 : c < 40) (ha : nameOk w.1 = true) (hb : nameOk w.2.1 = true) (hap : w.1 ∈ dd.places) (hbp : w.2.1 ∈ dd.places) (n1 : 1 ≤ w.2.2) (n2 : w.2.2 ≤ 99)
    (hab : w.1 ≠ w.2.1) (f1 : dd.lengths.lookup (w.1, w.2.1) = none) (f2 : dd.lengths.lookup (w.2.1, w.1) = none) (hl : dd.lengths.length < 1000) (hw : dd.ways.length < 1000) :
    lineStep stepsAll dd (wayZ w) { dd with kind := 3, counts := [1, 1, np, c + 1, 0, 0, 0], ways := dd.ways ++ [wayI w], lengths := dd.lengths ++ lensOf [w] } := by
  obtain ⟨a, b, n⟩ := w
  obtain ⟨sp, wl⟩ := four_words (k := "way") (by decide +kernel) ha hb (show n < 100 by have h : n ≤ 99 := n2; omega)
  have e : putT (putT dd.lengths (a, b) n) (b, a) n = dd.lengths ++ lensOf [(a, b, n)] := by
    rw [putT_fresh f1, putT_fresh]
    · rw [List.append_assoc]; rfl
    · rw [List.lookup_eq_none_iff] at f2 ⊢
      intro q hq
      rcases List.mem_append.mp hq with hq | hq
      · exact f2 q hq
      · have hq : q = ((a, b), (n : Int)) := by simpa using hq
        subst hq
        have : ¬ ((b, a) : Str × Str) = (a, b) := fun z => hab (congrArg Prod.snd z)
        simp [this]
  refine ⟨3, "way", [a, b, numS n], tkWay, { dd with ways := dd.ways ++ [wayI (a, b, n)], lengths := dd.lengths ++ lensOf [(a, b, n)] }, c, sp, rfl, rfl, ?_, by rw [hc]; rfl, ⟨"way", a, b, n, rfl, by have : n ≤ 99 := n2; omega, hap, hbp, hab, f1, n1, n2, hl, hw, by rw [e]; rfl⟩, by show dd.counts[3]? = _; rw [hc]; rfl, by show dd.counts.length = 7; rw [hc]; rfl, fun p hp => Nat.le_trans (wl p hp) (by decide), by show 4 ≤ 100; decide, Nat.le_trans (words_len wl) (by show 4 * 11 ≤ 4000; decide), ?_⟩
  · unfold isTurn
    rw [hc, decide_eq_true hk]
    have : c ≠ 40 := by omega
    simp [mostL, leastL, List.range_succ, this, hp]
  · show _ = DraftD.mk 3 (dd.counts.set 3 (c + 1)) _ _ _ _ _ _ _ _
    rw [hc]
    rfl
theorem lookup_app_none {α β : Type} [BEq α] {a b : List (α × β)} {k : α} (h1 : a.lookup k = none) (h2 : b.lookup k = none) : (a ++ b).lookup k = none := by
  rw [List.lookup_eq_none_iff] at *
  intro q hq
  rcases List.mem_append.mp hq with hq | hq
  · exact h1 q hq
  · exact h2 q hq
theorem lns_way : ∀ (ws : List WayN) (dd : DraftD) (c np : Int), dd.kind ≤ 3 → dd.counts = [1, 1, np, c, 0, 0, 0] → 2 ≤ np → c + ws.length ≤ 40 → (∀ w ∈ ws, nameOk w.1 = true ∧ nameOk w.2.1 = true ∧ w.1 ∈ dd.places ∧ w.2.1 ∈ dd.places ∧ 1 ≤ w.2.2 ∧ w.2.2 ≤ 99) → ((dd.lengths ++ lensOf ws).map (·.1)).Nodup →
    dd.lengths.length + 2 * ws.length < 1000 → dd.ways.length + ws.length < 1000 →
    ∃ k, k ≤ 3 ∧ LinesTo stepsAll dd (ws.map wayZ) { dd with kind := k, counts := [1, 1, np, c + ws.length, 0, 0, 0], ways := dd.ways ++ ws.map wayI, lengths := dd.lengths ++ lensOf ws }
  | [], dd, c, np, hk, hc, _, _, _, _, _, _ => by
    refine ⟨dd.kind, hk, ?_⟩
    have e : { dd with kind := dd.kind, counts := [1, 1, np, c + (([] : List WayN).length : Nat), 0, 0, 0], ways := dd.ways ++ ([] : List WayN).map wayI, lengths := dd.lengths ++ lensOf [] } = dd := by
      rw [show lensOf [] = [] from rfl, List.map_nil, List.append_nil, List.append_nil, show c + (([] : List WayN).length : Nat) = c by simp, ← hc]
    rw [e]
    exact .nil
  | w :: ws, dd, c, np, hk, hc, hp, h40, hok, hnd, hl, hw => by
    rw [List.length_cons] at h40 hl hw
    obtain ⟨o1, o2, o3, o4, o5, o6⟩ := hok w List.mem_cons_self
    have hsplit : dd.lengths ++ lensOf (w :: ws) = (dd.lengths ++ lensOf [w]) ++ lensOf ws := by rw [List.append_assoc]; rfl
    have hnd1 : ((dd.lengths ++ lensOf [w]).map (·.1)).Nodup := by
      rw [hsplit, List.map_append] at hnd
      exact (List.nodup_append.mp hnd).1
    have hk2 : (dd.lengths.map (·.1) ++ [(w.1, w.2.1), (w.2.1, w.1)]).Nodup := by rw [List.map_append] at hnd1; exact hnd1
    have hno := List.nodup_append.mp hk2
    have hab : w.1 ≠ w.2.1 := fun z => by
      have := hno.2.1
      rw [z] at this
      simp at this
    have f1 : dd.lengths.lookup (w.1, w.2.1) = none := lookup_none_of fun m => hno.2.2 _ m _ (by simp) rfl
    have f2 : dd.lengths.lookup (w.2.1, w.1) = none := lookup_none_of fun m => hno.2.2 _ m _ (by simp) rfl
    obtain ⟨k, k2, t⟩ := lns_way ws { dd with kind := 3, counts := [1, 1, np, c + 1, 0, 0, 0], ways := dd.ways ++ [wayI w], lengths := dd.lengths ++ lensOf [w] } (c + 1) np (Nat.le_refl _) rfl hp (by omega) (fun q hq => hok q (List.mem_cons_of_mem _ hq)) (by rw [← hsplit]; exact hnd) (by show (dd.lengths ++ lensOf [w]).length + _ < _; rw [List.length_append, length_lensOf]; simp; omega) (by show (dd.ways ++ [wayI w]).length + _ < _; rw [List.length_append]; simp; omega)
    refine ⟨k, k2, ?_⟩
    have := LinesTo.cons (ln_way hk hc hp (by omega) o1 o2 o3 o4 o5 o6 hab f1 f2 (by omega) (by omega)) t
    rw [List.map_cons, List.map_cons, hsplit, show dd.ways ++ (wayI w :: ws.map wayI) = (dd.ways ++ [wayI w]) ++ ws.map wayI by simp, show c + ((w :: ws).length : Nat) = c + 1 + (ws.length : Int) by rw [List.length_cons]; omega]
    exact this
theorem ownAll_fresh (n : Str) : ∀ (ps : List Str) (ow : List (Str × Str)), (ow.map (·.1) ++ ps).Nodup → ownAll n ps ow = ow ++ ps.map fun p => (p, n)
  | [], ow, _ => by simp [ownAll]
  | p :: ps, ow, h => by
    have hp : p ∉ ow.map (·.1) := fun m => (List.nodup_append.mp h).2.2 _ m _ List.mem_cons_self rfl
    show ownAll n ps (putA ow p n) = _
    rw [putA_fresh (lookup_none_of hp), ownAll_fresh n ps _ (by rw [List.map_append]; simpa using h), List.append_assoc]
    rfl
theorem ln_player {dd : DraftD} {c np nw : Int} {q : Str × List Str} (hk : dd.kind ≤ 4) (hc : dd.counts = [1, 1, np, nw, c, 0, 0]) (hp : 2 ≤ np) (hw : 1 ≤ nw) (c0 : c < 6) (hn : nameOk q.1 = true) (hr : ∀ p ∈ q.2, nameOk p = true ∧ p ∈ dd.places) (r1 : 1 ≤ q.2.length) (r2 : q.2.length < 50)
    (f1 : dd.rooms.lookup q.1 = none) (f2 : (dd.owners.map (·.1) ++ q.2).Nodup) (hl : dd.rooms.length < 1000) (ho : dd.owners.length + q.2.length < 1000) :
    lineStep stepsAll dd (playerZ q) { dd with kind := 4, counts := [1, 1, np, nw, c + 1, 0, 0], rooms := dd.rooms ++ [q], owners := dd.owners ++ ownersOf [q] } := by
  obtain ⟨n, room⟩ := q
  have ww : ∀ p ∈ (("player" :: n :: room) : List Str), 32 ∉ TL.tl p ∧ p.length ≤ 10 := fun p hp => by
    rcases List.mem_cons.mp hp with rfl | hp
    · decide +kernel
    rcases List.mem_cons.mp hp with rfl | hp
    · exact name_word hn
    · exact name_word (hr p hp).1
  have e1 : putA dd.rooms n room = dd.rooms ++ [(n, room)] := putA_fresh f1
  have e2 : ownAll n room dd.owners = dd.owners ++ ownersOf [(n, room)] := by
    rw [ownAll_fresh n room _ f2]
    show _ = _ ++ ((room.map fun p => (p, n)) ++ [])
    rw [List.append_nil]
  have hno := List.nodup_append.mp f2
  have r2' : room.length < 50 := r2
  refine ⟨4, "player", n :: room, tkPlayer, { dd with rooms := dd.rooms ++ [(n, room)], owners := dd.owners ++ ownersOf [(n, room)] }, c, split_words (by simp) fun p hp => (ww p hp).1, rfl, rfl, ?_, by rw [hc]; rfl,
    ⟨"player", n, room, rfl, r1, r2, hn, f1, hno.2.1, fun p hp => ⟨(hr p hp).2, lookup_none_of fun m => hno.2.2 _ m _ hp rfl⟩, hl, ho, by rw [e1, e2]⟩, by show dd.counts[4]? = _; rw [hc]; rfl, by show dd.counts.length = 7; rw [hc]; rfl, fun p hp => Nat.le_trans (ww p hp).2 (by decide), by rw [List.length_cons, List.length_cons]; omega, ?_, ?_⟩
  · unfold isTurn
    rw [hc, decide_eq_true hk]
    have : c ≠ 6 := by omega
    simp [mostL, leastL, List.range_succ, this, hp, hw]
  · refine Nat.le_trans (words_len (b := 10) fun p hp => (ww p hp).2) ?_
    rw [List.length_cons, List.length_cons]
    omega
  · show _ = DraftD.mk 4 (dd.counts.set 4 (c + 1)) _ _ _ _ _ _ _ _
    rw [hc]
    rfl
theorem ownersOf_append (a b : List (Str × List Str)) : ownersOf (a ++ b) = ownersOf a ++ ownersOf b := List.flatMap_append ..
theorem lns_player : ∀ (qs : List (Str × List Str)) (dd : DraftD) (c np nw : Int), dd.kind ≤ 4 → dd.counts = [1, 1, np, nw, c, 0, 0] → 2 ≤ np → 1 ≤ nw → c + qs.length ≤ 6 → (∀ q ∈ qs, nameOk q.1 = true ∧ (∀ p ∈ q.2, nameOk p = true ∧ p ∈ dd.places) ∧ 1 ≤ q.2.length ∧ q.2.length < 50) → ((dd.rooms ++ qs).map (·.1)).Nodup →
    ((dd.owners ++ ownersOf qs).map (·.1)).Nodup → dd.rooms.length + qs.length < 1000 → dd.owners.length + (ownersOf qs).length < 1000 →
    ∃ k, k ≤ 4 ∧ LinesTo stepsAll dd (qs.map playerZ) { dd with kind := k, counts := [1, 1, np, nw, c + qs.length, 0, 0], rooms := dd.rooms ++ qs, owners := dd.owners ++ ownersOf qs }
  | [], dd, c, np, nw, hk, hc, _, _, _, _, _, _, _, _ => by
    refine ⟨dd.kind, hk, ?_⟩
    have e : { dd with kind := dd.kind, counts := [1, 1, np, nw, c + (([] : List (Str × List Str)).length : Nat), 0, 0], rooms := dd.rooms ++ [], owners := dd.owners ++ ownersOf [] } = dd := by
      rw [show ownersOf [] = [] from rfl, List.append_nil, List.append_nil, show c + (([] : List (Str × List Str)).length : Nat) = c by simp, ← hc]
    rw [e]
    exact .nil
  | q :: qs, dd, c, np, nw, hk, hc, hp, hw, h6, hok, hnr, hno, hl, ho => by
    rw [List.length_cons] at h6 hl
    obtain ⟨o1, o2, o3, o4⟩ := hok q List.mem_cons_self
    have hs1 : ownersOf (q :: qs) = ownersOf [q] ++ ownersOf qs := by rw [← ownersOf_append]; rfl
    have hown : (ownersOf [q]).map (·.1) = q.2 := by
      show List.map (fun (x : Str × Str) => x.1) ((q.2.map fun p => ((p, q.1) : Str × Str)) ++ []) = q.2
      rw [List.append_nil, List.map_map]
      exact List.map_id' q.2
    have holen : (ownersOf [q]).length = q.2.length := by rw [← List.length_map (f := fun (x : Str × Str) => x.1), hown]
    rw [hs1, ← List.append_assoc] at hno
    rw [hs1, List.length_append, holen] at ho
    have hno1 : (dd.owners.map (·.1) ++ q.2).Nodup := by
      rw [List.map_append] at hno
      have := (List.nodup_append.mp hno).1
      rw [List.map_append, hown] at this
      exact this
    have f1 : dd.rooms.lookup q.1 = none := lookup_none_of fun m => by
      rw [List.map_append] at hnr
      exact (List.nodup_append.mp hnr).2.2 _ m _ (by simp) rfl
    obtain ⟨k, k2, t⟩ := lns_player qs { dd with kind := 4, counts := [1, 1, np, nw, c + 1, 0, 0], rooms := dd.rooms ++ [q], owners := dd.owners ++ ownersOf [q] } (c + 1) np nw (Nat.le_refl _) rfl hp hw (by omega) (fun r hr => hok r (List.mem_cons_of_mem _ hr)) (by show (((dd.rooms ++ [q]) ++ qs).map (·.1)).Nodup; rw [List.append_assoc]; exact hnr) hno (by show (dd.rooms ++ [q]).length + _ < _; rw [List.length_append]; simp; omega) (by show (dd.owners ++ ownersOf [q]).length + _ < _; rw [List.length_append, holen]; omega)
    refine ⟨k, k2, ?_⟩
    have := LinesTo.cons (ln_player hk hc hp hw (by omega) o1 o2 o3 o4 f1 hno1 (by omega) (by omega)) t
    rw [List.map_cons, hs1, ← List.append_assoc, show dd.rooms ++ q :: qs = (dd.rooms ++ [q]) ++ qs by simp, show c + ((q :: qs).length : Nat) = c + 1 + (qs.length : Int) by rw [List.length_cons]; omega]
    exact this
theorem ln_delay {dd : DraftD} {c np nw ny : Int} {d : (Str × Str) × Nat} (hk : dd.kind ≤ 5) (hc : dd.counts = [1, 1, np, nw, ny, c, 0]) (hp : 2 ≤ np) (hw : 1 ≤ nw) (hy : 2 ≤ ny) (c0 : c < 30) (ha : nameOk d.1.1 = true) (hb : nameOk d.1.2 = true) (hap : (dd.rooms.lookup d.1.1).isSome = true) (hbp : (dd.rooms.lookup d.1.2).isSome = true) (n2 : d.2 ≤ 99)
    (hab : d.1.1 ≠ d.1.2) (f1 : dd.delays.lookup d.1 = none) (hl : dd.delays.length < 1000) :
    lineStep stepsAll dd (delayZ d) { dd with kind := 5, counts := [1, 1, np, nw, ny, c + 1, 0], delays := dd.delays ++ [dlI d] } := by
  obtain ⟨⟨a, b⟩, n⟩ := d
  obtain ⟨sp, wl⟩ := four_words (k := "delay") (by decide +kernel) ha hb (show n < 100 by have : n ≤ 99 := n2; omega)
  have e : putT dd.delays (a, b) n = dd.delays ++ [dlI ((a, b), n)] := putT_fresh f1
  refine ⟨5, "delay", [a, b, numS n], tkDelay, { dd with delays := dd.delays ++ [dlI ((a, b), n)] }, c, sp, rfl, rfl, ?_, by rw [hc]; rfl, ⟨"delay", a, b, n, rfl, by have : n ≤ 99 := n2; omega, hap, hbp, hab, f1, n2, hl, by rw [e]⟩, by show dd.counts[5]? = _; rw [hc]; rfl, by show dd.counts.length = 7; rw [hc]; rfl, fun p hp => Nat.le_trans (wl p hp) (by decide), by show 4 ≤ 100; decide, Nat.le_trans (words_len wl) (by show 4 * 11 ≤ 4000; decide), ?_⟩
  · unfold isTurn
    rw [hc, decide_eq_true hk]
    have : c ≠ 30 := by omega
    simp [mostL, leastL, List.range_succ, this, hp, hw, hy]
  · show _ = DraftD.mk 5 (dd.counts.set 5 (c + 1)) _ _ _ _ _ _ _ _
    rw [hc]
    rfl
theorem lns_delay : ∀ (ds : List ((Str × Str) × Nat)) (dd : DraftD) (c np nw ny : Int), dd.kind ≤ 5 → dd.counts = [1, 1, np, nw, ny, c, 0] → 2 ≤ np → 1 ≤ nw → 2 ≤ ny → c + ds.length ≤ 30 → (∀ d ∈ ds, nameOk d.1.1 = true ∧ nameOk d.1.2 = true ∧ d.1.1 ∈ dd.rooms.map (·.1) ∧ d.1.2 ∈ dd.rooms.map (·.1) ∧ d.2 ≤ 99 ∧ d.1.1 ≠ d.1.2) →
    ((dd.delays ++ ds.map dlI).map (·.1)).Nodup → dd.delays.length + ds.length < 1000 →
    ∃ k, k ≤ 5 ∧ LinesTo stepsAll dd (ds.map delayZ) { dd with kind := k, counts := [1, 1, np, nw, ny, c + ds.length, 0], delays := dd.delays ++ ds.map dlI }
  | [], dd, c, np, nw, ny, hk, hc, _, _, _, _, _, _, _ => by
    refine ⟨dd.kind, hk, ?_⟩
    have e : { dd with kind := dd.kind, counts := [1, 1, np, nw, ny, c + (([] : List ((Str × Str) × Nat)).length : Nat), 0], delays := dd.delays ++ ([] : List ((Str × Str) × Nat)).map dlI } = dd := by
      rw [List.map_nil, List.append_nil, show c + (([] : List ((Str × Str) × Nat)).length : Nat) = c by simp, ← hc]
    rw [e]
    exact .nil
  | d :: ds, dd, c, np, nw, ny, hk, hc, hp, hw, hy, h30, hok, hnd, hl => by
    rw [List.length_cons] at h30 hl
    obtain ⟨o1, o2, o3, o4, o5, o6⟩ := hok d List.mem_cons_self
    have f1 : dd.delays.lookup d.1 = none := lookup_none_of fun m => by
      rw [List.map_append] at hnd
      exact (List.nodup_append.mp hnd).2.2 _ m d.1 (by simp [dlI]) rfl
    obtain ⟨k, k2, t⟩ := lns_delay ds { dd with kind := 5, counts := [1, 1, np, nw, ny, c + 1, 0], delays := dd.delays ++ [dlI d] } (c + 1) np nw ny (Nat.le_refl _) rfl hp hw hy (by omega) (fun r hr => hok r (List.mem_cons_of_mem _ hr)) (by show (((dd.delays ++ [dlI d]) ++ ds.map dlI).map (·.1)).Nodup; rw [List.append_assoc]; exact hnd) (by show (dd.delays ++ [dlI d]).length + _ < _; rw [List.length_append]; simp; omega)
    refine ⟨k, k2, ?_⟩
    have := LinesTo.cons (ln_delay hk hc hp hw hy (by omega) o1 o2 (lookup_some_of o3) (lookup_some_of o4) o5 o6 f1 (by omega)) t
    rw [List.map_cons, List.map_cons, show dd.delays ++ dlI d :: ds.map dlI = (dd.delays ++ [dlI d]) ++ ds.map dlI by simp, show c + ((d :: ds).length : Nat) = c + 1 + (ds.length : Int) by rw [List.length_cons]; omega]
    exact this
theorem ln_ball {dd : DraftD} {c np nw ny nl : Int} {b : Str × Str} (hk : dd.kind ≤ 6) (hc : dd.counts = [1, 1, np, nw, ny, nl, c]) (hp : 2 ≤ np) (hw : 1 ≤ nw) (hy : 2 ≤ ny) (h0 : 0 ≤ nl) (c0 : c < 6) (ha : nameOk b.1 = true) (hb : nameOk b.2 = true) (hbp : (dd.owners.lookup b.2).isSome = true)
    (f1 : dd.starts.lookup b.1 = none) (hl : dd.starts.length < 1000) :
    lineStep stepsAll dd (ballZ b) { dd with kind := 6, counts := [1, 1, np, nw, ny, nl, c + 1], starts := dd.starts ++ [b] } := by
  obtain ⟨n, p⟩ := b
  have ww : ∀ x ∈ (["ball", n, p] : List Str), 32 ∉ TL.tl x ∧ x.length ≤ 10 := fun x hx => by
    simp only [List.mem_cons, List.not_mem_nil, or_false] at hx
    rcases hx with rfl | rfl | rfl
    · decide +kernel
    · exact name_word ha
    · exact name_word hb
  have e : putA dd.starts n p = dd.starts ++ [(n, p)] := putA_fresh f1
  refine ⟨6, "ball", [n, p], tkBall, { dd with starts := dd.starts ++ [(n, p)] }, c, split_words (by simp) fun x hx => (ww x hx).1, rfl, rfl, ?_, by rw [hc]; rfl, ⟨"ball", n, p, rfl, ha, f1, hbp, hl, by rw [e]⟩, by show dd.counts[6]? = _; rw [hc]; rfl, by show dd.counts.length = 7; rw [hc]; rfl, fun x hx => Nat.le_trans (ww x hx).2 (by decide), by show 3 ≤ 100; decide, Nat.le_trans (words_len (b := 10) fun x hx => (ww x hx).2) (by show 3 * 11 ≤ 4000; decide), ?_⟩
  · unfold isTurn
    rw [hc, decide_eq_true hk]
    have : c ≠ 6 := by omega
    simp [mostL, leastL, List.range_succ, this, hp, hw, hy, h0]
  · show _ = DraftD.mk 6 (dd.counts.set 6 (c + 1)) _ _ _ _ _ _ _ _
    rw [hc]
    rfl
theorem lns_ball : ∀ (bs : List (Str × Str)) (dd : DraftD) (c np nw ny nl : Int), dd.kind ≤ 6 → dd.counts = [1, 1, np, nw, ny, nl, c] → 2 ≤ np → 1 ≤ nw → 2 ≤ ny → 0 ≤ nl → c + bs.length ≤ 6 → (∀ b ∈ bs, nameOk b.1 = true ∧ nameOk b.2 = true ∧ b.2 ∈ dd.owners.map (·.1)) →
    ((dd.starts ++ bs).map (·.1)).Nodup → dd.starts.length + bs.length < 1000 →
    ∃ k, k ≤ 6 ∧ LinesTo stepsAll dd (bs.map ballZ) { dd with kind := k, counts := [1, 1, np, nw, ny, nl, c + bs.length], starts := dd.starts ++ bs }
  | [], dd, c, np, nw, ny, nl, hk, hc, _, _, _, _, _, _, _, _ => by
    refine ⟨dd.kind, hk, ?_⟩
    have e : { dd with kind := dd.kind, counts := [1, 1, np, nw, ny, nl, c + (([] : List (Str × Str)).length : Nat)], starts := dd.starts ++ [] } = dd := by
      rw [List.append_nil, show c + (([] : List (Str × Str)).length : Nat) = c by simp, ← hc]
    rw [e]
    exact .nil
  | b :: bs, dd, c, np, nw, ny, nl, hk, hc, hp, hw, hy, h0, h6, hok, hnd, hl => by
    rw [List.length_cons] at h6 hl
    obtain ⟨o1, o2, o3⟩ := hok b List.mem_cons_self
    have f1 : dd.starts.lookup b.1 = none := lookup_none_of fun m => by
      rw [List.map_append] at hnd
      exact (List.nodup_append.mp hnd).2.2 _ m b.1 (by simp) rfl
    obtain ⟨k, k2, t⟩ := lns_ball bs { dd with kind := 6, counts := [1, 1, np, nw, ny, nl, c + 1], starts := dd.starts ++ [b] } (c + 1) np nw ny nl (Nat.le_refl _) rfl hp hw hy h0 (by omega) (fun r hr => hok r (List.mem_cons_of_mem _ hr)) (by show (((dd.starts ++ [b]) ++ bs).map (·.1)).Nodup; rw [List.append_assoc]; exact hnd) (by show (dd.starts ++ [b]).length + _ < _; rw [List.length_append]; simp; omega)
    refine ⟨k, k2, ?_⟩
    have := LinesTo.cons (ln_ball hk hc hp hw hy h0 (by omega) o1 o2 (lookup_some_of o3) f1 (by omega)) t
    rw [List.map_cons, show dd.starts ++ b :: bs = (dd.starts ++ [b]) ++ bs by simp, show c + ((b :: bs).length : Nat) = c + 1 + (bs.length : Int) by rw [List.length_cons]; omega]
    exact this
end G

/-! N3 -/
namespace G
open PySem PySem.Spec PyProof.Rows L2
/-- an own court, as data -/
structure OwnD where
  places : List Str
  ways : List WayN
  delays : List ((Str × Str) × Nat)
  low : Nat × Nat
  high : Nat × Nat
  players : List (Str × List Str)
  balls : List (Str × Str)
def frW (q : Nat × Nat) : Str := if q.2 = 1 then numS q.1 else numS q.1 ++ ("/" : Str) ++ numS q.2
def ownRows (o : OwnD) : List Str := "court" :: (("stretch " : Str) ++ Txt.join " " [frW o.low, frW o.high]) :: (o.places.map (fun (p : Str) => ("place " : Str) ++ p) ++ o.ways.map wayZ ++ o.players.map playerZ ++ o.delays.map delayZ ++ o.balls.map ballZ)
def ownText (o : OwnD) : Str := Txt.join "\n" (ownRows o)
def lows : List (Nat × Nat) := [(1, 2), (1, 2), (1, 3), (2, 3), (1, 10), (3, 4), (1, 1)]
def highs : List (Nat × Nat) := [(3, 2), (2, 1), (2, 1), (7, 3), (5, 4), (99, 1), (1, 1)]
structure OwnOk (o : OwnD) : Prop where
  p2 : 2 ≤ o.places.length
  p12 : o.places.length ≤ 12
  pn : o.places.Nodup
  pk : ∀ p ∈ o.places, nameOk p = true
  w1 : 1 ≤ o.ways.length
  w25 : o.ways.length ≤ 25
  wk : ∀ w ∈ o.ways, w.1 ∈ o.places ∧ w.2.1 ∈ o.places ∧ 1 ≤ w.2.2 ∧ w.2.2 ≤ 99
  wn : ((lensOf o.ways).map (·.1)).Nodup
  /-- every place but the first is joined to an earlier one -/
  wc : ∀ i, 1 ≤ i → i < o.places.length → ∃ j a b, j < i ∧ o.places[j]? = some a ∧ o.places[i]? = some b ∧ (a, b) ∈ (lensOf o.ways).map (·.1)
  y2 : 2 ≤ o.players.length
  y6 : o.players.length ≤ 6
  yk : ∀ q ∈ o.players, nameOk q.1 = true ∧ 1 ≤ q.2.length ∧ ∀ p ∈ q.2, p ∈ o.places
  yn : (o.players.map (·.1)).Nodup
  yo : ((ownersOf o.players).map (·.1)).Nodup
  dk : ∀ d ∈ o.delays, d.1.1 ∈ o.players.map (·.1) ∧ d.1.2 ∈ o.players.map (·.1) ∧ d.2 ≤ 99 ∧ d.1.1 ≠ d.1.2
  d30 : o.delays.length ≤ 30
  dn : (o.delays.map (·.1)).Nodup
  b1 : 1 ≤ o.balls.length
  b5 : o.balls.length ≤ 5
  bk : ∀ b ∈ o.balls, nameOk b.1 = true ∧ b.2 ∈ (ownersOf o.players).map (·.1)
  bn : (o.balls.map (·.1)).Nodup
  lo : o.low ∈ lows
  hi : o.high ∈ highs
theorem str_ok : ∀ l ∈ lows, ∀ h ∈ highs, strOk l.1 l.2 h.1 h.2 = true := by decide +kernel
theorem low_ok : ∀ l ∈ lows, fracOk l.1 l.2 = true ∧ l.1 < 1000 ∧ l.2 < 1000 ∧ 32 ∉ TL.tl (frW l) ∧ 10 ∉ TL.tl (frW l) ∧ (frW l).length ≤ 10 := by decide +kernel
theorem high_ok : ∀ l ∈ highs, fracOk l.1 l.2 = true ∧ l.1 < 1000 ∧ l.2 < 1000 ∧ 32 ∉ TL.tl (frW l) ∧ 10 ∉ TL.tl (frW l) ∧ (frW l).length ≤ 10 := by decide +kernel
theorem low_word : ∀ l ∈ lows, fracWord (frW l) l.1 l.2 := by
  unfold fracWord
  decide +kernel
theorem high_word : ∀ l ∈ highs, fracWord (frW l) l.1 l.2 := by
  unfold fracWord
  decide +kernel
/-! rows of ways lead everywhere -/
theorem sort_mem {xs : List Str} {k : Str} : k ∈ sortL xs ↔ k ∈ xs := by
  have : ∀ xs : List Str, (sortL xs).Perm xs := fun xs => by
    induction xs with
    | nil => exact .refl _
    | cons x r ih => exact (ins_perm x (sortL r)).trans (ih.cons x)
  exact (this xs).mem_iff
theorem sort_nodup {xs : List Str} (h : xs.Nodup) : (sortL xs).Nodup := by
  have : ∀ xs : List Str, (sortL xs).Perm xs := fun xs => by
    induction xs with
    | nil => exact .refl _
    | cons x r ih => exact (ins_perm x (sortL r)).trans (ih.cons x)
  exact (this xs).nodup_iff.mpr h
theorem near_mem {ln : LnD} {r : List Str} {b : Str} : b ∈ nearOf ln r ↔ b ∉ r ∧ ∃ a, a ∈ r ∧ (a, b) ∈ ln.map (·.1) := by
  unfold nearOf
  rw [List.mem_filterMap]
  constructor
  · rintro ⟨q, hq, e⟩
    by_cases c : q.1.1 ∈ r ∧ q.1.2 ∉ r
    · rw [if_pos c] at e
      cases e
      exact ⟨c.2, q.1.1, c.1, List.mem_map_of_mem (f := (·.1)) hq⟩
    · rw [if_neg c] at e
      cases e
  · rintro ⟨hb, a, ha, hm⟩
    obtain ⟨q, hq, e⟩ := List.mem_map.mp hm
    refine ⟨q, hq, ?_⟩
    have e1 : q.1.1 = a := congrArg Prod.fst e
    have e2 : q.1.2 = b := congrArg Prod.snd e
    rw [if_pos ⟨e1 ▸ ha, e2 ▸ hb⟩, e2]
theorem hang_all {ln : LnD} {ps : List Str} (hl : ln.length < 60) (hln : ∀ q ∈ ln, q.1.1 ∈ ps ∧ q.1.2 ∈ ps) (hps : ps.length ≤ 100)
    (hc : ∀ i, 1 ≤ i → i < ps.length → ∃ j a b, j < i ∧ ps[j]? = some a ∧ ps[i]? = some b ∧ (a, b) ∈ ln.map (·.1)) :
    ∀ (n m : Nat) (r : List Str), r.Nodup → (∀ x ∈ r, x ∈ ps) → (∀ i a, i < m → ps[i]? = some a → a ∈ r) → 1 ≤ m → ∃ r', hangLoop ln n r = some r' ∧ r'.Nodup ∧ (∀ x ∈ r', x ∈ ps) ∧ ∀ i a, i < m + n → ps[i]? = some a → a ∈ r'
  | 0, m, r, h1, h2, h3, _ => ⟨r, rfl, h1, h2, fun i a hi e => h3 i a (by omega) e⟩
  | n + 1, m, r, h1, h2, h3, hm => by
    have lr : r.length ≤ ps.length := h1.length_le_of_subset fun x hx => h2 x hx
    have ln1 : (nearOf ln r).length < 60 := Nat.lt_of_le_of_lt (List.length_filterMap_le _ _) hl
    have hd : (r ++ sortL (ddp (nearOf ln r))).Nodup := by
      rw [List.nodup_append]
      refine ⟨h1, sort_nodup ddp_nodup, fun a ha b hb e => ?_⟩
      subst e
      exact (near_mem.mp (ddp_mem.mp (sort_mem.mp hb))).1 ha
    have hs : ∀ x ∈ r ++ sortL (ddp (nearOf ln r)), x ∈ ps := fun x hx => by
      rcases List.mem_append.mp hx with hx | hx
      · exact h2 x hx
      · obtain ⟨_, a, _, hm⟩ := near_mem.mp (ddp_mem.mp (sort_mem.mp hx))
        obtain ⟨q, hq, e⟩ := List.mem_map.mp hm
        have e2 : q.1.2 = x := congrArg Prod.snd e
        exact e2 ▸ (hln q hq).2
    obtain ⟨r', e, g1, g2, g3⟩ := hang_all hl hln hps hc n (m + 1) _ hd hs (fun i a hi e => by
      by_cases c : i < m
      · exact List.mem_append_left _ (h3 i a c e)
      · have : i = m := by omega
        subst this
        obtain ⟨j, x, b, hj, ex, eb, hx⟩ := hc i hm (List.getElem?_eq_some_iff.mp e).1
        have eab : b = a := Option.some.inj (eb.symm.trans e)
        subst eab
        by_cases cb : b ∈ r
        · exact List.mem_append_left _ cb
        · exact List.mem_append_right _ (sort_mem.mpr (ddp_mem.mpr (near_mem.mpr ⟨cb, x, h3 j x hj ex, hx⟩)))) (by omega)
    refine ⟨r', ?_, g1, g2, fun i a hi e => g3 i a (by omega) e⟩
    show (if (nearOf ln r).length < 60 ∧ r.length < 1000 then hangLoop ln n (r ++ sortL (ddp (nearOf ln r))) else none) = some r'
    rw [if_pos ⟨ln1, by omega⟩]
    exact e
end G

/-! N4 -/
namespace G
open PySem PySem.Spec PyProof.Rows L2
/-- what a draft tells of an own court -/
structure TellsOwn (dd : DraftD) (o : OwnD) : Prop where
  st : dd.stretch = some ((o.low.1 : Int), (o.low.2 : Int), (o.high.1 : Int), (o.high.2 : Int))
  pl : dd.places = o.places
  wy : dd.ways = o.ways.map wayI
  ln : dd.lengths = lensOf o.ways
  rm : dd.rooms = o.players
  ow : dd.owners = ownersOf o.players
  dl : dd.delays = o.delays.map dlI
  bs : dd.starts = o.balls
theorem owner_room {ps : List (Str × List Str)} {p : Str} : p ∈ (ownersOf ps).map (·.1) ↔ ∃ q ∈ ps, p ∈ q.2 := by
  unfold ownersOf
  rw [List.mem_map]
  constructor
  · rintro ⟨x, hx, rfl⟩
    obtain ⟨q, hq, hx⟩ := List.mem_flatMap.mp hx
    obtain ⟨y, hy, rfl⟩ := List.mem_map.mp hx
    exact ⟨q, hq, hy⟩
  · rintro ⟨q, hq, hp⟩
    exact ⟨(p, q.1), List.mem_flatMap.mpr ⟨q, hq, List.mem_map.mpr ⟨p, hp, rfl⟩⟩, rfl⟩
theorem nodup_len_sub {xs ys : List Str} (h : xs.Nodup) (s : ∀ x ∈ xs, x ∈ ys) : xs.length ≤ ys.length := h.length_le_of_subset fun x hx => s x hx
theorem OwnOk.owners_len {o : OwnD} (h : OwnOk o) : (ownersOf o.players).length ≤ 12 := by
  have e : (ownersOf o.players).length = ((ownersOf o.players).map (·.1)).length := (List.length_map _).symm
  rw [e]
  refine Nat.le_trans (nodup_len_sub h.yo fun x hx => ?_) h.p12
  obtain ⟨q, hq, hp⟩ := owner_room.mp hx
  exact (h.yk q hq).2.2 x hp
theorem sub_nodup {q : Str × List Str} : ∀ {ps : List (Str × List Str)}, q ∈ ps → ((ownersOf ps).map (·.1)).Nodup → q.2.Nodup
  | r :: ps, hq, h => by
    have e : (ownersOf (r :: ps)).map (·.1) = r.2 ++ (ownersOf ps).map (·.1) := by
      show List.map (fun (x : Str × Str) => x.1) ((r.2.map fun p => ((p, r.1) : Str × Str)) ++ ownersOf ps) = _
      rw [List.map_append, List.map_map]
      exact congrArg (· ++ _) (List.map_id' r.2)
    rw [e] at h
    have h2 := List.nodup_append.mp h
    rcases List.mem_cons.mp hq with rfl | hq
    · exact h2.1
    · exact sub_nodup hq h2.2.1
theorem own_lines {o : OwnD} (h : OwnOk o) : ∃ dd, LinesTo stepsAll draft0 (ownRows o) dd ∧ TellsOwn dd o := by
  have lo := low_ok _ h.lo
  have hi := high_ok _ h.hi
  have s1 := ln_stretch (low_word _ h.lo) (high_word _ h.hi) lo.2.1 lo.2.2.1 hi.2.1 hi.2.2.1 lo.1 hi.1 (str_ok _ h.lo _ h.hi) lo.2.2.2.1 hi.2.2.2.1 lo.2.2.2.2.2 hi.2.2.2.2.2
  obtain ⟨k2, hk2, t2⟩ := lns_place o.places { dCt with kind := 1, counts := [1, 1, 0, 0, 0, 0, 0], stretch := some ((o.low.1 : Int), (o.low.2 : Int), (o.high.1 : Int), (o.high.2 : Int)) } 0 (by show 1 ≤ 2; decide) rfl (by have := h.p12; omega) h.pn h.pk (by have := h.p12; show 0 + o.places.length < 100; omega)
  have p2 := h.p2
  have p12 := h.p12
  have w25 := h.w25
  have w1 := h.w1
  obtain ⟨k3, hk3, t3⟩ := lns_way o.ways (⟨k2, [1, 1, 0 + (o.places.length : Int), 0, 0, 0, 0], some ((o.low.1 : Int), (o.low.2 : Int), (o.high.1 : Int), (o.high.2 : Int)), [] ++ o.places, [], [], [], [], [], []⟩ : DraftD) 0 (0 + o.places.length) (Nat.le_trans hk2 (by decide)) rfl (by omega) (by omega) (fun w hw => ⟨h.pk _ (h.wk w hw).1, h.pk _ (h.wk w hw).2.1, (h.wk w hw).1, (h.wk w hw).2.1, (h.wk w hw).2.2.1, (h.wk w hw).2.2.2⟩) h.wn (by show 0 + 2 * o.ways.length < 1000; omega) (by show 0 + o.ways.length < 1000; omega)
  have y2 := h.y2
  have y6 := h.y6
  have ol := h.owners_len
  obtain ⟨k4, hk4, t4⟩ := lns_player o.players (⟨k3, [1, 1, 0 + (o.places.length : Int), 0 + (o.ways.length : Int), 0, 0, 0], some ((o.low.1 : Int), (o.low.2 : Int), (o.high.1 : Int), (o.high.2 : Int)), [] ++ o.places, [] ++ o.ways.map wayI, [] ++ lensOf o.ways, [], [], [], []⟩ : DraftD) 0 (0 + o.places.length) (0 + o.ways.length) (Nat.le_trans hk3 (by decide)) rfl (by omega) (by omega) (by omega) (fun q hq => ⟨(h.yk q hq).1, fun p hp => ⟨h.pk _ ((h.yk q hq).2.2 p hp), (h.yk q hq).2.2 p hp⟩, (h.yk q hq).2.1, by have := nodup_len_sub (sub_nodup hq h.yo) (h.yk q hq).2.2; omega⟩) h.yn h.yo (by show 0 + o.players.length < 1000; omega) (by show 0 + (ownersOf o.players).length < 1000; omega)
  have d30 := h.d30
  have pname : ∀ {n : Str}, n ∈ o.players.map (·.1) → nameOk n = true := fun {n} hn => by
    obtain ⟨q, hq, rfl⟩ := List.mem_map.mp hn
    exact (h.yk q hq).1
  have dkeys : (o.delays.map dlI).map (·.1) = o.delays.map (·.1) := by
    rw [List.map_map]
    rfl
  obtain ⟨k5, hk5, t5⟩ := lns_delay o.delays (⟨k4, [1, 1, 0 + (o.places.length : Int), 0 + (o.ways.length : Int), 0 + (o.players.length : Int), 0, 0], some ((o.low.1 : Int), (o.low.2 : Int), (o.high.1 : Int), (o.high.2 : Int)), [] ++ o.places, [] ++ o.ways.map wayI, [] ++ lensOf o.ways, [] ++ o.players, [] ++ ownersOf o.players, [], []⟩ : DraftD) 0 (0 + o.places.length) (0 + o.ways.length) (0 + o.players.length) (Nat.le_trans hk4 (by decide)) rfl (by omega) (by omega) (by omega) (by omega)
    (fun d hd => ⟨pname (h.dk d hd).1, pname (h.dk d hd).2.1, (h.dk d hd).1, (h.dk d hd).2.1, (h.dk d hd).2.2.1, (h.dk d hd).2.2.2⟩) (by show (List.map (fun (x : (Str × Str) × Int) => x.1) (o.delays.map dlI)).Nodup; rw [dkeys]; exact h.dn) (by show 0 + o.delays.length < 1000; omega)
  have b5 := h.b5
  obtain ⟨k6, hk6, t6⟩ := lns_ball o.balls (⟨k5, [1, 1, 0 + (o.places.length : Int), 0 + (o.ways.length : Int), 0 + (o.players.length : Int), 0 + (o.delays.length : Int), 0], some ((o.low.1 : Int), (o.low.2 : Int), (o.high.1 : Int), (o.high.2 : Int)), [] ++ o.places, [] ++ o.ways.map wayI, [] ++ lensOf o.ways, [] ++ o.players, [] ++ ownersOf o.players, [] ++ o.delays.map dlI, []⟩ : DraftD) 0 (0 + o.places.length) (0 + o.ways.length) (0 + o.players.length) (0 + o.delays.length) (Nat.le_trans hk5 (by decide)) rfl (by omega) (by omega) (by omega) (by omega) (by omega)
    (fun b hb => ⟨(h.bk b hb).1, by
      obtain ⟨q, hq, hp⟩ := owner_room.mp (h.bk b hb).2
      exact h.pk _ ((h.yk q hq).2.2 _ hp), (h.bk b hb).2⟩) h.bn (by show 0 + o.balls.length < 1000; omega)
  refine ⟨_, .cons ln_court (.cons s1 (LinesTo.app (LinesTo.app (LinesTo.app (LinesTo.app t2 t3) t4) t5) t6)), rfl, rfl, rfl, rfl, rfl, rfl, rfl, rfl⟩
theorem row_short {o : OwnD} (h : OwnOk o) : ∀ z ∈ ownRows o, 10 ∉ TL.tl z ∧ z.length ≤ 300 := by
  intro z hz
  have wrd : ∀ (ws : List Str), (∀ x ∈ ws, 10 ∉ TL.tl x ∧ x.length ≤ 10) → ws.length ≤ 20 → 10 ∉ TL.tl (Txt.join " " ws) ∧ (Txt.join " " ws).length ≤ 300 := fun ws hw hl => ⟨words_no10 fun p hp => (hw p hp).1, Nat.le_trans (words_len (b := 10) fun p hp => (hw p hp).2) (by omega)⟩
  have nm : ∀ {x : Str}, nameOk x = true → 10 ∉ TL.tl x ∧ x.length ≤ 10 := fun {x} hx => ⟨(name_free hx).2.1, (name_word hx).2⟩
  have nb : ∀ {n : Nat}, n < 100 → 10 ∉ TL.tl (numS n) ∧ (numS n).length ≤ 10 := fun {n} hn => ⟨(num_ok hn).2.1, Nat.le_trans (num_ok hn).2.2 (by decide)⟩
  have p12 := h.p12
  have pname : ∀ {n : Str}, n ∈ o.players.map (·.1) → nameOk n = true := fun {n} hn => by
    obtain ⟨q, hq, rfl⟩ := List.mem_map.mp hn
    exact (h.yk q hq).1
  rcases List.mem_cons.mp hz with rfl | hz
  · decide +kernel
  rcases List.mem_cons.mp hz with rfl | hz
  · rw [glue_words "stretch" [frW o.low, frW o.high] (by simp) "stretch " (by decide +kernel)]
    have lo := low_ok _ h.lo
    have hi := high_ok _ h.hi
    refine wrd _ (fun x hx => ?_) (by show 3 ≤ 20; decide)
    simp only [List.mem_cons, List.not_mem_nil, or_false] at hx
    rcases hx with rfl | rfl | rfl
    · decide +kernel
    · exact ⟨lo.2.2.2.2.1, lo.2.2.2.2.2⟩
    · exact ⟨hi.2.2.2.2.1, hi.2.2.2.2.2⟩
  rcases List.mem_append.mp hz with hz | hz
  · rcases List.mem_append.mp hz with hz | hz
    · rcases List.mem_append.mp hz with hz | hz
      · rcases List.mem_append.mp hz with hz | hz
        · obtain ⟨p, hp, rfl⟩ := List.mem_map.mp hz
          show 10 ∉ TL.tl (("place " : Str) ++ p) ∧ (("place " : Str) ++ p).length ≤ 300
          rw [place_words]
          refine wrd _ (fun x hx => ?_) (by show 2 ≤ 20; decide)
          simp only [List.mem_cons, List.not_mem_nil, or_false] at hx
          rcases hx with rfl | rfl
          · decide +kernel
          · exact nm (h.pk _ hp)
        · obtain ⟨w, hw, rfl⟩ := List.mem_map.mp hz
          have k := h.wk w hw
          refine wrd _ (fun x hx => ?_) (by show 4 ≤ 20; decide)
          simp only [List.mem_cons, List.not_mem_nil, or_false] at hx
          rcases hx with rfl | rfl | rfl | rfl
          · decide +kernel
          · exact nm (h.pk _ k.1)
          · exact nm (h.pk _ k.2.1)
          · exact nb (by omega)
      · obtain ⟨q, hq, rfl⟩ := List.mem_map.mp hz
        have k := h.yk q hq
        have ql := nodup_len_sub (sub_nodup hq h.yo) k.2.2
        refine wrd _ (fun x hx => ?_) (by rw [List.length_cons, List.length_cons]; omega)
        rcases List.mem_cons.mp hx with rfl | hx
        · decide +kernel
        rcases List.mem_cons.mp hx with rfl | hx
        · exact nm k.1
        · exact nm (h.pk _ (k.2.2 _ hx))
    · obtain ⟨d, hd, rfl⟩ := List.mem_map.mp hz
      have k := h.dk d hd
      refine wrd _ (fun x hx => ?_) (by show 4 ≤ 20; decide)
      simp only [List.mem_cons, List.not_mem_nil, or_false] at hx
      rcases hx with rfl | rfl | rfl | rfl
      · decide +kernel
      · exact nm (pname k.1)
      · exact nm (pname k.2.1)
      · exact nb (by omega)
  · obtain ⟨b, hb, rfl⟩ := List.mem_map.mp hz
    have k := h.bk b hb
    refine wrd _ (fun x hx => ?_) (by show 3 ≤ 20; decide)
    simp only [List.mem_cons, List.not_mem_nil, or_false] at hx
    rcases hx with rfl | rfl | rfl
    · decide +kernel
    · exact nm k.1
    · obtain ⟨q, hq, hp⟩ := owner_room.mp k.2
      exact nm (h.pk _ ((h.yk q hq).2.2 _ hp))
theorem ownRows_len {o : OwnD} (h : OwnOk o) : (ownRows o).length ≤ 100 := by
  have := h.p12
  have := h.w25
  have := h.y6
  have := h.d30
  have := h.b5
  unfold ownRows
  simp only [List.length_cons, List.length_append, List.length_map]
  omega
theorem own_reads {o : OwnD} (h : OwnOk o) : ∃ dd, readsTo stepsAll (ownText o) dd ∧ sizesOk dd ∧ TellsOwn dd o := by
  obtain ⟨dd, t, T⟩ := own_lines h
  have rs := row_short h
  have rl := ownRows_len h
  have e : Txt.split (ownText o) "\n" = ownRows o := split_lines (List.cons_ne_nil _ _) fun p hp => (rs p hp).1
  have p2 := h.p2
  have p12 := h.p12
  have w25 := h.w25
  have lw : (lensOf o.ways).length < 60 := by rw [length_lensOf]; omega
  have lmem : ∀ q ∈ lensOf o.ways, q.1.1 ∈ o.places ∧ q.1.2 ∈ o.places := fun q hq => by
    obtain ⟨w, hw, hq⟩ := List.mem_flatMap.mp hq
    have k := h.wk w hw
    simp only [List.mem_cons, List.not_mem_nil, or_false] at hq
    rcases hq with rfl | rfl
    · exact ⟨k.1, k.2.1⟩
    · exact ⟨k.2.1, k.1⟩
  refine ⟨dd, ⟨?_, by rw [e]; omega, by rw [e]; exact t, ?_, by rw [T.ln]; omega, ?_⟩, ⟨by rw [T.pl]; omega, by rw [T.pl]; omega, by rw [T.rm]; have := h.y6; omega⟩, T⟩
  · refine Nat.le_trans (join_len _ _) (Nat.le_trans (sum_le _ 301 _ fun x hx => ?_) (by omega))
    rw [feed_len]
    have := (rs x hx).2
    omega
  · rw [T.bs]
    have := h.b1
    intro z
    rw [z] at this
    cases this
  · unfold hangs
    rw [T.pl, T.ln]
    obtain ⟨p, ps, ep⟩ : ∃ p ps, o.places = p :: ps := by
      cases e : o.places with
      | nil => rw [e] at p2; simp at p2
      | cons p ps => exact ⟨p, ps, rfl⟩
    have wc := h.wc
    have pn := h.pn
    rw [ep] at wc lmem pn p12 ⊢
    show (match hangLoop (lensOf o.ways) (p :: ps).length [p] with
      | none => false
      | some r => decide (r.length = (p :: ps).length)) = true
    obtain ⟨r, e2, g1, g2, g3⟩ := hang_all lw lmem (by omega) wc (p :: ps).length 1 [p] (by simp) (by simp) (fun i a hi e => by
      have : i = 0 := by omega
      subst this
      cases e
      simp) (Nat.le_refl _)
    rw [e2]
    refine decide_eq_true (Nat.le_antisymm (nodup_len_sub g1 g2) (nodup_len_sub pn fun x hx => ?_))
    obtain ⟨i, hi, e3⟩ := List.getElem_of_mem hx
    exact g3 i x (by omega) (by rw [List.getElem?_eq_getElem hi, e3])
end G

/-! G14 -/
namespace G
open PySem PySem.Spec PyProof.Rows L2
section
variable {X : Cx} {pins : List (Addr × Obj)} {σ : L2.St} {H : Hp} {s : Shared} {d : Addr} {o : Obj}
/-- the entries of a locked dict with tuple keys -/
theorem frzTV {kvs : List (List L2.Key × V)} (I : L2.Inv X pins σ H s) (h : H d = some (.frz o (.dT kvs))) :
    (d == sysModules) = false ∧ s.heap.get? d = some o ∧ o.ExactDict ∧ ∃ (es : Array DictEntry) (ep : Nat), o.data = .dict es ep ∧ es.size = kvs.length ∧
      ∀ (i : Nat) (k : List L2.Key) (v : V), kvs[i]? = some (k, v) → ∃ (en : DictEntry) (q : Addr), es[i]? = some en ∧ en.key = .ref q ∧ H q = some (.tup (k.map kV)) ∧ RelV v en.val := by
  obtain ⟨hd, z, hs, xs, pr, o', es, ep, ho, hx, hdt, he, _⟩ := I.hok d _ h
  rw [hd] at ho
  cases ho
  refine ⟨hs, hd, hx, es, ep, hdt, ?_, fun i k v e => ?_⟩
  · have l1 : es.size = xs.length := size_of_entries he
    have l2 : kvs.length = xs.length := Paired.length pr
    omega
  · obtain ⟨b, hb, e1, e2, e3⟩ := paired_get pr e
    have q := entry_at he i
    rw [hb] at q
    exact ⟨_, b.2.1, q, rfl, e2, e3⟩
end
/-- the pairs of the locked dict at d, each a new tuple of the key's own tuple and the value -/
def Itit (d : Addr) (o : Obj) (kvs : List (List L2.Key × V)) : It :=
  ⟨fun i H => H d = some (.frz o (.dT kvs)) ∧ i < kvs.length, fun i H x H' => ∃ T k v q, kvs[i]? = some (k, v) ∧ x = .ref T ∧ H T = none ∧ H q = some (.tup (k.map kV)) ∧ H' = upd H T (.tup [.ref q, v]), fun i H => H d = some (.frz o (.dT kvs)) ∧ kvs.length ≤ i⟩
section
variable {P : Program} {w : World} {K : PySem.W.Frag} {d : Addr} {o : Obj} {es : Array DictEntry} {ep : Nat}
theorem turn_itemsT {kvs : List (List L2.Key × V)} {elts : List Expr} {kk : Nat} {tpos : Pos} (it : Addr) (hod : o.data = .dict es ep) :
    Turn P w K (.Tuple elts kk tpos) (Itit d o kvs) [it] it (fun i h => ∃ ok ov, IsItemIter h it d i kvs.length ep ok ov) where
  mem := by simp
  obj := fun i h st b hb => by
    have e : b = it := by simpa using hb
    subst e
    obtain ⟨ok, ov, e⟩ := st
    exact ⟨_, e, fun v z => nomatch z⟩
  keep := fun i h h' st k => let ⟨ok, ov, e⟩ := st; ⟨ok, ov, k it (by simp) _ e⟩
  item := by
    intro X hP hw hK hc i pins s σ H E I hf st hg
    subst hP hw hK
    obtain ⟨hd, hi⟩ := hg
    obtain ⟨hs, hgd, hx, es', ep', hdt, hsz, ent⟩ := frzTV I hd
    obtain ⟨rfl, rfl⟩ := dict_ep hod hdt
    obtain ⟨⟨k, v⟩, hkv⟩ : ∃ p, kvs[i]? = some p := ⟨kvs[i], List.getElem?_eq_getElem hi⟩
    obtain ⟨en, q, hen, hkey, hq, hv⟩ := ent i k v hkv
    obtain ⟨ok, ov, he⟩ := st
    rw [← hsz] at he
    have hi' : i < es'.size := by omega
    have een : es'[i] = en := by
      rw [Array.getElem?_eq_getElem hi'] at hen
      exact Option.some.inj hen
    have hlt : it < s.heap.objs.size := Heap.lt_size he
    refine DT.nextI he ⟨o, hgd, hx, hdt⟩ hi' fun h' ho hT hz hk => ?_
    rw [een, hkey] at hT
    rw [een] at ho
    refine ⟨_, rfl, wpAny_letOwnedTupleGo_items (s := { s with heap := h' }) ho fun h'' he' sb => ?_⟩
    have hT2 : h''.get? s.heap.objs.size = some { cls := .type "tuple", data := .seq #[.ref q, en.val] } := (sb.2 _ (Nat.ne_of_gt hlt)).trans hT
    have new : ObjOk X.prog X.w (upd H s.heap.objs.size (.tup [.ref q, v])) h'' s.heap.objs.size (.tup [.ref q, v]) :=
      ⟨by show 2 ≤ sizeLine; decide, [.ref q, en.val], .cons rfl (.cons hv .nil), ⟨_, hT2, rfl, _, rfl⟩⟩
    have I1 : L2.Inv X pins σ (upd H s.heap.objs.size (.tup [.ref q, v])) { s with heap := h'' } :=
      I.turnedNew (t' := s.toks) (ch := [it]) (fun b ob hb e => (sb.2 b (by simpa using hb)).trans (hk b ob (by simpa using hb) e)) hf (Nat.le_refl _) new
    refine ⟨.ref s.heap.objs.size, _, I1, rfl, ⟨_, k, v, q, hkv, rfl, I.hok.fresh (Nat.le_refl _), hq, rfl⟩, ⟨en.key, en.val, ?_⟩, fun b hb => ?_⟩
    · rw [← hsz]; exact he'
    · have e : b = it := by simpa using hb
      rw [e, upd_ne (Nat.ne_of_lt hlt)]
      exact (hf it (by simp)).1
  done := by
    intro X hP hw hK hc i pins s σ H E I hf st hg
    subst hP hw hK
    obtain ⟨hd, hi⟩ := hg
    obtain ⟨f0, f1, f2, f3, f4, f5⟩ := hf it (by simp)
    obtain ⟨hs, hgd, hx, es', ep', hdt, hsz, ent⟩ := frzTV I hd
    obtain ⟨rfl, rfl⟩ := dict_ep hod hdt
    obtain ⟨ok, ov, he⟩ := st
    rw [← hsz] at he
    exact DT.endI (I.ok.hd hc) he ⟨o, hgd, hx, hdt⟩ (by omega) fun h' eb => ⟨rfl, I.turned (t' := s.toks) (fun b ob hb e => eb b ob hb e) f0 f1 f3 f4 f5⟩
  self := fun A i s Q E st h => let ⟨_, _, e⟩ := st; PySem.W.kcp_self e h
end
def iItemsT (td : TE) : TI := fun σ H R => td σ H fun x H1 => ∃ d o kvs, x = .ref d ∧ H1 d = some (.frz o (.dT kvs)) ∧ R (Itit d o kvs) H1
section
variable {X : Cx} {e : Expr} {td : TE} {apos cpos : Pos}
theorem pi_itemsT {elts : List Expr} {kk : Nat} {tpos : Pos} (he : PE X e td) (hbase : attributeBase e "items" X.env (eval e X.env) = eval e X.env := by rfl) (hline : (apos.endLine == cpos.line) = true := by rfl) :
    PI X (.Tuple elts kk tpos) (.Call (.Attribute e "items" apos) [] [] cpos) (iItemsT td) := by
  refine ⟨fun pins s σ H R I h => ?_⟩
  refine wpAny_Call_method (T := "dict") (id := "dict.items") hbase rfl hline F.plainAttrs_dict F.slot_dict_items F.type_dict_items (thn (he.run pins s σ H _ I h) fun u s1 ⟨x, H1, I1, rx, d, o, kvs, ex, hd, q⟩ => ?_)
  subst ex
  obtain rfl : u = Value.ref d := rx
  obtain ⟨hs, hgd, hx, es, ep, hdt, hsz, ent⟩ := frzTV I1 hd
  have raw : DT.Raw s1.heap d es ep := ⟨o, hgd, hx, hdt⟩
  have I2 : L2.Inv X pins σ H1 { s1 with heap := s1.heap.push { cls := .type "dict_items", data := .fields #[.ref d] } } := I1.kept (t' := s1.toks) fun b ob q => Heap.get?_push_of_some _ q
  have fin : wpAny (model X.prog X.w) X.A (pyIter (.ref s1.heap.objs.size)) (PIE X pins σ (.Tuple elts kk tpos) R) X.xe { s1 with heap := s1.heap.push { cls := .type "dict_items", data := .fields #[.ref d] } } := by
    refine DT.iterI (d := d) (es := es) (ep := ep) ⟨_, Heap.get?_push_size _ rfl, rfl, rfl⟩ (raw.push _) (pi_one (tk := s1.toks) I2 _ (turn_itemsT _ hdt) ⟨.none, .none, ?_⟩ q)
    rw [← hsz]
    exact Heap.get?_push_size _ rfl
  refine ⟨raw.typeIs, ?_, ?_⟩
  · intro a ea
    cases ea
    exact ⟨o, hgd, hx.2.1⟩
  show wpAny _ _ (callWith cpos (.builtin "dict.items") [.ref d] [] []) _ X.xe s1
  exact method_meetsIn F.slot_dict_items F.entry_dict_items rfl (PySem.evalArgs_none ⟨rfl, raw.typeIs, F.args_dict_items_1 _, _, DT.meetsItems (es := es) (ep := ep) hs, raw, fin⟩)
end
theorem walk_itemsT {d : Addr} {o : Obj} {kvs : List (List L2.Key × V)} : Walk (Itit d o kvs) kvs.length (fun H => H d = some (.frz o (.dT kvs))) (fun i H x H' => ∃ T k v q, kvs[i]? = some (k, v) ∧ x = .ref T ∧ H T = none ∧ H q = some (.tup (k.map kV)) ∧ H' = upd H T (.tup [.ref q, v])) := by
  refine ⟨fun i _ hi q => ⟨q, hi⟩, fun _ q => ⟨q, Nat.le_refl _⟩, fun i H v H' _ q y => y⟩
end G

/-! F2 -/
namespace G
open PySem PySem.Spec PyProof.Rows L2
/-- a player's row: the name and a list of places -/
abbrev RmL (H : Hp) (t : Addr) (q : Str × List Str) : Prop := ∃ u, H t = some (.tup [.str q.1, .ref u]) ∧ H u = some (.lst (q.2.map V.str))
/-- an own court, in memory -/
structure OwnAt (H : Hp) (d : Addr) (o : OwnD) : Prop where
  ex : ∃ (pl wy dl st sl sh ps bl : Addr) (ws ys bs : List Addr), H d = some (.dK [(.inr "places", .ref pl), (.inr "ways", .ref wy), (.inr "delays", .ref dl), (.inr "stretch", .ref st), (.inr "players", .ref ps), (.inr "balls", .ref bl)]) ∧
    H pl = some (.lst (o.places.map V.str)) ∧ (H wy = some (.lst (ws.map V.ref)) ∧ Paired (WayAt H) ws (o.ways.map wayI)) ∧ H dl = some (.dT (lenT (o.delays.map dlI))) ∧
    H st = some (.tup [.ref sl, .ref sh]) ∧ H sl = some (.tup [.int o.low.1, .int o.low.2]) ∧ H sh = some (.tup [.int o.high.1, .int o.high.2]) ∧
    (H ps = some (.lst (ys.map V.ref)) ∧ Paired (RmL H) ys o.players) ∧ (H bl = some (.lst (bs.map V.ref)) ∧ Paired (PrAt H) bs o.balls)
theorem OwnAt.stay {H H' : Hp} {d : Addr} {o : OwnD} (h : OwnAt H d o) (s : Same H H') : OwnAt H' d o := by
  obtain ⟨pl, wy, dl, st, sl, sh, ps, bl, ws, ys, bs, h1, h2, ⟨h3, h3b⟩, h4, h5, h6, h7, ⟨h8, h8b⟩, ⟨h9, h9b⟩⟩ := h.ex
  exact ⟨pl, wy, dl, st, sl, sh, ps, bl, ws, ys, bs, s _ _ h1, s _ _ h2, ⟨s _ _ h3, Paired.mapP h3b fun _ _ z => s _ _ z⟩, s _ _ h4, s _ _ h5, s _ _ h6, s _ _ h7, ⟨s _ _ h8, Paired.mapP h8b fun _ _ ⟨u, z1, z2⟩ => ⟨u, s _ _ z1, s _ _ z2⟩⟩, ⟨s _ _ h9, Paired.mapP h9b fun _ _ z => s _ _ z⟩⟩
theorem log_small : ∀ n : Fin 1000, (n.val : Int).natAbs.log2 < 1920 := by decide +kernel
theorem log_ok {n : Nat} (h : n < 1000) : ((n : Nat) : Int).natAbs.log2 < 1920 := log_small ⟨n, h⟩
theorem numS_len3 : ∀ n : Fin 1000, (numS n.val).length ≤ 4 := by decide +kernel
theorem numS_l {n : Nat} (h : n < 1000) : (numS n).length ≤ 4 := numS_len3 ⟨n, h⟩
section
variable {P : Program} {w : World} {K : PySem.W.Frag} {mg : Str → Option Value} {base : Heap}
def sp_frac_text : Sp := fun vs H Q _ => ∃ (t : Addr) (q : Nat × Nat), vs = [.ref t] ∧ H t = some (.tup [.int q.1, .int q.2]) ∧ q.1 < 1000 ∧ q.2 < 1000 ∧ Q (.str (frW q)) H
theorem c_frac_text (B : Blt mg) (D : DefB K mg "_law_frac_text" s_law_frac_text ["one"]) : C8.Cal P w K mg base 1 "_law_frac_text" sp_frac_text [] := by
  have S : C8.scC ["one"] ["one"] (C8.fnScope s_law_frac_text) = true := by decide +kernel
  refine calB D S (fun vs H Q E h => ?_) (fun f cdv A outer s H vs Q E hr h => ?_)
  · obtain ⟨_, _, rfl, _⟩ := h
    rfl
  obtain ⟨t, q, rfl, ht, h1, h2, k⟩ := h
  refine ⟨_, pss_one (ps_ret (pe_ifExp (pt_cmpR op_eq (t_it K (pv 0) pe_int) pe_int (nomark _)) (pe_callTy call_str_int (by rfl) B.str PyProof.Rows.boot_str (pa_cons (pe_callTy call_int1 (by rfl) B.int (by decide +kernel) (pa_cons (t_it K (pv 0) pe_int) pa_nil)) pa_nil))
    (pe_op op_add_str (pe_op op_add_str (pe_callTy call_str_int (by rfl) B.str PyProof.Rows.boot_str (pa_cons (pe_callTy call_int1 (by rfl) B.int (by decide +kernel) (pa_cons (t_it K (pv 0) pe_int) pa_nil)) pa_nil)) pe_str) (pe_callTy call_str_int (by rfl) B.str PyProof.Rows.boot_str (pa_cons (pe_callTy call_int1 (by rfl) B.int (by decide +kernel) (pa_cons (t_it K (pv 0) pe_int) pa_nil)) pa_nil))))), ?_⟩
  refine ⟨_, rfl, t, _, 1, _, rfl, rfl, SqT.of ht, atI_0 (n := 1) rfl, rfl, _, rfl, ?_⟩
  unfold frW at k
  by_cases c : q.2 = 1
  · rw [if_pos c] at k
    refine iteT' (by rw [c]; rfl) ?_
    exact ⟨_, rfl, t, _, 0, _, rfl, rfl, SqT.of ht, atI_0 (n := 0) rfl, .inl ⟨_, rfl, _, rfl, log_ok h1, k⟩⟩
  · rw [if_neg c] at k
    refine iteF' (decide_eq_false fun z => by injection z with z; omega) ?_
    have l1 := numS_l h1
    have l2 := numS_l h2
    have l3 : ("/" : Str).length = 1 := by decide +kernel
    have l4 : (numS q.1 ++ ("/" : Str)).length = (numS q.1).length + 1 := by rw [Str.length_append, l3]
    refine ⟨_, rfl, t, _, 0, _, rfl, rfl, SqT.of ht, atI_0 (n := 0) rfl, .inl ⟨_, rfl, _, rfl, log_ok h1, _, _, rfl, rfl, by rw [l3, sizeLine_eq]; show (numS q.1).length + 1 ≤ _; omega, ?_⟩⟩
    refine ⟨_, rfl, t, _, 1, _, rfl, rfl, SqT.of ht, atI_0 (n := 1) rfl, .inl ⟨_, rfl, _, rfl, log_ok h2, _, _, rfl, rfl, ?_, k⟩⟩
    show (numS q.1 ++ ("/" : Str)).length + (numS q.2).length ≤ sizeLine
    rw [l4, sizeLine_eq]
    omega
end
end G

/-! Y1 -/
namespace G
open PySem PySem.Spec PyProof.Rows L2
/-! what a drawn court is, in words -/
def poolN : List Str := ["a", "b", "c", "d", "e", "f", "hall", "post", "x", "y"]
def poolP : List Str := ["ann", "bob", "cid", "dora", "eve", "fay"]
def poolB : List Str := ["x", "y", "z", "w"]
theorem poolN_ok : (∀ p ∈ poolN, nameOk p = true) ∧ poolN.Nodup := by decide +kernel
theorem poolP_ok : (∀ p ∈ poolP, nameOk p = true) ∧ poolP.Nodup := by decide +kernel
theorem poolB_ok : (∀ p ∈ poolB, nameOk p = true) ∧ poolB.Nodup := by decide +kernel
theorem str_inj {a b : Str} (h : V.str a = V.str b) : a = b := by injection h
theorem nodup_str {xs : List Str} (h : xs.Nodup) : (xs.map V.str).Nodup := by
  unfold List.Nodup at h ⊢
  rw [List.pairwise_map]
  exact h.imp fun n e => n (str_inj e)
theorem nodup_of_str {xs : List Str} (h : (xs.map V.str).Nodup) : xs.Nodup := by
  unfold List.Nodup at h ⊢
  rw [List.pairwise_map] at h
  exact h.imp fun n e => n (congrArg _ e)
theorem strs_of {pool : List Str} : ∀ {fs : List V}, (∀ v ∈ fs, v ∈ pool.map V.str) → ∃ ns : List Str, fs = ns.map V.str ∧ ∀ n ∈ ns, n ∈ pool
  | [], _ => ⟨[], rfl, fun n h => by cases h⟩
  | v :: fs, h => by
    obtain ⟨ns, rfl, hn⟩ := strs_of fun x hx => h x (List.mem_cons_of_mem _ hx)
    obtain ⟨s, hs, rfl⟩ := List.mem_map.mp (h v List.mem_cons_self)
    exact ⟨s :: ns, rfl, fun n hn2 => by
      rcases List.mem_cons.mp hn2 with rfl | hn2
      · exact hs
      · exact hn n hn2⟩
theorem draws_str {pool : List Str} {fs rs : List V} (h : (fs ++ rs).Perm (pool.map V.str)) (nd : pool.Nodup) : ∃ ns : List Str, fs = ns.map V.str ∧ ns.Nodup ∧ ∀ n ∈ ns, n ∈ pool := by
  obtain ⟨ns, rfl, hn⟩ := strs_of (pool := pool) (fs := fs) fun v hv => h.mem_iff.mp (List.mem_append_left _ hv)
  have n2 := h.nodup_iff.mpr (nodup_str nd)
  exact ⟨ns, rfl, nodup_of_str (List.nodup_append.mp n2).1, hn⟩
/-! ways -/
def hasBoth (a b : Str) (w : WayN) : Bool := (decide (a = w.1) || decide (a = w.2.1)) && (decide (b = w.1) || decide (b = w.2.1))
structure WaysOk (ns : List Str) (ws : List WayN) : Prop where
  ends : ∀ w ∈ ws, w.1 ∈ ns ∧ w.2.1 ∈ ns ∧ 1 ≤ w.2.2 ∧ w.2.2 ≤ 99
  keys : ((lensOf ws).map (·.1)).Nodup
theorem mem_keys {k : Str × Str} {ws : List WayN} : k ∈ (lensOf ws).map (·.1) ↔ ∃ w ∈ ws, k = (w.1, w.2.1) ∨ k = (w.2.1, w.1) := by
  unfold lensOf
  rw [List.mem_map]
  constructor
  · rintro ⟨x, hx, rfl⟩
    obtain ⟨w, hw, hx⟩ := List.mem_flatMap.mp hx
    refine ⟨w, hw, ?_⟩
    simp only [List.mem_cons, List.not_mem_nil, or_false] at hx
    rcases hx with rfl | rfl
    · exact .inl rfl
    · exact .inr rfl
  · rintro ⟨w, hw, rfl | rfl⟩
    · exact ⟨((w.1, w.2.1), (w.2.2 : Int)), List.mem_flatMap.mpr ⟨w, hw, by simp⟩, rfl⟩
    · exact ⟨((w.2.1, w.1), (w.2.2 : Int)), List.mem_flatMap.mpr ⟨w, hw, by simp⟩, rfl⟩
theorem WaysOk.add {ns : List Str} {ws : List WayN} {a b : Str} {n : Nat} (h : WaysOk ns ws) (ha : a ∈ ns) (hb : b ∈ ns) (hab : a ≠ b) (n1 : 1 ≤ n) (n2 : n ≤ 99) (f : ∀ w ∈ ws, hasBoth a b w = false) : WaysOk ns (ws ++ [(a, b, n)]) := by
  have no : ∀ k : Str × Str, k ∈ (lensOf ws).map (·.1) → k ≠ (a, b) ∧ k ≠ (b, a) := fun k hk => by
    obtain ⟨w, hw, e⟩ := mem_keys.mp hk
    have f1 := f w hw
    unfold hasBoth at f1
    constructor
    · rintro rfl
      rcases e with e | e
      · obtain ⟨e1, e2⟩ := Prod.mk.inj e
        simp [e1, e2] at f1
      · obtain ⟨e1, e2⟩ := Prod.mk.inj e
        simp [e1, e2] at f1
    · rintro rfl
      rcases e with e | e
      · obtain ⟨e1, e2⟩ := Prod.mk.inj e
        simp [e1, e2] at f1
      · obtain ⟨e1, e2⟩ := Prod.mk.inj e
        simp [e1, e2] at f1
  refine ⟨fun w hw => ?_, ?_⟩
  · rcases List.mem_append.mp hw with hw | hw
    · exact h.ends w hw
    · rw [List.mem_singleton.mp hw]
      exact ⟨ha, hb, n1, n2⟩
  · rw [lensOf_append, List.map_append]
    refine List.nodup_append.mpr ⟨h.keys, ?_, fun x hx y hy e => ?_⟩
    · show [((a, b) : Str × Str), (b, a)].Nodup
      simp [hab]
    · have hy : y ∈ [((a, b) : Str × Str), (b, a)] := hy
      simp only [List.mem_cons, List.not_mem_nil, or_false] at hy
      subst e
      rcases hy with hy | hy
      · exact (no x hx).1 hy
      · exact (no x hx).2 hy
theorem keys_grow {k : Str × Str} {ws : List WayN} {w : WayN} (h : k ∈ (lensOf ws).map (·.1)) : k ∈ (lensOf (ws ++ [w])).map (·.1) := by
  rw [lensOf_append, List.map_append]
  exact List.mem_append_left _ h
/-- the ways that join each place to an earlier one, up to place i -/
structure TreeW (ns : List Str) (i : Nat) (ws : List WayN) : Prop where
  len : ws.length = i
  ok : WaysOk ns ws
  low : ∀ w ∈ ws, w.1 ∈ ns.take (i + 1) ∧ w.2.1 ∈ ns.take (i + 1)
  join : ∀ k, 1 ≤ k → k ≤ i → ∃ j a b, j < k ∧ ns[j]? = some a ∧ ns[k]? = some b ∧ (a, b) ∈ (lensOf ws).map (·.1)
theorem TreeW.nil (ns : List Str) : TreeW ns 0 [] := ⟨rfl, ⟨fun w h => (nomatch h), List.nodup_nil⟩, fun w h => (nomatch h), fun k h1 h2 => by omega⟩
theorem take_mono {α : Type} {xs : List α} {x : α} {i j : Nat} (h : x ∈ xs.take i) (l : i ≤ j) : x ∈ xs.take j := by
  obtain ⟨k, hk⟩ := List.mem_iff_getElem?.mp h
  have hl : k < i := by
    have := (List.getElem?_eq_some_iff.mp hk).1
    rw [List.length_take] at this
    omega
  refine List.mem_iff_getElem?.mpr ⟨k, ?_⟩
  rw [List.getElem?_take_of_lt hl] at hk
  rw [List.getElem?_take_of_lt (by omega)]
  exact hk
theorem mem_take_ix {α : Type} {xs : List α} {x : α} {i j : Nat} (h : xs[j]? = some x) (l : j < i) : x ∈ xs.take i :=
  List.mem_iff_getElem?.mpr ⟨j, by rw [List.getElem?_take_of_lt l]; exact h⟩
theorem take_ix {α : Type} {xs : List α} {x : α} {i : Nat} (h : x ∈ xs.take i) : ∃ j, j < i ∧ xs[j]? = some x := by
  obtain ⟨k, hk⟩ := List.mem_iff_getElem?.mp h
  have hl : k < i := by
    have := (List.getElem?_eq_some_iff.mp hk).1
    rw [List.length_take] at this
    omega
  exact ⟨k, hl, by rw [List.getElem?_take_of_lt hl] at hk; exact hk⟩
theorem nodup_ix {xs : List Str} (nd : xs.Nodup) {i j : Nat} {x : Str} (h1 : xs[i]? = some x) (h2 : xs[j]? = some x) : i = j := by
  obtain ⟨l1, e1⟩ := List.getElem?_eq_some_iff.mp h1
  obtain ⟨l2, e2⟩ := List.getElem?_eq_some_iff.mp h2
  exact (List.getElem_inj nd).mp (e1.trans e2.symm)
theorem TreeW.add {ns : List Str} {i : Nat} {ws : List WayN} (h : TreeW ns i ws) (nd : ns.Nodup) {j : Nat} {a b : Str} {n : Nat} (hj : j < i + 1) (ha : ns[j]? = some a) (hb : ns[i + 1]? = some b) (n1 : 1 ≤ n) (n2 : n ≤ 99) : TreeW ns (i + 1) (ws ++ [(a, b, n)]) := by
  have nb : ∀ x ∈ ns.take (i + 1), b ≠ x := fun x hx e => by
    obtain ⟨k, hk, hx⟩ := take_ix hx
    have := nodup_ix nd (e ▸ hb) hx
    omega
  have ma := mem_take_ix ha hj
  have ok := h.ok.add (List.mem_of_getElem? ha) (List.mem_of_getElem? hb) (fun e => nb a ma e.symm) n1 n2 fun w hw => by
    obtain ⟨e1, e2⟩ := h.low w hw
    unfold hasBoth
    rw [decide_eq_false (nb _ e1), decide_eq_false (nb _ e2)]
    simp
  refine ⟨by rw [List.length_append, h.len]; rfl, ok, fun w hw => ?_, fun k k1 k2 => ?_⟩
  · rcases List.mem_append.mp hw with hw | hw
    · obtain ⟨e1, e2⟩ := h.low w hw
      exact ⟨take_mono e1 (by omega), take_mono e2 (by omega)⟩
    · rw [List.mem_singleton.mp hw]
      exact ⟨take_mono ma (by omega), mem_take_ix hb (by omega)⟩
  · by_cases c : k ≤ i
    · obtain ⟨j', a', b', x1, x2, x3, x4⟩ := h.join k k1 c
      exact ⟨j', a', b', x1, x2, x3, keys_grow x4⟩
    · have : k = i + 1 := by omega
      subst this
      exact ⟨j, a, b, hj, ha, hb, mem_keys.mpr ⟨(a, b, n), List.mem_append_right _ (List.mem_singleton.mpr rfl), .inl rfl⟩⟩
end G

/-! H3 -/
namespace G
open PySem PySem.Spec PyProof.Rows L2
/-! terms with the machine's part named, as comprehensions want them -/
def rJoin (K : PySem.W.Frag) : V → List V → Hp → VK → Prop := fun x xs H Q => ∃ a p, ∃ ys : List Str, x = .str a ∧ xs = [.ref p] ∧ (SqL K H p (ys.map V.str) ∨ SqT K H p (ys.map V.str)) ∧
    (ys.map (·.length)).sum + ys.length * a.length ≤ 16777216 ∧ Q (.str (Txt.join a ys)) H
def rLOf (K : PySem.W.Frag) : List V → Hp → VK → Prop := fun xs H Q => ∃ p ys, xs = [.ref p] ∧ (SqL K H p ys ∨ SqT K H p ys) ∧ ∀ l, H l = none → Q (.ref l) (upd H l (.lst ys))
section
variable {X : Cx} {a b c o e : Expr} {ta tb tc to : TE} {t : TA} {p pos apos cpos : Pos} {es : List Expr}
theorem t_join (K : PySem.W.Frag) (ho : PE X o to) (ha : PA X (e :: es) t) (hK : X.K = K := by rfl)
    (hbase : attributeBase o "join" X.env (eval o X.env) = eval o X.env := by rfl)
    (hfew : ((backTo cpos (starEach (e :: es) X.env)).all (fun x => !x.1) && (backToKw cpos (keywordEach [] X.env)).all (fun x => x.1.isSome)
      && decide ((e :: es).length + ([] : List Keyword).length + (if ([] : List Keyword).isEmpty then 0 else 1) < 30)) = true := by rfl)
    (hline : (apos.endLine == cpos.line) = true := by rfl) (hs : starEach (e :: es) X.env = (false, eval e X.env) :: starEach es X.env := by rfl) (hplain : (backTo cpos (starEach es X.env)).any (·.1) = false := by rfl) :
    PE X (.Call (.Attribute o "join" apos) (e :: es) [] cpos) (tBM K "str" (rJoin K) to t) := by
  subst hK
  exact pe_bm PySem.F.plainAttrs_str PySem.F.slot_str_join PySem.F.type_str_join mt_join ho ha hbase hfew hline hs hplain
theorem t_listOf (K : PySem.W.Frag) (B : Blt X.mg) (ha : PA X (a :: es) t) (hK : X.K = K := by rfl) (g : Gl X "list" := by rfl) (he : starEach (a :: es) X.env = (false, eval a X.env) :: starEach es X.env := by rfl) (hpl : (backTo pos (starEach es X.env)).any (·.1) = false := by rfl) :
    PE X (.Call (.Name "list" p) (a :: es) [] pos) (tCB (rLOf K) t) := by subst hK; exact pe_callTy call_list_of g B.lst (by decide +kernel) ha (he := he) (hpl := hpl)
end
end G

/-! Z1 -/
namespace G
open PySem PySem.Spec PyProof.Rows L2
/-! zip of two rows, each a list or a tuple, whose pairs are kept -/
/-- an iterator of a list or of a tuple, k items on -/
def SeqIt (h : Heap) (it l : Addr) (k : Nat) (xs : Array Value) : Prop := (h.IsListIter it l k ∧ h.IsList l xs) ∨ (h.IsTupleIter it l k ∧ h.IsTuple l xs)
theorem SeqIt.at' {h h' : Heap} {it l : Addr} {k : Nat} {xs : Array Value} (x : SeqIt h it l k xs) (e1 : ∀ o, h.get? it = some o → h'.get? it = some o) (e2 : ∀ o, h.get? l = some o → h'.get? l = some o) : SeqIt h' it l k xs :=
  x.elim (fun y => .inl ⟨y.1.at e1, y.2.at e2⟩) fun y => .inr ⟨y.1.at e1, y.2.at e2⟩
theorem SeqIt.ext {h h' : Heap} {b it l : Addr} {k : Nat} {xs : Array Value} (x : SeqIt h it l k xs) (e : Heap.ExtBut b h h') (n1 : it ≠ b) (n2 : l ≠ b) : SeqIt h' it l k xs :=
  x.at' (fun o q => e _ _ n1 q) fun o q => e _ _ n2 q
theorem SeqIt.lt {h : Heap} {it l : Addr} {k : Nat} {xs : Array Value} (x : SeqIt h it l k xs) : it < h.objs.size := by
  rcases x with ⟨⟨o, e, _⟩, _⟩ | ⟨⟨o, e, _⟩, _⟩
  · exact Heap.lt_size e
  · exact Heap.lt_size e
section
variable {prog : Program} {w : World} {A : Around} {E : Value → Shared → Prop} {s : Shared}
theorem seq_item {it l : Addr} {k : Nat} {xs : Array Value} {x : Value} {Q : Value → Shared → Prop} (hit : SeqIt s.heap it l k xs) (hx : xs[k]? = some x) (nl : l ≠ it)
    (hQ : ∀ h', SeqIt h' it l (k + 1) xs → Heap.SameBut it s.heap h' → Q x { s with heap := h' }) : wpAny (model prog w) A (Builtin.SmallTypes.nextOf (.ref it)) Q E s := by
  rcases hit with ⟨a, b⟩ | ⟨a, b⟩
  · exact wpAny_nextOf_list_item a b hx fun h' a' hs => hQ h' (.inl ⟨a', b.extBut hs.extBut nl⟩) hs
  · exact RZ.nextOf_tuple_item a b hx fun h' a' hs => hQ h' (.inr ⟨a', b.extBut hs.extBut nl⟩) hs
theorem seq_end {it l : Addr} {k : Nat} {xs : Array Value} {Q : Value → Shared → Prop} (hh : A.handled = none) (hit : SeqIt s.heap it l k xs) (hx : xs[k]? = none)
    (hE : ∀ h' e, Heap.ExtBut it s.heap h' → (∃ o, h'.get? e = some o ∧ o.cls = .type "StopIteration") → E (.ref e) { s with heap := h' }) : wpAny (model prog w) A (Builtin.SmallTypes.nextOf (.ref it)) Q E s := by
  rcases hit with ⟨a, b⟩ | ⟨a, b⟩
  · exact wpAny_nextOf_list_end hh a b hx hE
  · exact RZ.nextOf_tuple_end hh a b hx hE
/-- where a zip stands: its own pair still there to be used, or one pair handed out that stays -/
def ZSt (h : Heap) (z TI TO i1 i2 l1 l2 S : Addr) (xs ys : Array Value) (i : Nat) : Prop :=
  IsPair h TI (.ref i1) (.ref i2) ∧ SeqIt h i1 l1 i xs ∧ SeqIt h i2 l2 i ys ∧ ((IsZip h z TI TO .none ∧ ∃ a b, IsPair h TO a b) ∨ ∃ T f oT, IsZipHeld h z TI TO T f ∧ h.get? T = some oT ∧ T ≠ z ∧ T ≠ i1 ∧ T ≠ i2 ∧ T ≠ S)
theorem ZSt.zlt {h : Heap} {z TI TO i1 i2 l1 l2 S : Addr} {xs ys : Array Value} {i : Nat} (x : ZSt h z TI TO i1 i2 l1 l2 S xs ys i) : z < h.objs.size := by
  obtain ⟨_, _, _, ⟨hz, _⟩ | ⟨_, _, _, hz, _⟩⟩ := x
  · exact Heap.lt_size hz
  · exact Heap.lt_size hz
theorem ZSt.typeIs {s : Shared} {z TI TO i1 i2 l1 l2 S : Addr} {xs ys : Array Value} {i : Nat} (x : ZSt s.heap z TI TO i1 i2 l1 l2 S xs ys i) : s.TypeIs (.ref z) "zip" := by
  obtain ⟨_, _, _, ⟨hz, _⟩ | ⟨_, _, _, hz, _⟩⟩ := x
  · exact ⟨_, hz, rfl⟩
  · exact ⟨_, hz, rfl⟩
theorem ZSt.keep {h h' : Heap} {z TI TO i1 i2 l1 l2 S : Addr} {xs ys : Array Value} {i : Nat} (x : ZSt h z TI TO i1 i2 l1 l2 S xs ys i) (k : ∀ b o, b ≠ S → h.get? b = some o → h'.get? b = some o)
    (n : z ≠ S ∧ TI ≠ S ∧ TO ≠ S ∧ i1 ≠ S ∧ i2 ≠ S ∧ l1 ≠ S ∧ l2 ≠ S) : ZSt h' z TI TO i1 i2 l1 l2 S xs ys i := by
  obtain ⟨nz, nTI, nTO, n1, n2, nl1, nl2⟩ := n
  obtain ⟨hTI, h1, h2, hz⟩ := x
  refine ⟨k _ _ nTI hTI, h1.at' (fun o e => k _ o n1 e) (fun o e => k _ o nl1 e), h2.at' (fun o e => k _ o n2 e) (fun o e => k _ o nl2 e), ?_⟩
  rcases hz with ⟨hz, a, b, hTO⟩ | ⟨T, f, oT, hz, hT, r1, r2, r3, r4⟩
  · exact .inl ⟨k _ _ nz hz, a, b, k _ _ nTO hTO⟩
  · exact .inr ⟨T, f, oT, k _ _ nz hz, k _ _ r4 hT, r1, r2, r3, r4⟩
/-- the next pair while the own pair is free -/
theorem z_free {z TI TO i1 i2 l1 l2 S : Addr} {i : Nat} {xs ys : Array Value} {x y a b : Value} {Q : Value → Shared → Prop} (D : ZipApart z TI TO i1 i2 l1 l2) (hS : S < s.heap.objs.size)
    (hz : IsZip s.heap z TI TO .none) (hTI : IsPair s.heap TI (.ref i1) (.ref i2)) (hTO : IsPair s.heap TO a b) (h1 : SeqIt s.heap i1 l1 i xs) (h2 : SeqIt s.heap i2 l2 i ys) (hx : xs[i]? = some x) (hy : ys[i]? = some y)
    (hQ : ∀ h', ZSt h' z TI TO i1 i2 l1 l2 S xs ys (i + 1) → IsPair h' s.heap.objs.size x y → h'.objs.size = s.heap.objs.size + 1 →
      (∀ c o, c ≠ z → c ≠ TO → c ≠ i1 → c ≠ i2 → s.heap.get? c = some o → h'.get? c = some o) → Q (.ref s.heap.objs.size) { s with heap := h' }) :
    wpAny (model prog w) A (Builtin.«zip.__next__» ⟨[.ref z], []⟩) (fun fin s' => ∃ v, fin = .done (.ret v) ∧ Q v s') E s := by
  show wpAny _ _ (field (.ref z) 2 >>= _) _ _ _
  refine wpAny_bind (wpAny_field hz rfl (x := .bool false) rfl ?_)
  show wpAny _ _ (field (.ref z) 3 >>= _) _ _ _
  refine wpAny_bind (wpAny_field hz rfl (x := .ref TI) rfl ?_)
  refine wpAny_bind (wpAny_seqItems hTI rfl ?_)
  show wpAny _ _ (Builtin.SmallTypes.ownedTupleIsFree (.ref z) >>= _) _ _ _
  refine wpAny_bind ?_
  unfold Builtin.SmallTypes.ownedTupleIsFree
  refine wpAny_bind (wpAny_field hz rfl (x := .none) rfl (wpAny_pure ?_))
  simp only [if_true]
  refine wpAny_bind (wpAny_rule ?_)
  refine wpAny_bind (wpAny_field hz rfl (x := .ref TO) rfl ?_)
  refine wpAny_bind (wpAny_setField_rec hz (by simp) fun ha za sa => ?_)
  replace za : IsZip ha z TI TO .ellipsis := za
  refine wpAny_bind ?_
  simp only [List.zipIdx_cons, List.zipIdx_nil, List.forIn_cons, List.forIn_nil]
  refine wpAny_bind (wpAny_bind (wpAny_onRaise ?_))
  show wpAny _ _ (Builtin.SmallTypes.nextOf (.ref i1) >>= _) _ _ _
  refine wpAny_bind (seq_item (h1.ext sa.extBut D.i1z D.l1z) hx D.l1i1 fun hb b1 sb => wpAny_pure ?_)
  have hTOb : IsPair hb TO a b := sb.extBut _ _ D.TOi1 (sa.extBut _ _ D.TOz hTO)
  refine wpAny_bind (wpAny_seqItems hTOb rfl ?_)
  refine wpAny_bind (wpAny_updateSeq_pair hTOb fun hc hTOc sc => ?_)
  replace hTOc : IsPair hc TO x b := hTOc
  refine wpAny_bind (wpAny_letGo (wpAny_pure ?_))
  refine wpAny_bind (wpAny_bind (wpAny_onRaise ?_))
  show wpAny _ _ (Builtin.SmallTypes.nextOf (.ref i2) >>= _) _ _ _
  refine wpAny_bind (seq_item (((h2.ext sa.extBut D.i2z D.l2z).ext sb.extBut D.i12.symm D.l2i1).ext sc.extBut D.TOi2.symm D.l2TO) hy D.l2i2 fun hd d2 sd => wpAny_pure ?_)
  have hTOd : IsPair hd TO x b := sd.extBut _ _ D.TOi2 hTOc
  refine wpAny_bind (wpAny_seqItems hTOd rfl ?_)
  refine wpAny_bind (wpAny_updateSeq_pair hTOd fun he hTOe se => ?_)
  replace hTOe : IsPair he TO x y := hTOe
  refine wpAny_bind (wpAny_letGo (wpAny_pure (wpAny_pure ?_)))
  refine wpAny_bind (wpAny_seqItems hTOe rfl ?_)
  refine wpAny_bind (wpAny_newTuple ?_)
  have hsz : he.objs.size = s.heap.objs.size := by rw [se.1, sd.1, sc.1, sb.1, sa.1]
  have ze : IsZip he z TI TO .ellipsis := se.extBut _ _ D.TOz.symm (sd.extBut _ _ D.i2z.symm (sc.extBut _ _ D.TOz.symm (sb.extBut _ _ D.i1z.symm za)))
  have ke : ∀ c o, c ≠ z → c ≠ TO → c ≠ i1 → c ≠ i2 → s.heap.get? c = some o → he.get? c = some o := fun c o c1 c2 c3 c4 e =>
    se.extBut _ _ c2 (sd.extBut _ _ c4 (sc.extBut _ _ c2 (sb.extBut _ _ c3 (sa.extBut _ _ c1 e))))
  have e1 : SeqIt he i1 l1 (i + 1) xs := ((b1.ext sc.extBut D.TOi1.symm D.l1TO).ext sd.extBut D.i12 D.l1i2).ext se.extBut D.TOi1.symm D.l1TO
  have e2 : SeqIt he i2 l2 (i + 1) ys := d2.ext se.extBut D.TOi2.symm D.l2TO
  have zlt : z < he.objs.size := Heap.lt_size ze
  show wpAny _ _ (Builtin.SmallTypes.ownedTupleHandOut (.ref z) (.ref he.objs.size) >>= _) _ _ _
  refine wpAny_bind ?_
  unfold Builtin.SmallTypes.ownedTupleHandOut
  have zf : IsZip (he.push { cls := .type "tuple", data := .seq #[x, y] }) z TI TO .ellipsis := Heap.get?_push_of_some _ ze
  refine wpAny_bind (wpAny_setField_rec zf (by simp) fun hg zg sg => ?_)
  replace zg : IsZip hg z TI TO (rawInt he.objs.size) := zg
  refine wpAny_setField_rec zg (by simp) fun hk zk sk => ?_
  replace zk : IsZip hk z TI TO (rawInt he.objs.size) := zk
  have up : ∀ c o, c ≠ z → he.get? c = some o → hk.get? c = some o := fun c o c1 e => sk.extBut _ _ c1 (sg.extBut _ _ c1 (Heap.get?_push_of_some _ e))
  have kT : IsPair hk he.objs.size x y := sk.extBut _ _ (Nat.ne_of_gt zlt) (sg.extBut _ _ (Nat.ne_of_gt zlt) (Heap.get?_push_size _ rfl))
  have ksz : hk.objs.size = he.objs.size + 1 := by rw [sk.1, sg.1, Heap.size_push]
  have hTIe := ke _ _ D.TIz D.TITO D.TIi1 D.TIi2 hTI
  refine wpAny_pure ⟨_, rfl, ?_⟩
  show Q (.ref he.objs.size) _
  have f1 : SeqIt hk i1 l1 (i + 1) xs := e1.at' (fun o e => up _ o D.i1z e) fun o e => up _ o D.l1z e
  have f2 : SeqIt hk i2 l2 (i + 1) ys := e2.at' (fun o e => up _ o D.i2z e) fun o e => up _ o D.l2z e
  have st : ZSt hk z TI TO i1 i2 l1 l2 S xs ys (i + 1) := ⟨up _ _ D.TIz hTIe, f1, f2, .inr ⟨he.objs.size, false, _, zk, kT, Nat.ne_of_gt zlt, Nat.ne_of_gt e1.lt, Nat.ne_of_gt e2.lt, by rw [hsz]; exact Nat.ne_of_gt hS⟩⟩
  rw [hsz] at kT ksz ⊢
  exact hQ hk st kT ksz fun c o c1 c2 c3 c4 e => up c o c1 (ke c o c1 c2 c3 c4 e)
/-- the next pair while one is out -/
theorem z_held {z TI TO T i1 i2 l1 l2 S : Addr} {f : Bool} {oT : Obj} {i : Nat} {xs ys : Array Value} {x y : Value} {Q : Value → Shared → Prop} (D : ZipApart z TI TO i1 i2 l1 l2)
    (hz : IsZipHeld s.heap z TI TO T f) (hT : s.heap.get? T = some oT) (r : T ≠ z ∧ T ≠ i1 ∧ T ≠ i2 ∧ T ≠ S) (hTI : IsPair s.heap TI (.ref i1) (.ref i2)) (h1 : SeqIt s.heap i1 l1 i xs) (h2 : SeqIt s.heap i2 l2 i ys) (hx : xs[i]? = some x) (hy : ys[i]? = some y)
    (hQ : ∀ h', ZSt h' z TI TO i1 i2 l1 l2 S xs ys (i + 1) → IsPair h' s.heap.objs.size x y → h'.objs.size = s.heap.objs.size + 1 →
      (∀ c o, c ≠ z → c ≠ i1 → c ≠ i2 → s.heap.get? c = some o → h'.get? c = some o) → Q (.ref s.heap.objs.size) { s with heap := h' }) :
    wpAny (model prog w) A (Builtin.«zip.__next__» ⟨[.ref z], []⟩) (fun fin s' => ∃ v, fin = .done (.ret v) ∧ Q v s') E s := by
  obtain ⟨r1, r2, r3, r4⟩ := r
  show wpAny _ _ (field (.ref z) 2 >>= _) _ _ _
  refine wpAny_bind (wpAny_field hz rfl (x := .bool false) rfl ?_)
  show wpAny _ _ (field (.ref z) 3 >>= _) _ _ _
  refine wpAny_bind (wpAny_field hz rfl (x := .ref TI) rfl ?_)
  refine wpAny_bind (wpAny_seqItems hTI rfl ?_)
  show wpAny _ _ (Builtin.SmallTypes.ownedTupleIsFree (.ref z) >>= _) _ _ _
  refine wpAny_bind (wpAny_tupleHeld_zip hz hT fun ha za sa => ?_)
  simp only [Bool.false_eq_true, if_false]
  refine wpAny_bind ?_
  rw [← Array.forIn_toList]
  simp only [List.forIn_cons, List.forIn_nil]
  refine wpAny_bind (wpAny_bind (wpAny_holding ?_))
  show wpAny _ _ (Builtin.SmallTypes.nextOf (.ref i1) >>= _) _ _ _
  refine wpAny_bind (seq_item (s := { s with heap := ha }) (h1.ext sa.extBut D.i1z D.l1z) hx D.l1i1 fun hb b1 sb => wpAny_pure ?_)
  refine wpAny_pure ?_
  refine wpAny_bind (wpAny_bind (wpAny_holding ?_))
  show wpAny _ _ (Builtin.SmallTypes.nextOf (.ref i2) >>= _) _ _ _
  refine wpAny_bind (seq_item (s := { s with heap := hb }) ((h2.ext sa.extBut D.i2z D.l2z).ext sb.extBut D.i12.symm D.l2i1) hy D.l2i2 fun hc c2 sc => wpAny_pure ?_)
  refine wpAny_pure (wpAny_pure ?_)
  show wpAny _ _ (newTuple [x, y] >>= _) _ _ _
  refine wpAny_bind (wpAny_newTuple ?_)
  have hsz : hc.objs.size = s.heap.objs.size := by rw [sc.1, sb.1, sa.1]
  have zc : IsZipHeld hc z TI TO T true := sc.extBut _ _ D.i2z.symm (sb.extBut _ _ D.i1z.symm za)
  have hk : ∀ c o, c ≠ z → c ≠ i1 → c ≠ i2 → s.heap.get? c = some o → hc.get? c = some o := fun c o c1 c2 c3 e => sc.extBut _ _ c3 (sb.extBut _ _ c2 (sa.extBut _ _ c1 e))
  have c1 : SeqIt hc i1 l1 (i + 1) xs := b1.ext sc.extBut D.i12 D.l1i2
  refine wpAny_pure ⟨_, rfl, ?_⟩
  show Q (.ref hc.objs.size) _
  have hp : IsPair (hc.push { cls := .type "tuple", data := .seq #[x, y] }) hc.objs.size x y := Heap.get?_push_size _ rfl
  have hz4 : (hc.push { cls := .type "tuple", data := .seq #[x, y] }).objs.size = hc.objs.size + 1 := Heap.size_push ..
  rw [hsz] at hp hz4 ⊢
  have pu : ∀ c o, hc.get? c = some o → (hc.push { cls := .type "tuple", data := .seq #[x, y] }).get? c = some o := fun c o e => Heap.get?_push_of_some _ e
  exact hQ _ ⟨pu _ _ (hk _ _ D.TIz D.TIi1 D.TIi2 hTI), c1.at' (fun o e => pu _ o e) (fun o e => pu _ o e), c2.at' (fun o e => pu _ o e) (fun o e => pu _ o e), .inr ⟨T, true, oT, pu _ _ zc, pu _ _ (hk _ _ r1 r2 r3 hT), r1, r2, r3, r4⟩⟩ hp hz4 fun c o c1 c2 c3 e => pu _ _ (hk c o c1 c2 c3 e)
/-- the end while the own pair is free -/
theorem z_freeEnd {z TI TO i1 i2 l1 l2 : Addr} {i : Nat} {xs ys : Array Value} {a b : Value} {Q : Fin → Shared → Prop} (hh : A.handled = none) (D : ZipApart z TI TO i1 i2 l1 l2)
    (hz : IsZip s.heap z TI TO .none) (hTI : IsPair s.heap TI (.ref i1) (.ref i2)) (hTO : IsPair s.heap TO a b) (h1 : SeqIt s.heap i1 l1 i xs) (h2 : SeqIt s.heap i2 l2 i ys) (hend : xs[i]? = none ∨ ys[i]? = none)
    (hE : ∀ h' e, (∀ c o, c ≠ z → c ≠ TO → c ≠ i1 → c ≠ i2 → s.heap.get? c = some o → h'.get? c = some o) → (∃ o, h'.get? e = some o ∧ o.cls = .type "StopIteration") → E (.ref e) { s with heap := h' }) :
    wpAny (model prog w) A (Builtin.«zip.__next__» ⟨[.ref z], []⟩) Q E s := by
  show wpAny _ _ (field (.ref z) 2 >>= _) _ _ _
  refine wpAny_bind (wpAny_field hz rfl (x := .bool false) rfl ?_)
  show wpAny _ _ (field (.ref z) 3 >>= _) _ _ _
  refine wpAny_bind (wpAny_field hz rfl (x := .ref TI) rfl ?_)
  refine wpAny_bind (wpAny_seqItems hTI rfl ?_)
  show wpAny _ _ (Builtin.SmallTypes.ownedTupleIsFree (.ref z) >>= _) _ _ _
  refine wpAny_bind ?_
  unfold Builtin.SmallTypes.ownedTupleIsFree
  refine wpAny_bind (wpAny_field hz rfl (x := .none) rfl (wpAny_pure ?_))
  simp only [if_true]
  refine wpAny_bind (wpAny_rule ?_)
  refine wpAny_bind (wpAny_field hz rfl (x := .ref TO) rfl ?_)
  refine wpAny_bind (wpAny_setField_rec hz (by simp) fun ha za sa => ?_)
  replace za : IsZip ha z TI TO .ellipsis := za
  refine wpAny_bind ?_
  simp only [List.zipIdx_cons, List.zipIdx_nil, List.forIn_cons, List.forIn_nil]
  refine wpAny_bind (wpAny_bind (wpAny_onRaise ?_))
  show wpAny _ _ (Builtin.SmallTypes.nextOf (.ref i1) >>= _) _ _ _
  cases hx : xs[i]? with
  | none =>
    refine wpAny_bind (seq_end hh (h1.ext sa.extBut D.i1z D.l1z) hx fun hb e sb he => ?_)
    obtain ⟨oe, hoe, hce⟩ := he
    have zb : IsZip hb z TI TO .ellipsis := sb _ _ D.i1z.symm za
    have hez : e ≠ z := fun x => by subst x; rw [zb] at hoe; cases hoe; simp at hce
    refine wpAny_setField_rec zb (by simp) fun hc _ sc => hE hc e (fun c o c1 _ c3 _ x => sc.extBut _ _ c1 (sb _ _ c3 (sa.extBut _ _ c1 x))) ⟨oe, sc.extBut _ _ hez hoe, hce⟩
  | some x =>
    have hy : ys[i]? = none := by rcases hend with h | h; rw [hx] at h; cases h; exact h
    refine wpAny_bind (seq_item (h1.ext sa.extBut D.i1z D.l1z) hx D.l1i1 fun hb b1 sb => wpAny_pure ?_)
    have hTOb : IsPair hb TO a b := sb.extBut _ _ D.TOi1 (sa.extBut _ _ D.TOz hTO)
    refine wpAny_bind (wpAny_seqItems hTOb rfl ?_)
    refine wpAny_bind (wpAny_updateSeq_pair hTOb fun hc hTOc sc => ?_)
    refine wpAny_bind (wpAny_letGo (wpAny_pure ?_))
    refine wpAny_bind (wpAny_bind (wpAny_onRaise ?_))
    show wpAny _ _ (Builtin.SmallTypes.nextOf (.ref i2) >>= _) _ _ _
    refine wpAny_bind (seq_end hh (((h2.ext sa.extBut D.i2z D.l2z).ext sb.extBut D.i12.symm D.l2i1).ext sc.extBut D.TOi2.symm D.l2TO) hy fun hd e sd he => ?_)
    obtain ⟨oe, hoe, hce⟩ := he
    have zd : IsZip hd z TI TO .ellipsis := sd _ _ D.i2z.symm (sc.extBut _ _ D.TOz.symm (sb.extBut _ _ D.i1z.symm za))
    have hez : e ≠ z := fun x => by subst x; rw [zd] at hoe; cases hoe; simp at hce
    refine wpAny_setField_rec zd (by simp) fun hk _ sk => hE hk e (fun c o c1 c2 c3 c4 x => sk.extBut _ _ c1 (sd _ _ c4 (sc.extBut _ _ c2 (sb.extBut _ _ c3 (sa.extBut _ _ c1 x))))) ⟨oe, sk.extBut _ _ hez hoe, hce⟩
/-- the end while a pair is out -/
theorem z_heldEnd {z TI TO T i1 i2 l1 l2 : Addr} {f : Bool} {oT : Obj} {i : Nat} {xs ys : Array Value} {Q : Fin → Shared → Prop} (hh : A.handled = none) (D : ZipApart z TI TO i1 i2 l1 l2)
    (hz : IsZipHeld s.heap z TI TO T f) (hT : s.heap.get? T = some oT) (hTI : IsPair s.heap TI (.ref i1) (.ref i2)) (h1 : SeqIt s.heap i1 l1 i xs) (h2 : SeqIt s.heap i2 l2 i ys) (hend : xs[i]? = none ∨ ys[i]? = none)
    (hE : ∀ h' e, (∀ c o, c ≠ z → c ≠ i1 → c ≠ i2 → s.heap.get? c = some o → h'.get? c = some o) → (∃ o, h'.get? e = some o ∧ o.cls = .type "StopIteration") → E (.ref e) { s with heap := h' }) :
    wpAny (model prog w) A (Builtin.«zip.__next__» ⟨[.ref z], []⟩) Q E s := by
  show wpAny _ _ (field (.ref z) 2 >>= _) _ _ _
  refine wpAny_bind (wpAny_field hz rfl (x := .bool false) rfl ?_)
  show wpAny _ _ (field (.ref z) 3 >>= _) _ _ _
  refine wpAny_bind (wpAny_field hz rfl (x := .ref TI) rfl ?_)
  refine wpAny_bind (wpAny_seqItems hTI rfl ?_)
  show wpAny _ _ (Builtin.SmallTypes.ownedTupleIsFree (.ref z) >>= _) _ _ _
  refine wpAny_bind (wpAny_tupleHeld_zip hz hT fun ha za sa => ?_)
  simp only [Bool.false_eq_true, if_false]
  refine wpAny_bind ?_
  rw [← Array.forIn_toList]
  simp only [List.forIn_cons, List.forIn_nil]
  refine wpAny_bind (wpAny_bind (wpAny_holding ?_))
  show wpAny _ _ (Builtin.SmallTypes.nextOf (.ref i1) >>= _) _ _ _
  cases hx : xs[i]? with
  | none =>
    refine wpAny_bind (seq_end (s := { s with heap := ha }) hh (h1.ext sa.extBut D.i1z D.l1z) hx fun hb e sb he => ?_)
    exact hE hb e (fun c o c1 c2 _ x => sb _ _ c2 (sa.extBut _ _ c1 x)) he
  | some x =>
    have hy : ys[i]? = none := by rcases hend with h | h; rw [hx] at h; cases h; exact h
    refine wpAny_bind (seq_item (s := { s with heap := ha }) (h1.ext sa.extBut D.i1z D.l1z) hx D.l1i1 fun hb b1 sb => wpAny_pure ?_)
    refine wpAny_pure ?_
    refine wpAny_bind (wpAny_bind (wpAny_holding ?_))
    show wpAny _ _ (Builtin.SmallTypes.nextOf (.ref i2) >>= _) _ _ _
    refine wpAny_bind (seq_end (s := { s with heap := hb }) hh ((h2.ext sa.extBut D.i2z D.l2z).ext sb.extBut D.i12.symm D.l2i1) hy fun hc e sc he => ?_)
    exact hE hc e (fun c o c1 c2 c3 x => sc _ _ c3 (sb.extBut _ _ c2 (sa.extBut _ _ c1 x))) he
theorem z_next {z TI TO i1 i2 l1 l2 S : Addr} {i : Nat} {xs ys : Array Value} {x y : Value} {Q : Option Value → Shared → Prop} (D : ZipApart z TI TO i1 i2 l1 l2) (st : ZSt s.heap z TI TO i1 i2 l1 l2 S xs ys i) (hS : S < s.heap.objs.size) (hx : xs[i]? = some x) (hy : ys[i]? = some y)
    (hQ : ∀ h', ZSt h' z TI TO i1 i2 l1 l2 S xs ys (i + 1) → IsPair h' s.heap.objs.size x y → h'.objs.size = s.heap.objs.size + 1 →
      (∀ c o, c ≠ z → c ≠ TO → c ≠ i1 → c ≠ i2 → s.heap.get? c = some o → h'.get? c = some o) → Q (some (.ref s.heap.objs.size)) { s with heap := h' }) :
    wpAny (model prog w) A (pyNext (.ref z)) Q E s := by
  have hTy := st.typeIs
  obtain ⟨hTI, h1, h2, hz⟩ := st
  unfold pyNext
  rcases hz with ⟨hz, a, b, hTO⟩ | ⟨T, f, oT, hz, hT, r⟩
  · exact wpAny_bind (wpAny_attempt (wpAny_callSpecial?_slot (name := Str.ofString "__next__") hTy F.slot_zip_next
      (wpAny_call_entry F.slot_zip_next hTy F.entry_zip_next (z_free D hS hz hTI hTO h1 h2 hx hy fun h' a1 a2 a3 a4 => wpAny_pure (hQ h' a1 a2 a3 a4)) (F.args_zip_next_1 _))))
  · exact wpAny_bind (wpAny_attempt (wpAny_callSpecial?_slot (name := Str.ofString "__next__") hTy F.slot_zip_next
      (wpAny_call_entry F.slot_zip_next hTy F.entry_zip_next (z_held D hz hT r hTI h1 h2 hx hy fun h' a1 a2 a3 a4 => wpAny_pure (hQ h' a1 a2 a3 fun c o c1 _ c3 c4 e => a4 c o c1 c3 c4 e)) (F.args_zip_next_1 _))))
theorem z_end {z TI TO i1 i2 l1 l2 S : Addr} {i : Nat} {xs ys : Array Value} {Q : Option Value → Shared → Prop} (hh : A.handled = none) (D : ZipApart z TI TO i1 i2 l1 l2) (st : ZSt s.heap z TI TO i1 i2 l1 l2 S xs ys i) (hend : xs[i]? = none ∨ ys[i]? = none)
    (hQ : ∀ h', (∀ c o, c ≠ z → c ≠ TO → c ≠ i1 → c ≠ i2 → s.heap.get? c = some o → h'.get? c = some o) → Q none { s with heap := h' }) :
    wpAny (model prog w) A (pyNext (.ref z)) Q E s := by
  have hTy := st.typeIs
  obtain ⟨hTI, h1, h2, hz⟩ := st
  unfold pyNext
  rcases hz with ⟨hz, a, b, hTO⟩ | ⟨T, f, oT, hz, hT, r⟩
  · refine wpAny_bind (wpAny_attempt (wpAny_callSpecial?_slot (name := Str.ofString "__next__") hTy F.slot_zip_next
      (wpAny_call_entry F.slot_zip_next hTy F.entry_zip_next (z_freeEnd hh D hz hTI hTO h1 h2 hend fun h' e hk he => ?_) (F.args_zip_next_1 _))))
    obtain ⟨o, ho, hc⟩ := he
    refine wpAny_bind (wpAny_isInstance (T := "StopIteration") (b := true) ⟨o, ho, hc⟩ isSubtype_stop ?_)
    exact wpAny_pure (hQ _ hk)
  · refine wpAny_bind (wpAny_attempt (wpAny_callSpecial?_slot (name := Str.ofString "__next__") hTy F.slot_zip_next
      (wpAny_call_entry F.slot_zip_next hTy F.entry_zip_next (z_heldEnd hh D hz hT hTI h1 h2 hend fun h' e hk he => ?_) (F.args_zip_next_1 _))))
    obtain ⟨o, ho, hc⟩ := he
    refine wpAny_bind (wpAny_isInstance (T := "StopIteration") (b := true) ⟨o, ho, hc⟩ isSubtype_stop ?_)
    exact wpAny_pure (hQ _ fun c o c1 _ c3 c4 e => hk c o c1 c3 c4 e)
end
end G

/-! Z2 -/
namespace G
open PySem PySem.Spec PyProof.Rows L2
theorem zip_no_len : typeLookup (.type "zip") "__len__" = pure none := by rw [typeLookup_type, builtinLookup_eq_fast]; kernel_rfl
theorem zip_no_hint : typeLookup (.type "zip") "__length_hint__" = pure none := by rw [typeLookup_type, builtinLookup_eq_fast]; kernel_rfl
/-- the pairs that were made, one behind the other -/
structure MadeZ (ps : List (Value × Value)) (lo : Addr) (h : Heap) (as : List Addr) : Prop where
  rise : as.Pairwise (· < ·)
  above : ∀ a ∈ as, lo < a
  pairs : ∀ (j : Nat) (a : Addr), as[j]? = some a → ∃ x y, ps[j]? = some (x, y) ∧ IsPair h a x y
theorem MadeZ.there {ps : List (Value × Value)} {lo : Addr} {h : Heap} {as : List Addr} (g : MadeZ ps lo h as) {a : Addr} (ha : a ∈ as) : a < h.objs.size := by
  obtain ⟨j, hj⟩ := List.mem_iff_getElem?.mp ha
  obtain ⟨x, y, _, e⟩ := g.pairs j a hj
  exact Heap.lt_size e
theorem zip_get {xs ys : List Value} {i : Nat} {x y : Value} (hx : xs[i]? = some x) (hy : ys[i]? = some y) : (xs.zip ys)[i]? = some (x, y) := by
  rw [List.getElem?_zip_eq_some]
  exact ⟨hx, hy⟩
section
variable {prog : Program} {w : World} {A : Around} {R : Result → Shared → Prop} {s : Shared} {z TI TO i1 i2 l1 l2 : Addr} {xs ys : List Value}
theorem loopZ {S : Addr} (hh : A.handled = none) (D : ZipApart z TI TO i1 i2 l1 l2) (nS : z ≠ S ∧ TI ≠ S ∧ TO ≠ S ∧ i1 ≠ S ∧ i2 ≠ S ∧ l1 ≠ S ∧ l2 ≠ S) (hn : (xs.zip ys).length ≤ sizeLine) (res : Value) {h₁ : Heap}
    (below : z < S ∧ TO < S ∧ i1 < S ∧ i2 < S)
    (hR : ∀ h' tk acc c as, (∀ b o, b ≠ S → b ≠ z → b ≠ TO → b ≠ i1 → b ≠ i2 → h₁.get? b = some o → h'.get? b = some o) → h'.get? S = some { cls := .type "list", dict := none, data := .seq acc c, slots := #[] } → as.length = (xs.zip ys).length → MadeZ (xs.zip ys) S h' as →
      acc.toList = as.map Value.ref → R (.ok (.ret res)) { s with heap := h', toks := tk }) :
    ∀ (k i : Nat) (h : Heap) (tk c : Nat) (acc : Array Value) (as : List Addr), (xs.zip ys).length - i = k → i ≤ (xs.zip ys).length → ZSt h z TI TO i1 i2 l1 l2 S xs.toArray ys.toArray i → (∀ b o, b ≠ S → b ≠ z → b ≠ TO → b ≠ i1 → b ≠ i2 → h₁.get? b = some o → h.get? b = some o) →
      h.get? S = some { cls := .type "list", dict := none, data := .seq acc c, slots := #[] } → acc.toList = as.map Value.ref → as.length = i → MadeZ (xs.zip ys) S h as →
      codeAny (model prog w) A (.builtin "list.extend.loop" ⟨[.ref S, .ref z, res], []⟩) R { s with heap := h, toks := tk } := by
  obtain ⟨nz, nTI, nTO, n1, n2, nl1, nl2⟩ := id nS
  obtain ⟨bz, bTO, b1, b2⟩ := below
  intro k
  induction k with
  | zero =>
    intro i h tk c acc as hk hi hst hkeep hS hacc hal hG
    refine codeAny_builtin PySem.F.entry_extend_loop ?_
    rw [Around.under_plainId PySem.F.plain_extend_loop _]
    show wpAny _ A.in1 (pyNext (.ref z) >>= _) _ _ _
    have hend : xs.toArray[i]? = none ∨ ys.toArray[i]? = none := by
      rw [List.length_zip] at hk hi
      rcases Nat.le_total xs.length ys.length with q | q
      · exact .inl (by simp; omega)
      · exact .inr (by simp; omega)
    refine wpAny_bind (z_end (s := { s with heap := h, toks := tk }) (A := A.in1) hh D hst hend fun h' he => ?_)
    refine wpAny_pure (hR h' tk acc c as (fun b o h1 h2 h3 h4 h5 e => he b o h2 h3 h4 h5 (hkeep b o h1 h2 h3 h4 h5 e)) (he S _ nz.symm nTO.symm n1.symm n2.symm hS) (by omega) ⟨hG.rise, hG.above, fun j a hj => ?_⟩ hacc)
    obtain ⟨x, y, e1, e3⟩ := hG.pairs j a hj
    have ha := hG.above a (List.mem_of_getElem? hj)
    exact ⟨x, y, e1, he a _ (Nat.ne_of_gt (Nat.lt_trans bz ha)) (Nat.ne_of_gt (Nat.lt_trans bTO ha)) (Nat.ne_of_gt (Nat.lt_trans b1 ha)) (Nat.ne_of_gt (Nat.lt_trans b2 ha)) e3⟩
  | succ k ih =>
    intro i h tk c acc as hk hi hst hkeep hS hacc hal hG
    have hlt : i < (xs.zip ys).length := by omega
    have hlx : i < xs.length := by rw [List.length_zip] at hlt; omega
    have hly : i < ys.length := by rw [List.length_zip] at hlt; omega
    have hsz : acc.size = i := by rw [← Array.length_toList, hacc, List.length_map, hal]
    refine codeAny_builtin PySem.F.entry_extend_loop ?_
    rw [Around.under_plainId PySem.F.plain_extend_loop _]
    show wpAny _ A.in1 (pyNext (.ref z) >>= _) _ _ _
    have hSl : S < h.objs.size := Heap.lt_size hS
    refine wpAny_bind (z_next (s := { s with heap := h, toks := tk }) (S := S) (x := xs[i]) (y := ys[i]) D hst hSl (by simp [hlx]) (by simp [hly]) fun h' hst' ht hz hkp => ?_)
    dsimp only at ht hz hkp ⊢
    have hS' := hkp S _ nz.symm nTO.symm n1.symm n2.symm hS
    have up : ∀ b o, b ≠ S → h'.get? b = some o → (h'.update S (Obj.mapSeq (·.push (Value.ref h.objs.size)))).get? b = some o := fun b o hb e => (Heap.get?_update_other _ _ (Ne.symm hb)).trans e
    show wpAny _ A.in1 (updateSeq S (·.push (Value.ref h.objs.size)) >>= _) _ _ _
    refine wpAny_bind ?_
    refine wpAny_updateSeq hS' rfl (wpAny_pure ⟨plainId_quiet PySem.F.plain_extend_loop _, ih (i + 1) _ tk _ (acc.push (Value.ref h.objs.size)) (as ++ [h.objs.size]) (by omega) hlt (hst'.keep (S := S) up nS)
      (fun b o h1 h2 h3 h4 h5 e => up b o h1 (hkp b o h2 h3 h4 h5 (hkeep b o h1 h2 h3 h4 h5 e))) (Heap.get?_update_self _ hS' rfl) (by rw [Array.toList_push, hacc, List.map_append]; rfl) (by rw [List.length_append, hal]; rfl) ⟨?_, ?_, ?_⟩⟩) (by rw [hsz]; omega) (by show (acc.push (Value.ref h.objs.size)).size ≤ sizeLine + 1; rw [Array.size_push, hsz]; omega)
    · refine List.pairwise_append.mpr ⟨hG.rise, List.pairwise_singleton _ _, fun a ha b hb => ?_⟩
      rw [List.mem_singleton.mp hb]
      exact hG.there ha
    · intro a ha
      rcases List.mem_append.mp ha with ha | ha
      · exact hG.above a ha
      · rw [List.mem_singleton.mp ha]; exact hSl
    · intro j b hj
      rcases Nat.lt_trichotomy j as.length with h1 | h1 | h1
      · rw [List.getElem?_append_left h1] at hj
        obtain ⟨x, y, e1, e3⟩ := hG.pairs j b hj
        have hb := hG.above b (List.mem_of_getElem? hj)
        exact ⟨x, y, e1, up b _ (Nat.ne_of_gt hb) (hkp b _ (Nat.ne_of_gt (Nat.lt_trans bz hb)) (Nat.ne_of_gt (Nat.lt_trans bTO hb)) (Nat.ne_of_gt (Nat.lt_trans b1 hb)) (Nat.ne_of_gt (Nat.lt_trans b2 hb)) e3)⟩
      · subst h1
        have hb : h.objs.size = b := by simpa using hj
        subst hb
        refine ⟨xs[i], ys[i], ?_, up _ _ (Nat.ne_of_gt hSl) ht⟩
        subst hal
        exact zip_get (List.getElem?_eq_getElem hlx) (List.getElem?_eq_getElem hly)
      · have hnone : (as ++ [h.objs.size])[j]? = none := List.getElem?_eq_none (by rw [List.length_append, List.length_singleton]; omega)
        rw [hnone] at hj; cases hj
end
section
variable {prog : Program} {w : World} {A : Around} {E : Value → Shared → Prop} {s : Shared} {z TI TO i1 i2 l1 l2 : Addr} {xs ys : List Value}
theorem extZ {R : Result → Shared → Prop} (hh : A.handled = none) (D : ZipApart z TI TO i1 i2 l1 l2) (S : Addr) (nS : z ≠ S ∧ TI ≠ S ∧ TO ≠ S ∧ i1 ≠ S ∧ i2 ≠ S ∧ l1 ≠ S ∧ l2 ≠ S) (below : z < S ∧ TO < S ∧ i1 < S ∧ i2 < S) (res : Value) (c₀ : Nat)
    (hz : IsZip s.heap z TI TO .none) (st : ZSt s.heap z TI TO i1 i2 l1 l2 S xs.toArray ys.toArray 0) (hS : s.heap.get? S = some { cls := .type "list", data := .seq #[] c₀ })
    (hR : ∀ h' tk acc c as, (∀ b o, b ≠ S → b ≠ z → b ≠ TO → b ≠ i1 → b ≠ i2 → s.heap.get? b = some o → h'.get? b = some o) → h'.get? S = some { cls := .type "list", dict := none, data := .seq acc c, slots := #[] } → as.length = (xs.zip ys).length → MadeZ (xs.zip ys) S h' as →
      acc.toList = as.map Value.ref → R (.ok (.ret res)) { s with heap := h', toks := tk }) (hn : (xs.zip ys).length ≤ sizeLine) :
    wpAny (model prog w) A.in1 (Builtin.List.listExtendWith (.ref S) (.ref z) res)
      (fun fin s' => match fin with | .done f => R (.ok f) s' | .again c' => c'.quiet = true ∧ codeAny (model prog w) A c' R s') (fun e s' => R (.error e) s') s := by
  have hTy := st.typeIs
  unfold Builtin.List.listExtendWith
  refine wpAny_bind (wpAny_typeOf hTy ?_)
  have h1 : Builtin.List.listSameRef (.ref S) (.ref z) = false := by simp [Builtin.List.listSameRef, Ne.symm nS.1]
  have h2 : (Value.type "zip" == Value.type "list") = false := by decide
  have h3 : (Value.type "zip" == Value.type "tuple") = false := by decide
  simp only [h1, h2, h3, Bool.or_false, Bool.false_eq_true, if_false]
  refine wpAny_bind (wpAny_pyIter_zip hz ?_)
  refine wpAny_bind (wpAny_holding ?_)
  unfold Builtin.List.listLengthHint
  refine wpAny_bind (wpAny_specialOf hTy zip_no_len ?_)
  show wpAny _ A.in1 (specialOf (Value.ref z) (Str.ofString "__length_hint__") >>= _) _ _ _
  refine wpAny_bind (wpAny_specialOf hTy zip_no_hint ?_)
  refine wpAny_pure ?_
  show wpAny _ A.in1 (rule "list.extend.makes-room" >>= fun _ => Builtin.List.listTouch (.ref S) >>= fun _ =>
    again (.builtin "list.extend.loop" ⟨[.ref S, .ref z, res], []⟩)) _ _ _
  refine wpAny_bind (wpAny_rule ?_)
  refine wpAny_bind ?_
  show wpAny _ A.in1 (updateSeq S (·.push .none) >>= fun _ => updateSeq S (·.pop)) _ _ _
  refine wpAny_bind (wpAny_updateSeq hS rfl ?_)
  have hS₂ := Heap.get?_update_self (Obj.mapSeq (·.push Value.none)) hS rfl
  refine wpAny_updateSeq (hz := by seq_fits) hS₂ rfl ?_
  have hS₃ := Heap.get?_update_self (Obj.mapSeq (·.pop)) hS₂ rfl
  have oth : ∀ b o, b ≠ S → s.heap.get? b = some o → ((s.heap.update S (Obj.mapSeq (·.push Value.none))).update S (Obj.mapSeq (·.pop))).get? b = some o :=
    fun b o hb e => (Heap.get?_update_other _ _ (Ne.symm hb)).trans ((Heap.get?_update_other _ _ (Ne.symm hb)).trans e)
  refine wpAny_pure ⟨plainId_quiet PySem.F.plain_extend_loop _, loopZ (s := s) (h₁ := s.heap) hh D nS hn res below hR (xs.zip ys).length 0 _ _ _ _ [] rfl (Nat.zero_le _) (st.keep oth nS) (fun b o n _ _ _ _ e => oth b o n e) hS₃ rfl rfl ⟨List.Pairwise.nil, fun a ha => (nomatch ha), fun j a hj => by simp at hj⟩⟩
theorem initZ {R : Result → Shared → Prop} (hh : A.handled = none) (D : ZipApart z TI TO i1 i2 l1 l2) (S : Addr) (nS : z ≠ S ∧ TI ≠ S ∧ TO ≠ S ∧ i1 ≠ S ∧ i2 ≠ S ∧ l1 ≠ S ∧ l2 ≠ S) (below : z < S ∧ TO < S ∧ i1 < S ∧ i2 < S)
    (hz : IsZip s.heap z TI TO .none) (st : ZSt s.heap z TI TO i1 i2 l1 l2 S xs.toArray ys.toArray 0) (hS : s.heap.get? S = some { cls := .type "list", data := .seq #[] })
    (hR : ∀ h' tk acc c as, (∀ b o, b ≠ S → b ≠ z → b ≠ TO → b ≠ i1 → b ≠ i2 → s.heap.get? b = some o → h'.get? b = some o) → h'.get? S = some { cls := .type "list", dict := none, data := .seq acc c, slots := #[] } → as.length = (xs.zip ys).length → MadeZ (xs.zip ys) S h' as →
      acc.toList = as.map Value.ref → R (.ok (.ret .none)) { s with heap := h', toks := tk }) (hn : (xs.zip ys).length ≤ sizeLine) :
    wpAny (model prog w) A.in1 (Builtin.«list.__init__» ⟨[.ref S, .ref z], []⟩)
      (fun fin s' => match fin with | .done f => R (.ok f) s' | .again c' => c'.quiet = true ∧ codeAny (model prog w) A c' R s') (fun e s' => R (.error e) s') s := by
  show wpAny _ A.in1 (do let old ← Builtin.List.listItems (.ref S); Builtin.List.listUpdate (.ref S) (fun _ => #[]); letGo old.toList.reverse; Builtin.List.listExtendWith (.ref S) (.ref z) .none) _ _ s
  refine wpAny_bind ?_
  unfold Builtin.List.listItems
  refine wpAny_bind (wpAny_seqItems hS rfl (wpAny_pure ?_))
  show wpAny _ A.in1 (updateSeq S (fun _ => #[]) >>= fun _ => letGo (#[] : Array Value).toList.reverse >>= fun _ => Builtin.List.listExtendWith (.ref S) (.ref z) .none) _ _ s
  refine wpAny_bind (wpAny_updateSeq hS rfl ?_)
  have hS₂ := Heap.get?_update_self (Obj.mapSeq (fun _ => (#[] : Array Value))) hS rfl
  have oth : ∀ b o, b ≠ S → s.heap.get? b = some o → (s.heap.update S (Obj.mapSeq (fun _ => (#[] : Array Value)))).get? b = some o :=
    fun b o hb e => (Heap.get?_update_other _ _ (Ne.symm hb)).trans e
  refine wpAny_bind (wpAny_letGo ?_)
  refine extZ (s := { s with heap := s.heap.update S (Obj.mapSeq (fun _ => (#[] : Array Value))) }) hh D S nS below .none _ (oth _ _ nS.1 hz) (st.keep oth nS) hS₂ (fun h' tk acc c as hk hS' hl hG hacc => ?_) hn
  exact hR h' tk acc c as (fun b o a1 a2 a3 a4 a5 e => hk b o a1 a2 a3 a4 a5 (oth b o a1 e)) hS' hl hG hacc
theorem call_listZ {Q : Value → Shared → Prop} (hh : A.handled = none) (D : ZipApart z TI TO i1 i2 l1 l2) (hz : IsZip s.heap z TI TO .none) (st : ∀ S, ZSt s.heap z TI TO i1 i2 l1 l2 S xs.toArray ys.toArray 0)
    (low : z < s.heap.objs.size ∧ TI < s.heap.objs.size ∧ TO < s.heap.objs.size ∧ i1 < s.heap.objs.size ∧ i2 < s.heap.objs.size ∧ l1 < s.heap.objs.size ∧ l2 < s.heap.objs.size) (hn : (xs.zip ys).length ≤ sizeLine)
    (hQ : ∀ h' tk acc c as, (∀ b o, b ≠ z → b ≠ TO → b ≠ i1 → b ≠ i2 → s.heap.get? b = some o → h'.get? b = some o) → h'.get? s.heap.objs.size = some { cls := .type "list", dict := none, data := .seq acc c, slots := #[] } → as.length = (xs.zip ys).length → MadeZ (xs.zip ys) s.heap.objs.size h' as →
      acc.toList = as.map Value.ref → Q (.ref s.heap.objs.size) { s with heap := h', toks := tk }) :
    wpAny (model prog w) A (call (.type "list") [.ref z]) Q E s := by
  obtain ⟨q1, q2, q3, q4, q5, q6, q7⟩ := low
  refine callType_codes (Q₁ := fun obj s₁ => obj = .ref s.heap.objs.size ∧ s₁ = { s with heap := s.heap.push { cls := .type "list", data := .seq #[] } }) F.called_list (F.typeCall_list_1 _) F.entry_list_init
    (code_list_new _ ⟨rfl, rfl⟩) fun obj s₁ h₁ => ?_
  obtain ⟨rfl, rfl⟩ := h₁
  have hS : (s.heap.push { cls := .type "list", data := .seq #[] }).get? s.heap.objs.size = some { cls := .type "list", data := .seq #[] } := Heap.get?_push_size _ rfl
  have nS : z ≠ s.heap.objs.size ∧ TI ≠ s.heap.objs.size ∧ TO ≠ s.heap.objs.size ∧ i1 ≠ s.heap.objs.size ∧ i2 ≠ s.heap.objs.size ∧ l1 ≠ s.heap.objs.size ∧ l2 ≠ s.heap.objs.size :=
    ⟨Nat.ne_of_lt q1, Nat.ne_of_lt q2, Nat.ne_of_lt q3, Nat.ne_of_lt q4, Nat.ne_of_lt q5, Nat.ne_of_lt q6, Nat.ne_of_lt q7⟩
  refine ⟨⟨_, hS, rfl⟩, F.args_list_init_2 _ _, initZ (A := A.in1) (s := { s with heap := s.heap.push { cls := .type "list", data := .seq #[] } }) hh D s.heap.objs.size nS ⟨q1, q3, q4, q5⟩ (Heap.get?_push_of_some _ hz) ((st _).keep (fun b o _ e => Heap.get?_push_of_some _ e) nS) hS (fun h' tk acc c as hk hS' hl hG hacc => ?_) hn⟩
  exact ⟨rfl, hQ h' tk acc c as (fun b o a2 a3 a4 a5 e => hk b o (Nat.ne_of_lt (Heap.lt_size e)) a2 a3 a4 a5 (Heap.get?_push_of_some _ e)) hS' hl hG hacc⟩
end
end G

/-! Z3 -/
namespace G
open PySem PySem.Spec PyProof.Rows L2
abbrev zmA (h : Heap) (a : Addr) : Heap := h.push { cls := .type "list_iterator", data := .fields #[.ref a, .int 0 0] }
abbrev zmB (h : Heap) (a b : Addr) : Heap := (zmA h a).push { cls := .type "tuple_iterator", data := .fields #[.ref b, .int 0 0] }
abbrev zmC (h : Heap) (a b : Addr) : Heap := (zmB h a b).push { cls := .type "tuple", data := .seq #[.ref h.objs.size, .ref (zmA h a).objs.size] }
abbrev zmD (h : Heap) (a b : Addr) : Heap := (zmC h a b).push { cls := .type "tuple", data := .seq #[.none, .none] }
abbrev zmE (h : Heap) (a b : Addr) : Heap := (zmD h a b).push { cls := .type "zip", data := .fields #[.none, .bool false, .bool false, .ref (zmB h a b).objs.size, .ref (zmC h a b).objs.size] }
theorem meets_zipM (a b : Addr) (xs ys : Array Value) :
    Meets (Builtin.«zip.__new__» ⟨[.type "zip", .ref a, .ref b], []⟩) (fun _ R s => s.heap.IsList a xs ∧ s.heap.IsTuple b ys ∧ R (.ok (.ret (.ref (zmD s.heap a b).objs.size))) { s with heap := zmE s.heap a b }) :=
  .of_wp fun prog w A R s h => by
    obtain ⟨hp, g, d, tk, os⟩ := s; obtain ⟨hl1, hl2, h⟩ := h
    have hsub := sub_zip
    have hL1 : Heap.IsList (Shared.heap ⟨hp, g, d, tk, os⟩) a xs := hl1
    have hL2 : Heap.IsTuple (Shared.heap ⟨hp.push { cls := .type "list_iterator", data := .fields #[.ref a, .int 0 0] }, g, d, tk, os⟩) b ys := Heap.IsTuple.push hl2 _
    wp_walk using wpAny_pyIter_list hL1, wpAny_pyIter_tuple hL2
    exact ⟨_, rfl, h⟩
section
variable {prog : Program} {w : World} {A : Around} {E : Value → Shared → Prop} {s : Shared}
theorem call_zipM {a b : Addr} {xs ys : Array Value} {Q : Value → Shared → Prop} (hl1 : s.heap.IsList a xs) (hl2 : s.heap.IsTuple b ys)
    (h : ∀ h', IsZip h' (s.heap.objs.size + 4) (s.heap.objs.size + 2) (s.heap.objs.size + 3) .none → IsPair h' (s.heap.objs.size + 2) (.ref s.heap.objs.size) (.ref (s.heap.objs.size + 1)) →
      IsPair h' (s.heap.objs.size + 3) .none .none → h'.IsListIter s.heap.objs.size a 0 → h'.IsTupleIter (s.heap.objs.size + 1) b 0 → h'.objs.size = s.heap.objs.size + 5 →
      (∀ c o, s.heap.get? c = some o → h'.get? c = some o) → Q (.ref (s.heap.objs.size + 4)) { s with heap := h' }) :
    wpAny (model prog w) A (call (.type "zip") [.ref a, .ref b]) Q E s := by
  refine callType_new PySem.F.called_zip (by decide) (PySem.F.typeCall_zip_2 _ _) (PySem.F.newCall_zip_2 _ _) (fun obj => PySem.F.args_object_init_3 obj _ _) PySem.F.entry_zip_new
    (meets_zipM a b xs ys) ⟨hl1, hl2, ?_⟩
  have q1 : (zmA s.heap a).objs.size = s.heap.objs.size + 1 := Heap.size_push ..
  have q2 : (zmB s.heap a b).objs.size = s.heap.objs.size + 2 := by rw [Heap.size_push, q1]
  have q3 : (zmC s.heap a b).objs.size = s.heap.objs.size + 3 := by rw [Heap.size_push, q2]
  have q4 : (zmD s.heap a b).objs.size = s.heap.objs.size + 4 := by rw [Heap.size_push, q3]
  have q5 : (zmE s.heap a b).objs.size = s.heap.objs.size + 5 := by rw [Heap.size_push, q4]
  have g5 : (zmE s.heap a b).get? (zmD s.heap a b).objs.size = some _ := Heap.get?_push_size _ rfl
  have g4 : (zmE s.heap a b).get? (zmC s.heap a b).objs.size = some _ := Heap.get?_push_of_some _ (Heap.get?_push_size _ rfl)
  have g3 : (zmE s.heap a b).get? (zmB s.heap a b).objs.size = some _ := Heap.get?_push_of_some _ (Heap.get?_push_of_some _ (Heap.get?_push_size _ rfl))
  have g2 : (zmE s.heap a b).get? (zmA s.heap a).objs.size = some _ := Heap.get?_push_of_some _ (Heap.get?_push_of_some _ (Heap.get?_push_of_some _ (Heap.get?_push_size _ rfl)))
  have g1 : (zmE s.heap a b).get? s.heap.objs.size = some _ := Heap.get?_push_of_some _ (Heap.get?_push_of_some _ (Heap.get?_push_of_some _ (Heap.get?_push_of_some _ (Heap.get?_push_size _ rfl))))
  show _ ∧ _
  rw [q2, q3, q4] at g5
  rw [q1, q2] at g3
  rw [q3] at g4
  rw [q1] at g2
  rw [q4]
  exact ⟨⟨_, g5, rfl⟩, h _ g5 g3 g4 ⟨_, g1, rfl, rfl⟩ ⟨_, g2, rfl, rfl⟩ q5 fun c o x =>
    Heap.get?_push_of_some _ (Heap.get?_push_of_some _ (Heap.get?_push_of_some _ (Heap.get?_push_of_some _ (Heap.get?_push_of_some _ x))))⟩
end
/-- two rows: lists, a list and a tuple, tuples -/
def ZKd (K : PySem.W.Frag) (H : Hp) (a b : Addr) (xs ys : List V) : Prop := (SqL K H a xs ∧ SqL K H b ys) ∨ (SqL K H a xs ∧ SqT K H b ys) ∨ (SqT K H a xs ∧ SqT K H b ys)
abbrev tZ (K : PySem.W.Frag) (ta : TA) (Fk : Addr → Addr → List V → List V → Hp → Prop) : L2.St → Hp → Prop := fun σ H => ta σ H fun vs H1 => ∃ a b xs ys, vs = [.ref a, .ref b] ∧ ZKd K H1 a b xs ys ∧ Fk a b xs ys H1
section
variable {X : Cx} {e e2 : Expr} {ta : TA} {p q pos zpos : Pos}
theorem zip_run {pins : List (Addr × Obj)} {σ : L2.St} {H : Hp} {s : Shared} {Fk : Addr → Addr → List V → List V → Hp → Prop} {Q : Value → Shared → Prop} (hg : Gl X "zip") (hm : X.mg "zip" = none) (ha : PA X [e, e2] ta) (I : L2.Inv X pins σ H s) (t : tZ X.K ta Fk σ H)
    (hs : starEach [e, e2] X.env = (false, eval e X.env) :: starEach [e2] X.env) (hpl : (backTo zpos (starEach [e2] X.env)).any (·.1) = false)
    (k : ∀ (H1 : Hp) (s1 : Shared) (a b : Addr) (xs ys : List V) (us vs : List Value) (h' : Heap), L2.Inv X pins σ H1 s1 → Vals xs us → Vals ys vs → xs.length ≤ sizeLine → ys.length ≤ sizeLine → Fk a b xs ys H1 → ZipApart (s1.heap.objs.size + 4) (s1.heap.objs.size + 2) (s1.heap.objs.size + 3) s1.heap.objs.size (s1.heap.objs.size + 1) a b →
      IsZip h' (s1.heap.objs.size + 4) (s1.heap.objs.size + 2) (s1.heap.objs.size + 3) .none → (∀ S, ZSt h' (s1.heap.objs.size + 4) (s1.heap.objs.size + 2) (s1.heap.objs.size + 3) s1.heap.objs.size (s1.heap.objs.size + 1) a b S us.toArray vs.toArray 0) →
      h'.objs.size = s1.heap.objs.size + 5 → a < s1.heap.objs.size → b < s1.heap.objs.size → (∀ c o, s1.heap.get? c = some o → h'.get? c = some o) → Q (.ref (s1.heap.objs.size + 4)) { s1 with heap := h' }) :
    wpAny (model X.prog X.w) X.A (eval (.Call (.Name "zip" p) [e, e2] [] zpos) X.env) Q X.xe s := by
  refine Call_ (ld_blt I hg hm PyProof.Rows.boot_zip (PyProof.Rows.callWith_type1 (thn (ha.run zpos pins s σ H _ I t) fun us s1 ⟨vs, H1, I1, r1, q1⟩ => ?_) hs hpl))
  obtain ⟨a, b, xs, ys, ex, kd, fk⟩ := q1
  subst ex
  cases r1 with
  | cons r rr =>
    cases rr with
    | cons r' rr =>
      cases rr
      cases r
      cases r'
      rcases kd with ⟨hqx, hqy⟩ | ⟨hqx, hqy⟩ | ⟨hqx, hqy⟩
      · obtain ⟨its, rv, p1, z1⟩ := I1.list hqx
        obtain ⟨its2, rv2, p2, z2⟩ := I1.list hqy
        refine call_zip_2 p1.isList p2.isList fun h' hz hTI hTO h1 h2 hsz hk => ?_
        exact k H1 s1 a b xs ys its its2 h' I1 rv rv2 z1 z2 fk (PySem.W.ktu_apart s1.heap.objs.size a b p1.lt p2.lt) hz (fun S => ⟨hTI, .inl ⟨h1, p1.isList.at fun o y => hk _ o y⟩, .inl ⟨h2, p2.isList.at fun o y => hk _ o y⟩, .inl ⟨hz, _, _, hTO⟩⟩) hsz p1.lt p2.lt hk
      · obtain ⟨its, rv, p1, z1⟩ := I1.list hqx
        obtain ⟨its2, rv2, p2, z2⟩ := I1.tuple hqy
        obtain ⟨o2, ho2, _⟩ := id p2
        have l2 := Heap.lt_size ho2
        have t2 : s1.heap.IsTuple b its2.toArray := p2
        refine call_zipM p1.isList t2 fun h' hz hTI hTO h1 h2 hsz hk => ?_
        exact k H1 s1 a b xs ys its its2 h' I1 rv rv2 z1 z2 fk (PySem.W.ktu_apart s1.heap.objs.size a b p1.lt l2) hz (fun S => ⟨hTI, .inl ⟨h1, p1.isList.at fun o y => hk _ o y⟩, .inr ⟨h2, t2.at fun o y => hk _ o y⟩, .inl ⟨hz, _, _, hTO⟩⟩) hsz p1.lt l2 hk
      · obtain ⟨its, rv, p1, z1⟩ := I1.tuple hqx
        obtain ⟨its2, rv2, p2, z2⟩ := I1.tuple hqy
        obtain ⟨o1, ho1, _⟩ := id p1
        obtain ⟨o2, ho2, _⟩ := id p2
        have l1 := Heap.lt_size ho1
        have l2 := Heap.lt_size ho2
        have t1 : s1.heap.IsTuple a its.toArray := p1
        have t2 : s1.heap.IsTuple b its2.toArray := p2
        refine RZ.call_zipT t1 t2 fun h' hz hTI hTO h1 h2 hsz hk => ?_
        exact k H1 s1 a b xs ys its its2 h' I1 rv rv2 z1 z2 fk (PySem.W.ktu_apart s1.heap.objs.size a b l1 l2) hz (fun S => ⟨hTI, .inr ⟨h1, t1.at fun o y => hk _ o y⟩, .inr ⟨h2, t2.at fun o y => hk _ o y⟩, .inl ⟨hz, _, _, hTO⟩⟩) hsz l1 l2 hk
end
/-! the new list and its pairs -/
def putP : Hp → List Addr → List (V × V) → Hp
  | H, t :: ts, q :: qs => upd (putP H ts qs) t (.tup [q.1, q.2])
  | H, _, _ => H
theorem putP_off {b : Addr} : ∀ (as : List Addr) (qs : List (V × V)) (H : Hp), b ∉ as → putP H as qs b = H b
  | [], _, _, _ => by simp [putP]
  | _ :: _, [], _, _ => by simp [putP]
  | a :: as, q :: qs, H, h => by
    show upd (putP H as qs) a _ b = _
    have ne : b ≠ a := fun z => h (by rw [z]; exact List.mem_cons_self)
    rw [upd_ne ne, putP_off as qs H fun z => h (List.mem_cons_of_mem _ z)]
theorem putP_at : ∀ (as : List Addr) (qs : List (V × V)) (H : Hp), as.length = qs.length → as.Nodup → Paired (fun (t : Addr) (q : V × V) => putP H as qs t = some (.tup [q.1, q.2])) as qs
  | [], [], _, _, _ => .nil
  | [], _ :: _, _, h, _ => by simp at h
  | _ :: _, [], _, h, _ => by simp at h
  | a :: as, q :: qs, H, h, n => by
    have n' := List.nodup_cons.mp n
    have ih := putP_at as qs H (by simpa using h) n'.2
    refine .cons upd_same ?_
    have go : ∀ {xs : List Addr} {ys : List (V × V)}, (∀ t ∈ xs, t ∈ as) → Paired (fun (t : Addr) (q : V × V) => putP H as qs t = some (.tup [q.1, q.2])) xs ys →
        Paired (fun (t : Addr) (q' : V × V) => putP H (a :: as) (q :: qs) t = some (.tup [q'.1, q'.2])) xs ys := by
      intro xs ys hx r
      induction r with
      | nil => exact .nil
      | @cons t0 _ _ _ u _ ih2 =>
        refine .cons ?_ (ih2 fun t ht => hx t (List.mem_cons_of_mem _ ht))
        show upd (putP H as qs) a _ _ = _
        have ne : t0 ≠ a := fun z => n'.1 (by rw [← z]; exact hx _ List.mem_cons_self)
        rw [upd_ne ne]
        exact u
    exact go (fun t ht => ht) ih
theorem vals_get {xs : List V} {us : List Value} (r : Vals xs us) {i : Nat} {u : Value} (h : us[i]? = some u) : ∃ x, xs[i]? = some x ∧ RelV x u := by
  induction r generalizing i with
  | nil => simp at h
  | cons a _ ih =>
    cases i with
    | zero => cases h; exact ⟨_, rfl, a⟩
    | succ i => exact ih (i := i) (by simpa using h)
theorem pairs_laidZ {X : Cx} {pins : List (Addr × Obj)} {σ : L2.St} {H : Hp} {s : Shared} {h' : Heap} {tk : Nat} {xs ys : List V} {us vs : List Value} {acc : Array Value} {c : Nat} {as : List Addr} {S : Addr} (I : L2.Inv X pins σ H s) (hz : xs.length ≤ sizeLine) (ru : Vals xs us) (rv : Vals ys vs)
    (hSs : s.heap.objs.size ≤ S) (hk : ∀ b o, s.heap.get? b = some o → h'.get? b = some o) (hS : h'.get? S = some { cls := .type "list", dict := none, data := .seq acc c, slots := #[] }) (hl : as.length = (us.zip vs).length) (hG : MadeZ (us.zip vs) S h' as) (hacc : acc.toList = as.map Value.ref) :
    ∃ H' : Hp, (∀ b o, H b = some o → H' b = some o) ∧ H S = none ∧ (∀ t ∈ as, H t = none) ∧ H' S = some (.lst (as.map V.ref)) ∧ Paired (fun (t : Addr) (q : V × V) => H' t = some (.tup [q.1, q.2])) as (xs.zip ys) ∧ L2.Inv X pins σ H' { s with heap := h', toks := tk } := by
  have lu := ru.length
  have lv := rv.length
  have lq : as.length = (xs.zip ys).length := by rw [hl, List.length_zip, List.length_zip, lu, lv]
  have hSn : S ∉ as := fun z => Nat.lt_irrefl _ (hG.above _ z)
  have nd : as.Nodup := List.Pairwise.imp (fun {a b} (h : a < b) => Nat.ne_of_lt h) hG.rise
  have ab : ∀ t ∈ as, s.heap.objs.size ≤ t := fun t ht => Nat.le_of_lt (Nat.lt_of_le_of_lt hSs (hG.above t ht))
  have new : ∀ t ∈ as, H t = none := fun t ht => I.hok.fresh (ab t ht)
  have newS : H S = none := I.hok.fresh hSs
  have atP := putP_at as (xs.zip ys) (upd H S (.lst (as.map V.ref))) lq nd
  have off : ∀ b, b ∉ as → b ≠ S → putP (upd H S (.lst (as.map V.ref))) as (xs.zip ys) b = H b := fun b h1 h2 => by rw [putP_off as _ _ h1, upd_ne h2]
  have low : ∀ b o, s.heap.get? b = some o → b ∉ as ∧ b ≠ S := fun b o e => ⟨fun z => absurd (Heap.lt_size e) (Nat.not_lt.mpr (ab b z)), fun z => absurd (Heap.lt_size e) (Nat.not_lt.mpr (z ▸ hSs))⟩
  have kp : ∀ b u, H b = some u → (putP (upd H S (.lst (as.map V.ref))) as (xs.zip ys)) b = some u := fun b u e => by
    rw [off b (fun z => by rw [new b z] at e; cases e) (fun z => by rw [z, newS] at e; cases e)]
    exact e
  have eS : putP (upd H S (.lst (as.map V.ref))) as (xs.zip ys) S = some (.lst (as.map V.ref)) := by rw [putP_off as _ _ hSn, upd_same]
  refine ⟨putP (upd H S (.lst (as.map V.ref))) as (xs.zip ys), kp, newS, new, eS, atP, ?_⟩
  refine I.call' (ch := []) rfl ⟨fun b o q _ _ _ => hk b o q, fun b o q _ _ _ => ⟨o.slots, hk b o q⟩, fun b o q n _ => ?_, fun b o q _ => ⟨o, hk b o q⟩, fun b xs q => kp b _ q, fun b o u q => kp b _ q, fun b ps q => ⟨#[], by rw [kp b _ q]; simp⟩⟩ (fun b u q => ?_) I.bare fun b z => by simp at z
  · obtain ⟨z1, z2⟩ := low b o q
    rw [off b z1 z2]
    exact n
  · by_cases hb : b ∈ as
    · obtain ⟨j, pk, e1, e2, e3⟩ := LiI.paired_ix atP hb
      rw [e3] at q
      cases q
      obtain ⟨x, y, f1, f3⟩ := hG.pairs j b e1
      rw [List.getElem?_zip_eq_some] at f1 e2
      obtain ⟨x', g1, g2⟩ := vals_get ru f1.1
      obtain ⟨y', g3, g4⟩ := vals_get rv f1.2
      rw [e2.1] at g1
      rw [e2.2] at g3
      cases g1
      cases g3
      exact ⟨by show 2 ≤ sizeLine; decide, [x, y], .cons g2 (.cons g4 .nil), ⟨_, f3, rfl, _, rfl⟩⟩
    · by_cases hb2 : b = S
      · rw [hb2] at q ⊢
        rw [eS] at q
        cases q
        refine ⟨by rw [List.length_map, lq, List.length_zip]; omega, acc.toList, c, by rw [hacc]; exact LiI.vals_refs as, ?_⟩
        rw [Array.toArray_toList]
        exact hS
      · rw [off b hb hb2] at q
        exact (I.hok b u q).stay (fun d v _ y => hk d v y) (fun d y => kp d _ y) fun d xs y => kp d _ y
def tListZip (K : PySem.W.Frag) (ta : TA) : TE := fun σ H Q => tZ K ta (fun a b xs ys H1 => ∀ (H' : Hp) (p : Addr) (ts : List Addr), (∀ b o, H1 b = some o → H' b = some o) → H1 p = none → (∀ t ∈ ts, H1 t = none) → H' p = some (.lst (ts.map V.ref)) →
  Paired (fun (t : Addr) (q : V × V) => H' t = some (.tup [q.1, q.2])) ts (xs.zip ys) → Q (.ref p) H') σ H
section
variable {X : Cx} {e e2 : Expr} {ta : TA} {p q pos zpos : Pos}
/-- list(zip(a, b)) -/
theorem pe_listZip (K : PySem.W.Frag) (hc : X.calm = true) (ha : PA X [e, e2] ta) (hg : Gl X "list") (hm : X.mg "list" = none) (hgz : Gl X "zip") (hmz : X.mg "zip" = none) (hK : X.K = K := by rfl)
    (hs : starEach [.Call (.Name "zip" q) [e, e2] [] zpos] X.env = (false, eval (.Call (.Name "zip" q) [e, e2] [] zpos) X.env) :: starEach [] X.env := by rfl)
    (hs2 : starEach [e, e2] X.env = (false, eval e X.env) :: starEach [e2] X.env := by rfl) (hpl : (backTo zpos (starEach [e2] X.env)).any (·.1) = false := by rfl) :
    PE X (.Call (.Name "list" p) [.Call (.Name "zip" q) [e, e2] [] zpos] [] pos) (tListZip K ta) := by
  subst hK
  refine ⟨fun pins s σ H Q I hq => ?_⟩
  refine wpAny_Call_Name_kw (ld_blt I hg hm (show bootBuiltins ("list" : Str) = some (.type "list") from by decide +kernel) ?_)
  refine PyProof.Rows.callWith_type1 ?_ hs rfl
  rw [hs]
  show wpAny _ _ (spliced ((false, eval (.Call (.Name "zip" q) [e, e2] [] zpos) X.env) :: backTo pos (starEach [] X.env))) _ _ s
  refine Calls.spliced_cons ?_
  refine zip_run hgz hmz ha I hq hs2 hpl fun H1 s1 a b xs ys us vs h1 I1 ru rv z1 z2 fk D hz st hsz la lb hk => ?_
  refine Calls.spliced_nil ?_
  have n5 : s1.heap.objs.size ≤ h1.objs.size := by rw [hsz]; omega
  have zz : ∀ n : Nat, n < 5 → s1.heap.objs.size + n < h1.objs.size := fun n hn => by rw [hsz]; exact Nat.add_lt_add_left hn _
  refine call_listZ (s := { s1 with heap := h1 }) (xs := us) (ys := vs) (I1.ok.hd hc) D hz st ⟨zz 4 (by decide), zz 2 (by decide), zz 3 (by decide), zz 0 (by decide), zz 1 (by decide), Nat.lt_of_lt_of_le la n5, Nat.lt_of_lt_of_le lb n5⟩ (by rw [List.length_zip]; have := ru.length; omega) fun h' tk acc c as hk2 hS hl hG hacc => ?_
  have low : ∀ {b : Addr} {o : Obj}, s1.heap.get? b = some o → b < s1.heap.objs.size := fun e => Heap.lt_size e
  obtain ⟨H', k1, k2, k3, k4, k5, J⟩ := pairs_laidZ (tk := tk) (S := h1.objs.size) I1 z1 ru rv n5 (fun b o y => by
    have l := low y
    exact hk2 b o (Nat.ne_of_lt (Nat.lt_of_lt_of_le l (Nat.le_add_right _ _))) (Nat.ne_of_lt (Nat.lt_of_lt_of_le l (Nat.le_add_right _ _))) (Nat.ne_of_lt l) (Nat.ne_of_lt (Nat.lt_of_lt_of_le l (Nat.le_add_right _ _))) (hk b o y)) hS hl hG hacc
  exact ⟨.ref _, H', J, rfl, fk H' _ as k1 k2 k3 k4 k5⟩
end
end G

/-! Y2 -/
namespace G
open PySem PySem.Spec PyProof.Rows L2
/-- some pairs of integers, each a new tuple -/
def tPs : List (Int × Int) → TA
  | [] => tNil
  | q :: qs => fun σ H Q => 2 ≤ sizeLine ∧ ∀ t, H t = none → tPs qs σ (upd H t (.tup [.int q.1, .int q.2])) fun vs H' => Q (.ref t :: vs) H'
theorem ps_ok : ∀ (qs : List (Int × Int)) {σ : L2.St} {H : Hp} {Q : List V → Hp → Prop}, (∀ H' ts, Same H H' → Paired (fun (t : Addr) (q : Int × Int) => H' t = some (.tup [.int q.1, .int q.2])) ts qs → Q (ts.map V.ref) H') → tPs qs σ H Q
  | [], σ, H, Q, h => h H [] (Same.refl _) .nil
  | q :: qs, σ, H, Q, h => ⟨by decide, fun t ht => ps_ok qs fun H' ts s r => h H' (t :: ts) ((same_new ht).trans s) (.cons (s _ _ upd_same) r)⟩
theorem lst_ps {qs : List (Int × Int)} {σ : L2.St} {H : Hp} {Q : List V → Hp → Prop} (hz : qs.length ≤ 1000) (h : ∀ H1 l ts, Same H H1 → H l = none → H1 l = some (.lst (ts.map V.ref)) → Paired (fun (t : Addr) (q : Int × Int) => H1 t = some (.tup [.int q.1, .int q.2])) ts qs → Q [.ref l] H1) : tCons (tLst (tPs qs)) tNil σ H Q := by
  refine ps_ok qs fun H1 ts s1 r1 => ?_
  have tl : ts.length = qs.length := Paired.length r1
  refine ⟨by rw [List.length_map, tl, sizeLine_eq]; omega, fun l hl => ?_⟩
  have s2 := same_new (o := .lst (ts.map V.ref)) hl
  refine h _ l ts (s1.trans s2) ?_ upd_same (Paired.mapP r1 fun _ _ z => s2 _ _ z)
  cases e : H l with
  | none => rfl
  | some o => rw [s1 _ _ e] at hl; cases hl
section
variable {P : Program} {w : World} {K : PySem.W.Frag} {mg : Str → Option Value} {base : Heap}
def lowsI : List (Int × Int) := [(1, 2), (1, 2), (1, 3), (2, 3), (1, 10), (3, 4), (1, 1)]
def highsI : List (Int × Int) := [(3, 2), (2, 1), (2, 1), (7, 3), (5, 4), (99, 1), (1, 1)]
theorem lowsI_eq : lowsI = lows.map fun q => ((q.1 : Int), (q.2 : Int)) := by decide +kernel
theorem highsI_eq : highsI = highs.map fun q => ((q.1 : Int), (q.2 : Int)) := by decide +kernel
theorem pair_of {H : Hp} {l : List (Nat × Nat)} {ts : List Addr} {i : Nat} {x : V} (r : Paired (fun (t : Addr) (q : Int × Int) => H t = some (.tup [.int q.1, .int q.2])) ts (l.map fun q => ((q.1 : Int), (q.2 : Int)))) (h : (ts.map V.ref)[i]? = some x) : ∃ t q, x = .ref t ∧ q ∈ l ∧ H t = some (.tup [.int ((q : Nat × Nat).1 : Int), .int (q.2 : Int)]) := by
  rw [List.getElem?_map] at h
  obtain ⟨t, ht, rfl⟩ := Option.map_eq_some_iff.mp h
  obtain ⟨q, hq, e⟩ := paired_get r ht
  rw [List.getElem?_map] at hq
  obtain ⟨q', hq', rfl⟩ := Option.map_eq_some_iff.mp hq
  exact ⟨t, q', rfl, List.mem_of_getElem? hq', e⟩
theorem PotN.up {H H' : Hp} {p : Addr} {n : Nat} (h : PotN H p n) (s : Same H H') : PotN H' p n := h.stay s
theorem Up.thn {x : Addr} {H H1 H2 : Hp} (u : Up x H H1) (s : Same H1 H2) : Up x H H2 := fun b v n e => s _ _ (u b v n e)
theorem pa_as {X : Cx} {es : List Expr} {t t' : TA} (h : PA X es t) (e : t = t') : PA X es t' := e ▸ h
theorem Up.ofSame {x : Addr} {H H1 : Hp} (s : Same H H1) : Up x H H1 := fun b v _ e => s _ _ e
theorem PotN.nref {H : Hp} {p t : Addr} {n : Nat} {xs : List V} (h : PotN H p n) (e : H t = Option.some (HO.tup xs)) : t ≠ p := fun z => by
  obtain ⟨a, b, c, e2, _⟩ := h
  rw [z, e2] at e
  cases e
def sp_stretch_drawn : Sp := fun vs H Q _ => ∃ (p : Addr) (n : Nat), vs = [.ref p] ∧ PotN H p n ∧ n + 2 < 999 ∧
  ∀ H' st sl sh lo hi, lo ∈ lows → hi ∈ highs → H' st = some (.tup [.ref sl, .ref sh]) → H' sl = some (.tup [.int (lo.1 : Nat), .int (lo.2 : Nat)]) → H' sh = some (.tup [.int (hi.1 : Nat), .int (hi.2 : Nat)]) → PotN H' p (n + 2) → Up p H H' → Q (.ref st) H'
theorem c_stretch_drawn (B : Blt mg) (D : DefB K mg "_law_court_stretch_drawn" s_law_court_stretch_drawn ["pot"]) (C1 : C8.Cal P w K mg base 2 "_law_of" (sp_law_of K) []) : C8.Cal P w K mg base 3 "_law_court_stretch_drawn" sp_stretch_drawn [] := by
  have S : C8.scC ["pot", "low"] ["pot"] (C8.fnScope s_law_court_stretch_drawn) = true := by decide +kernel
  have nd := (C8.fnScope_by S).nd
  refine calB D S (fun vs H Q E h => ?_) (fun f cdv A outer s H vs Q E hr h => ?_)
  · obtain ⟨_, _, rfl, _⟩ := h
    rfl
  obtain ⟨p, n, rfl, hp, hn, q⟩ := h
  refine ⟨_, pss_cons (ps_set (i := 1) nd rfl (.inl rfl) (C8.pe_c C1 hr (by decide) rfl (pa_cons (pv 0) (pa_cons (pe_lst (pa_as (t' := tPs lowsI) (pa_cons (pe_tup (pa_cons pe_int (pa_cons pe_int pa_nil))) (pa_cons (pe_tup (pa_cons pe_int (pa_cons pe_int pa_nil))) (pa_cons (pe_tup (pa_cons pe_int (pa_cons pe_int pa_nil))) (pa_cons (pe_tup (pa_cons pe_int (pa_cons pe_int pa_nil))) (pa_cons (pe_tup (pa_cons pe_int (pa_cons pe_int pa_nil))) (pa_cons (pe_tup (pa_cons pe_int (pa_cons pe_int pa_nil))) (pa_cons (pe_tup (pa_cons pe_int (pa_cons pe_int pa_nil))) pa_nil))))))) (by rfl))) pa_nil))))
    (pss_one (ps_ret (pe_tup (pa_cons (pv 1) (pa_cons (C8.pe_c C1 hr (by decide) rfl (pa_cons (pv 0) (pa_cons (pe_lst (pa_as (t' := tPs highsI) (pa_cons (pe_tup (pa_cons pe_int (pa_cons pe_int pa_nil))) (pa_cons (pe_tup (pa_cons pe_int (pa_cons pe_int pa_nil))) (pa_cons (pe_tup (pa_cons pe_int (pa_cons pe_int pa_nil))) (pa_cons (pe_tup (pa_cons pe_int (pa_cons pe_int pa_nil))) (pa_cons (pe_tup (pa_cons pe_int (pa_cons pe_int pa_nil))) (pa_cons (pe_tup (pa_cons pe_int (pa_cons pe_int pa_nil))) (pa_cons (pe_tup (pa_cons pe_int (pa_cons pe_int pa_nil))) pa_nil))))))) (by rfl))) pa_nil))) pa_nil))))), ?_⟩
  refine ⟨_, rfl, ?_⟩
  refine lst_ps (by decide) fun H1 l ts s1 hl0 hl r1 => ?_
  rw [lowsI_eq] at r1
  have tl : ts.length = 7 := by have := Paired.length r1; rw [List.length_map] at this; exact this
  have hlp : l ≠ p := fun z => hp.some (z ▸ hl0)
  refine ⟨p, l, n, ts.map V.ref, rfl, hp.stay s1, by omega, hl, hlp, by rw [List.length_map, tl]; decide, by rw [List.length_map, tl]; decide, fun H2 i x hx hp2 u2 => ?_⟩
  obtain ⟨t, lo, rfl, hlo, et⟩ := pair_of r1 hx
  have et2 := u2 _ _ ((hp.stay s1).nref et) et
  have u02 : Up p H H2 := (Up.same s1).trans u2
  refine ⟨_, rfl, _, rfl, ?_⟩
  refine lst_ps (by decide) fun H3 l3 ts3 s3 hl30 hl3 r3 => ?_
  rw [highsI_eq] at r3
  have tl3 : ts3.length = 7 := by have := Paired.length r3; rw [List.length_map] at this; exact this
  have hlp3 : l3 ≠ p := fun z => hp2.some (z ▸ hl30)
  refine ⟨p, l3, n + 1, ts3.map V.ref, rfl, hp2.stay s3, by omega, hl3, hlp3, by rw [List.length_map, tl3]; decide, by rw [List.length_map, tl3]; decide, fun H5 i5 x5 hx5 hp5 u5 => ?_⟩
  obtain ⟨t5, hi, rfl, hhi, et5⟩ := pair_of r3 hx5
  have et6 := u5 _ _ ((hp2.stay s3).nref et5) et5
  have et7 := u5 _ _ (hp2.nref et2) (s3 _ _ et2)
  refine ⟨by show 2 ≤ sizeLine; decide, fun st hst => ?_⟩
  have s6 := same_new (o := .tup [V.ref t, V.ref t5]) hst
  exact q _ st t t5 lo hi hlo hhi upd_same (s6 _ _ et7) (s6 _ _ et6) (hp5.stay s6) ((u02.thn s3).trans (u5.thn s6))
end
end G

/-! Y1b -/
namespace G
open PySem PySem.Spec PyProof.Rows L2
/-! rooms -/
abbrev LsAt (H : Hp) (t : Addr) (r : List Str) : Prop := H t = some (.lst (r.map V.str))
structure RoomsOk (ns seen : List Str) (rs : List (List Str)) : Prop where
  ne : ∀ r ∈ rs, 1 ≤ r.length
  inn : ∀ r ∈ rs, ∀ x ∈ r, x ∈ ns
  nd : rs.flatten.Nodup
  sub : ∀ x ∈ rs.flatten, x ∈ seen
theorem flatten_set {x : Str} : ∀ {rs : List (List Str)} {j : Nat} {r : List Str}, rs[j]? = some r → ((rs.set j (r ++ [x])).flatten).Perm (x :: rs.flatten)
  | [], j, r, h => by simp at h
  | q :: rs, 0, r, h => by
    cases h
    show ((q ++ [x]) ++ rs.flatten).Perm (x :: (q ++ rs.flatten))
    rw [List.append_assoc]
    exact List.perm_middle
  | q :: rs, j + 1, r, h => by
    have ih := flatten_set (x := x) (rs := rs) (j := j) (r := r) (by simpa using h)
    show (q ++ (rs.set j (r ++ [x])).flatten).Perm (x :: (q ++ rs.flatten))
    exact (List.Perm.append_left q ih).trans List.perm_middle
theorem RoomsOk.add {ns seen : List Str} {rs : List (List Str)} {j : Nat} {r : List Str} {x : Str} (h : RoomsOk ns seen rs) (hj : rs[j]? = some r) (hx : x ∈ ns) (hs : x ∉ seen) : RoomsOk ns (seen ++ [x]) (rs.set j (r ++ [x])) := by
  have hr := List.mem_of_getElem? hj
  have pm := flatten_set (x := x) hj
  refine ⟨fun q hq => ?_, fun q hq y hy => ?_, pm.nodup_iff.mpr (List.nodup_cons.mpr ⟨fun m => hs (h.sub x m), h.nd⟩), fun y hy => ?_⟩
  · rcases List.mem_or_eq_of_mem_set hq with hq | rfl
    · exact h.ne q hq
    · rw [List.length_append]; show 1 ≤ r.length + 1; omega
  · rcases List.mem_or_eq_of_mem_set hq with hq | rfl
    · exact h.inn q hq y hy
    · rcases List.mem_append.mp hy with hy | hy
      · exact h.inn r hr y hy
      · rw [List.mem_singleton.mp hy]; exact hx
  · rcases List.mem_cons.mp (pm.mem_iff.mp hy) with rfl | hy
    · exact List.mem_append_right _ (List.mem_singleton.mpr rfl)
    · exact List.mem_append_left _ (h.sub y hy)
theorem RoomsOk.more {ns seen seen2 : List Str} {rs : List (List Str)} (h : RoomsOk ns seen rs) (s : ∀ x ∈ seen, x ∈ seen2) : RoomsOk ns seen2 rs := ⟨h.ne, h.inn, h.nd, fun x hx => s x (h.sub x hx)⟩
theorem flat_one : ∀ rm : List Str, (rm.map fun x => [x]).flatten = rm
  | [] => rfl
  | x :: rm => by
    show [x] ++ (rm.map fun x => [x]).flatten = _
    rw [flat_one rm]
    rfl
theorem RoomsOk.one {ns rm : List Str} (h : ∀ x ∈ rm, x ∈ ns) (nd : rm.Nodup) : RoomsOk ns rm (rm.map fun x => [x]) := by
  refine ⟨fun r hr => ?_, fun r hr x hx => ?_, by rw [flat_one]; exact nd, fun x hx => by rw [flat_one] at hx; exact hx⟩
  · obtain ⟨y, _, rfl⟩ := List.mem_map.mp hr
    exact Nat.le_refl 1
  · obtain ⟨y, hy, rfl⟩ := List.mem_map.mp hr
    rw [List.mem_singleton.mp hx]
    exact h y hy
theorem rooms_put {H : Hp} {t : Addr} {r' : List Str} : ∀ {ts : List Addr} {rs : List (List Str)} {j : Nat}, Paired (LsAt H) ts rs → ts.Nodup → ts[j]? = some t → Paired (LsAt (upd H t (.lst (r'.map V.str)))) ts (rs.set j r')
  | [], _, j, _, _, h => by simp at h
  | a :: ts, _, 0, .cons e r, nd, h => by
    cases h
    have n' := List.nodup_cons.mp nd
    refine .cons (by show upd H t _ t = _; exact upd_same) ?_
    have go : ∀ {xs : List Addr} {ys : List (List Str)}, (∀ u ∈ xs, u ∈ ts) → Paired (LsAt H) xs ys → Paired (LsAt (upd H t (.lst (r'.map V.str)))) xs ys := by
      intro xs ys hx r
      induction r with
      | nil => exact .nil
      | @cons u _ _ _ e _ ih =>
        refine .cons ?_ (ih fun v hv => hx v (List.mem_cons_of_mem _ hv))
        show upd H t _ u = _
        have : u ≠ t := fun z => n'.1 (by rw [← z]; exact hx u List.mem_cons_self)
        rw [upd_ne this]
        exact e
    exact go (fun _ m => m) r
  | a :: ts, _, j + 1, .cons e r, nd, h => by
    have n' := List.nodup_cons.mp nd
    have h' : ts[j]? = some t := by simpa using h
    refine .cons ?_ (rooms_put r n'.2 h')
    show upd H t _ a = _
    have : a ≠ t := fun z => n'.1 (by rw [z]; exact List.mem_of_getElem? h')
    rw [upd_ne this]
    exact e
theorem owners_flat : ∀ {qs : List (Str × List Str)}, (ownersOf qs).map (·.1) = (qs.map (·.2)).flatten
  | [] => rfl
  | q :: qs => by
    have ih := owners_flat (qs := qs)
    show List.map (fun (x : Str × Str) => x.1) ((q.2.map fun p => ((p, q.1) : Str × Str)) ++ ownersOf qs) = q.2 ++ (qs.map (·.2)).flatten
    rw [List.map_append, List.map_map, ih]
    congr 1
    exact List.map_id' q.2
theorem paired_zip {α β γ δ : Type} {F : α → γ → Prop} {G : β → δ → Prop} : ∀ {as : List α} {bs : List β} {cs : List γ} {ds : List δ}, Paired F as cs → Paired G bs ds → Paired (fun p q => F p.1 q.1 ∧ G p.2 q.2) (as.zip bs) (cs.zip ds)
  | _, _, _, _, .nil, _ => by simp; exact .nil
  | _, _, _, _, .cons _ _, .nil => by simp; exact .nil
  | _, _, _, _, .cons a r, .cons b s => .cons ⟨a, b⟩ (paired_zip r s)
end G

/-! F3 -/
namespace G
open PySem PySem.Spec PyProof.Rows L2
theorem rows_sum {ws : List Str} {b : Nat} (h : ∀ x ∈ ws, x.length ≤ b) (z : Str) (hz : z.length ≤ 1) (hb : ws.length * (b + 1) ≤ 16777216) : (ws.map (·.length)).sum + ws.length * z.length ≤ 16777216 := by
  have h1 := sum_le (fun x : Str => x.length) b ws h
  have h2 : ws.length * z.length ≤ ws.length * 1 := Nat.mul_le_mul_left _ hz
  rw [Nat.mul_one] at h2
  rw [Nat.mul_add, Nat.mul_one] at hb
  omega
theorem valV_places {a b c d e f : V} : valV [((Sum.inr ("places" : Str) : L2.Key), a), (.inr "ways", b), (.inr "delays", c), (.inr "stretch", d), (.inr "players", e), (.inr "balls", f)] (.inr "places") = some a := by kernel_rfl
theorem valV_ways {a b c d e f : V} : valV [((Sum.inr ("places" : Str) : L2.Key), a), (.inr "ways", b), (.inr "delays", c), (.inr "stretch", d), (.inr "players", e), (.inr "balls", f)] (.inr "ways") = some b := by kernel_rfl
theorem valV_delays {a b c d e f : V} : valV [((Sum.inr ("places" : Str) : L2.Key), a), (.inr "ways", b), (.inr "delays", c), (.inr "stretch", d), (.inr "players", e), (.inr "balls", f)] (.inr "delays") = some c := by kernel_rfl
theorem valV_stretch {a b c d e f : V} : valV [((Sum.inr ("places" : Str) : L2.Key), a), (.inr "ways", b), (.inr "delays", c), (.inr "stretch", d), (.inr "players", e), (.inr "balls", f)] (.inr "stretch") = some d := by kernel_rfl
theorem valV_players {a b c d e f : V} : valV [((Sum.inr ("places" : Str) : L2.Key), a), (.inr "ways", b), (.inr "delays", c), (.inr "stretch", d), (.inr "players", e), (.inr "balls", f)] (.inr "players") = some e := by kernel_rfl
theorem valV_balls {a b c d e f : V} : valV [((Sum.inr ("places" : Str) : L2.Key), a), (.inr "ways", b), (.inr "delays", c), (.inr "stretch", d), (.inr "players", e), (.inr "balls", f)] (.inr "balls") = some f := by kernel_rfl
theorem dget_of {H : Hp} {d : Addr} {kvs : List (L2.Key × V)} {k : Str} {v : V} (h : H d = some (.dK kvs)) (e : valV kvs (.inr k) = some v) : DGet H d (.str k) (some v) := by
  have := DGet.k (k := Sum.inr k) h
  rw [e] at this
  exact this
theorem Same.put {H H1 : Hp} {r : Addr} {o : HO} (s : Same H H1) (hr : H r = none) : Same H (upd H1 r o) := fun b v e => by
  rw [upd_ne (ne_of_none e hr)]
  exact s _ _ e
theorem way_words {o : OwnD} (h : OwnOk o) {w : WayN} (hw : w ∈ o.ways) : ∀ x ∈ ([("way" : Str), w.1, w.2.1, numS w.2.2] : List Str), x.length ≤ 10 := fun x hx => by
  have k := h.wk w hw
  simp only [List.mem_cons, List.not_mem_nil, or_false] at hx
  rcases hx with rfl | rfl | rfl | rfl
  · decide +kernel
  · exact (name_word (h.pk _ k.1)).2
  · exact (name_word (h.pk _ k.2.1)).2
  · exact Nat.le_trans (numS_l (by omega)) (by decide)
theorem player_words {o : OwnD} (h : OwnOk o) {q : Str × List Str} (hq : q ∈ o.players) : (∀ x ∈ (("player" : Str) :: q.1 :: q.2), x.length ≤ 10) ∧ q.2.length ≤ 12 := ⟨fun x hx => by
  have k := h.yk q hq
  rcases List.mem_cons.mp hx with rfl | hx
  · decide +kernel
  rcases List.mem_cons.mp hx with rfl | hx
  · exact (name_word k.1).2
  · exact (name_word (h.pk _ (k.2.2 _ hx))).2, Nat.le_trans (nodup_len_sub (sub_nodup hq h.yo) (h.yk q hq).2.2) h.p12⟩
theorem delay_words {o : OwnD} (h : OwnOk o) {d : (Str × Str) × Nat} (hd : d ∈ o.delays) : ∀ x ∈ ([("delay" : Str), d.1.1, d.1.2, numS d.2] : List Str), x.length ≤ 10 := fun x hx => by
  have k := h.dk d hd
  have pname : ∀ {n : Str}, n ∈ o.players.map (·.1) → nameOk n = true := fun {n} hn => by
    obtain ⟨q, hq, rfl⟩ := List.mem_map.mp hn
    exact (h.yk q hq).1
  simp only [List.mem_cons, List.not_mem_nil, or_false] at hx
  rcases hx with rfl | rfl | rfl | rfl
  · decide +kernel
  · exact (name_word (pname k.1)).2
  · exact (name_word (pname k.2.1)).2
  · exact Nat.le_trans (numS_l (by omega)) (by decide)
theorem ball_words {o : OwnD} (h : OwnOk o) {b : Str × Str} (hb : b ∈ o.balls) : ∀ x ∈ ([("ball" : Str), b.1, b.2] : List Str), x.length ≤ 10 := fun x hx => by
  have k := h.bk b hb
  simp only [List.mem_cons, List.not_mem_nil, or_false] at hx
  rcases hx with rfl | rfl | rfl
  · decide +kernel
  · exact (name_word k.1).2
  · obtain ⟨q, hq, hp⟩ := owner_room.mp k.2
    exact (name_word (h.pk _ ((h.yk q hq).2.2 _ hp))).2
section
variable {P : Program} {w : World} {K : PySem.W.Frag} {mg : Str → Option Value} {base : Heap}
abbrev txN : List Str := ["own", "rows", "one", "place", "other", "length", "name", "room", "its", "ticks"]
def sp_court_text : Sp := fun vs H Q _ => ∃ (d : Addr) (o : OwnD), vs = [.ref d] ∧ OwnAt H d o ∧ OwnOk o ∧ ∀ H', Same H H' → Q (.str (ownText o)) H'
theorem c_court_text (B : Blt mg) (D : DefB K mg "_law_court_text" s_law_court_text ["own"]) (C1 : C8.Cal P w K mg base 1 "_law_frac_text" sp_frac_text []) : C8.Cal P w K mg base 2 "_law_court_text" sp_court_text [] := by
  have S : C8.scC txN ["own"] (C8.fnScope s_law_court_text) = true := by decide +kernel
  have nd := (C8.fnScope_by S).nd
  refine calB D S (fun vs H Q E h => ?_) (fun f cdv A outer s H vs Q E hr h => ?_)
  · obtain ⟨_, _, rfl, _⟩ := h
    rfl
  obtain ⟨d, o, rfl, OA, ok, q⟩ := h
  have hu := hu_of hr
  refine ⟨_, pss_cons (ps_set (i := 1) nd rfl (.inl rfl) (pe_lst (pa_cons pe_str (pa_cons (pe_op op_add_str pe_str (t_join K pe_str (pa_cons (pe_lc (own := [("one", 2)]) (g := gName 2) (tt := tYes) rfl nd (pi_tup (pe_dget hu (pv 0) pe_str (fun _ _ => rfl))) (blkOk_by (N := txN) (sc := C8.fnScope s_law_court_text) (by decide +kernel)) (fun _ _ _ _ _ => by exact pg_name (i := 2) nd rfl (.inl rfl)) (fun _ _ _ _ _ => pts_nil)
        (fun _ _ _ _ _ => by exact C8.pe_c C1 hr (by decide) rfl (pa_cons (pv 2) pa_nil))) pa_nil))) pa_nil))))
    (pss_cons (ps_expr (pe_bm PySem.F.plainAttrs_list PySem.F.slot_list_extend PySem.F.type_list_extend mt_extend (pv 1) (pa_cons (pe_lc (own := [("place", 3)]) (g := gName 3) (tt := tYes) rfl nd (pi_list (pe_dget hu (pv 0) pe_str (fun _ _ => rfl))) (blkOk_by (N := txN) (sc := C8.fnScope s_law_court_text) (by decide +kernel)) (fun _ _ _ _ _ => by exact pg_name (i := 3) nd rfl (.inl rfl)) (fun _ _ _ _ _ => pts_nil)
        (fun _ _ _ _ _ => by exact pe_op op_add_str pe_str (pv 3))) pa_nil)))
    (pss_cons (ps_expr (pe_bm PySem.F.plainAttrs_list PySem.F.slot_list_extend PySem.F.type_list_extend mt_extend (pv 1) (pa_cons (pe_lc (own := [("one", 2), ("other", 4), ("length", 5)]) (tt := tYes) rfl nd (pi_list (pe_dget hu (pv 0) pe_str (fun _ _ => rfl))) (blkOk_by (N := txN) (sc := C8.fnScope s_law_court_text) (by decide +kernel)) (fun _ _ _ _ _ => by exact t_gt K (n := 3) rfl (pgs_cons (pg_name (i := 2) nd rfl (.inl rfl)) (pgs_cons (pg_name (i := 4) nd rfl (.inl rfl)) (pgs_cons (pg_name (i := 5) nd rfl (.inl rfl)) pgs_nil)))) (fun _ _ _ _ _ => pts_nil)
        (fun _ _ _ _ _ => by exact t_join K pe_str (pa_cons (pe_lst (pa_cons pe_str (pa_cons (pv 2) (pa_cons (pv 4) (pa_cons (pe_callTy call_str_int (by rfl) B.str PyProof.Rows.boot_str (pa_cons (pe_callTy call_int1 (by rfl) B.int (by decide +kernel) (pa_cons (pv 5) pa_nil)) pa_nil)) pa_nil))))) pa_nil))) pa_nil)))
    (pss_cons (ps_expr (pe_bm PySem.F.plainAttrs_list PySem.F.slot_list_extend PySem.F.type_list_extend mt_extend (pv 1) (pa_cons (pe_lc (own := [("name", 6), ("room", 7)]) (tt := tYes) rfl nd (pi_list (pe_dget hu (pv 0) pe_str (fun _ _ => rfl))) (blkOk_by (N := txN) (sc := C8.fnScope s_law_court_text) (by decide +kernel)) (fun _ _ _ _ _ => by exact t_gt K (n := 2) rfl (pgs_cons (pg_name (i := 6) nd rfl (.inl rfl)) (pgs_cons (pg_name (i := 7) nd rfl (.inl rfl)) pgs_nil))) (fun _ _ _ _ _ => pts_nil)
        (fun _ _ _ _ _ => by exact t_join K pe_str (pa_cons (pe_op op_cat (pe_lst (pa_cons pe_str (pa_cons (pv 6) pa_nil))) (t_listOf K B (pa_cons (pv 7) pa_nil))) pa_nil))) pa_nil)))
    (pss_cons (ps_expr (pe_bm PySem.F.plainAttrs_list PySem.F.slot_list_extend PySem.F.type_list_extend mt_extend (pv 1) (pa_cons (pe_lock (pe_lc (own := [("one", 2), ("its", 8), ("ticks", 9)]) (tt := tYes) rfl nd (pi_itemsT (pe_dget hu (pv 0) pe_str (fun _ _ => rfl))) (blkOk_by (N := txN) (sc := C8.fnScope s_law_court_text) (by decide +kernel)) (fun _ _ _ _ _ => by exact t_gt K (n := 2) rfl (pgs_cons (t_gt K (n := 2) rfl (pgs_cons (pg_name (i := 2) nd rfl (.inl rfl)) (pgs_cons (pg_name (i := 8) nd rfl (.inl rfl)) pgs_nil))) (pgs_cons (pg_name (i := 9) nd rfl (.inl rfl)) pgs_nil))) (fun _ _ _ _ _ => pts_nil)
        (fun _ _ _ _ _ => by exact t_join K pe_str (pa_cons (pe_lst (pa_cons pe_str (pa_cons (pv 2) (pa_cons (pv 8) (pa_cons (pe_callTy call_str_int (by rfl) B.str PyProof.Rows.boot_str (pa_cons (pe_callTy call_int1 (by rfl) B.int (by decide +kernel) (pa_cons (pv 9) pa_nil)) pa_nil)) pa_nil))))) pa_nil)))) pa_nil)))
    (pss_cons (ps_expr (pe_bm PySem.F.plainAttrs_list PySem.F.slot_list_extend PySem.F.type_list_extend mt_extend (pv 1) (pa_cons (pe_lc (own := [("name", 6), ("place", 3)]) (tt := tYes) rfl nd (pi_list (pe_dget hu (pv 0) pe_str (fun _ _ => rfl))) (blkOk_by (N := txN) (sc := C8.fnScope s_law_court_text) (by decide +kernel)) (fun _ _ _ _ _ => by exact t_gt K (n := 2) rfl (pgs_cons (pg_name (i := 6) nd rfl (.inl rfl)) (pgs_cons (pg_name (i := 3) nd rfl (.inl rfl)) pgs_nil))) (fun _ _ _ _ _ => pts_nil)
        (fun _ _ _ _ _ => by exact t_join K pe_str (pa_cons (pe_lst (pa_cons pe_str (pa_cons (pv 6) (pa_cons (pv 3) pa_nil)))) pa_nil))) pa_nil)))
    (pss_one (ps_ret (t_join K pe_str (pa_cons (pv 1) pa_nil))))))))), ?_⟩
  have nS : ∀ {b : Addr} {u : HO}, H b = some u → ∀ {r : Addr}, H r = none → b ≠ r := fun e _ hr => ne_of_none e hr
  obtain ⟨pl, wy, dl, st, sl, sh, ps, bl, ws, ys, bs, h1, h2, ⟨h3, h3b⟩, h4, h5, h6, h7, ⟨h8, h8b⟩, ⟨h9, h9b⟩⟩ := OA.ex
  have lo := low_ok _ ok.lo
  have hi := high_ok _ ok.hi
  refine ⟨rfl, _, rfl, d, _, rfl, dget_of h1 valV_stretch, st, rfl, ⟨_, SqT.of h5⟩, fun D1 hD1 => ?_⟩
  refine lc_fm (walk_tup (K := K) (a := st) (xs := [V.ref sl, V.ref sh])) (fun i => (([frW o.low, frW o.high] : List Str)[i]?).map V.str) (by show 2 ≤ 100000; decide) hD1 (fun _ s1 => SqT.of (s1 _ _ h5)) ?_ ?_
  · rintro i x H3 H2 Kk Kn hi2 s2 ⟨rfl, hx⟩ k1 k2
    match i, hi2, hx, k1 with
    | 0, _, hx, k1 => cases hx; exact ⟨rfl, yes_if ⟨_, rfl, sl, o.low, rfl, s2 _ _ h6, lo.2.1, lo.2.2.1, k1 _ _ rfl (Same.refl _)⟩⟩
    | 1, _, hx, k1 => cases hx; exact ⟨rfl, yes_if ⟨_, rfl, sh, o.high, rfl, s2 _ _ h7, hi.2.1, hi.2.2.1, k1 _ _ rfl (Same.refl _)⟩⟩
  intro H1 s1 hl1
  have hl1 : H1 D1 = some (.lst (([frW o.low, frW o.high] : List Str).map V.str)) := hl1
  have wl1 : ∀ x ∈ ([frW o.low, frW o.high] : List Str), x.length ≤ 10 := fun x hx => by
    simp only [List.mem_cons, List.not_mem_nil, or_false] at hx
    rcases hx with rfl | rfl
    · exact lo.2.2.2.2.2
    · exact hi.2.2.2.2.2
  refine ⟨_, D1, [frW o.low, frW o.high], rfl, rfl, .inl (SqL.of hl1), rows_sum wl1 _ (Nat.le_of_eq blank_len) (by show 2 * 11 ≤ 16777216; decide), _, _, rfl, rfl, ?_, by show 2 ≤ sizeLine; decide, fun r hr => ?_⟩
  · have := words_len wl1
    have l8 : ("stretch " : Str).length = 8 := by decide +kernel
    rw [l8, sizeLine_eq]
    have e : ([frW o.low, frW o.high] : List Str).length * (10 + 1) = 22 := rfl
    omega
  generalize hR0 : ([("court" : Str), ("stretch " : Str) ++ Txt.join " " [frW o.low, frW o.high]] : List Str) = R0
  have hr0 : H r = none := by
    cases e : H r with
    | none => rfl
    | some u => rw [s1 _ _ e] at hr; cases hr
  have s2 : Same H (upd H1 r (.lst (R0.map V.str))) := Same.put s1 hr0
  have r2 : (upd H1 r (.lst (R0.map V.str))) r = some (.lst (R0.map V.str)) := upd_same
  have R0l : R0.length = 2 := by rw [← hR0]; rfl
  rw [show ([V.str ("court" : Str), V.str (("stretch " : Str) ++ Txt.join " " [frW o.low, frW o.high])] : List V) = R0.map V.str by rw [← hR0]; rfl]
  generalize upd H1 r (.lst (R0.map V.str)) = Ha at s2 r2
  -- places
  obtain ⟨pl, wy, dl, st, sl, sh, ps, bl, ws, ys, bs, h1, h2, ⟨h3, h3b⟩, h4, h5, h6, h7, ⟨h8, h8b⟩, ⟨h9, h9b⟩⟩ := (OA.stay s2).ex
  refine ⟨_, rfl, .inl ⟨rfl, _, SqL.of r2⟩, _, rfl, d, _, rfl, dget_of h1 valV_places, pl, rfl, ⟨_, SqL.of h2⟩, fun D2 hD2 => ?_⟩
  refine lc_fm (walk_list (K := K) (a := pl) (xs := o.places.map V.str)) (fun i => (o.places[i]?).map fun p => V.str (("place " : Str) ++ p)) (by rw [List.length_map]; have := ok.p12; omega) hD2 (fun _ s1 => SqL.of (s1 _ _ h2)) ?_ ?_
  · rintro i x H3 H2 Kk Kn hi2 s3 ⟨rfl, hx⟩ k1 k2
    rw [List.getElem?_map] at hx
    obtain ⟨p, hp, rfl⟩ := Option.map_eq_some_iff.mp hx
    have pw := (name_word (ok.pk _ (List.mem_of_getElem? hp))).2
    have l6 : ("place " : Str).length = 6 := by decide +kernel
    exact ⟨rfl, yes_if ⟨_, rfl, _, _, rfl, rfl, by rw [l6, sizeLine_eq]; omega, k1 _ _ (by rw [hp]; rfl) (Same.refl _)⟩⟩
  intro H2 s3 hl2
  rw [List.length_map, range_map] at hl2
  have r3 := s3 _ _ r2
  have dr2 : D2 ≠ r := fun z => by rw [z, r2] at hD2; cases hD2
  refine ⟨r, D2, _, _, rfl, rfl, r3, hl2, by rw [List.length_map, List.length_map, R0l, sizeLine_eq]; have := ok.p12; omega, ?_⟩
  generalize hR1 : R0 ++ o.places.map (fun (p : Str) => ("place " : Str) ++ p) = R1
  have R1l : R1.length ≤ 14 := by rw [← hR1, List.length_append, List.length_map, R0l]; have := ok.p12; omega
  rw [show R0.map V.str ++ o.places.map (fun p => V.str (("place " : Str) ++ p)) = R1.map V.str by rw [← hR1, List.map_append, List.map_map]; rfl]
  have s4 : Same H (upd H2 r (.lst (R1.map V.str))) := Same.put (s2.trans s3) hr0
  have r4 : (upd H2 r (.lst (R1.map V.str))) r = some (.lst (R1.map V.str)) := upd_same
  generalize upd H2 r (.lst (R1.map V.str)) = Hb at s4 r4
  -- ways
  obtain ⟨pl, wy, dl, st, sl, sh, ps, bl, ws, ys, bs, h1, h2, ⟨h3, h3b⟩, h4, h5, h6, h7, ⟨h8, h8b⟩, ⟨h9, h9b⟩⟩ := (OA.stay s4).ex
  refine ⟨_, rfl, .inl ⟨rfl, _, SqL.of r4⟩, _, rfl, d, _, rfl, dget_of h1 valV_ways, wy, rfl, ⟨_, SqL.of h3⟩, fun D3 hD3 => ?_⟩
  have wlen : ws.length = o.ways.length := by rw [Paired.length h3b, List.length_map]
  refine lc_fm (walk_list (K := K) (a := wy) (xs := ws.map V.ref)) (fun i => (o.ways[i]?).map fun w => V.str (wayZ w)) (by rw [List.length_map]; have := ok.w25; omega) hD3 (fun _ s1 => SqL.of (s1 _ _ h3)) ?_ ?_
  · rintro i x H3 H2 Kk Kn hi2 s5 ⟨rfl, hx⟩ k1 k2
    rw [List.getElem?_map] at hx
    obtain ⟨t, ht, rfl⟩ := Option.map_eq_some_iff.mp hx
    obtain ⟨wI, hwI, tw⟩ := paired_get h3b ht
    rw [List.getElem?_map] at hwI
    obtain ⟨wn, hw, ew⟩ := Option.map_eq_some_iff.mp hwI
    subst ew
    have k := ok.wk wn (List.mem_of_getElem? hw)
    have t3 : H2 t = some (.tup [.str wn.1, .str wn.2.1, .int wn.2.2]) := s5 _ _ tw
    refine ⟨t, _, rfl, SqT.of t3, rfl, _, _, rfl, _, _, rfl, _, _, rfl, rfl, rfl, yes_if ⟨rfl, _, rfl, _, rfl, _, rfl, .inl ⟨_, rfl, _, rfl, log_ok (by omega), by show 4 ≤ sizeLine; decide, fun g hg => ?_⟩⟩⟩
    exact ⟨_, g, [("way" : Str), wn.1, wn.2.1, numS wn.2.2], rfl, rfl, .inl (SqL.of upd_same), rows_sum (way_words ok (List.mem_of_getElem? hw)) _ (Nat.le_of_eq blank_len) (by show 4 * 11 ≤ 16777216; decide), k1 _ _ (by rw [hw]; rfl) (same_new hg)⟩
  intro H2 s5 hl2
  rw [List.length_map, wlen, range_map] at hl2
  have r5 := s5 _ _ r4
  refine ⟨r, D3, _, _, rfl, rfl, r5, hl2, by rw [List.length_map, List.length_map, sizeLine_eq]; have := ok.w25; omega, ?_⟩
  generalize hR2 : R1 ++ o.ways.map wayZ = R2
  have R2l : R2.length ≤ 39 := by rw [← hR2, List.length_append, List.length_map]; have := ok.w25; omega
  rw [show R1.map V.str ++ o.ways.map (fun w => V.str (wayZ w)) = R2.map V.str by rw [← hR2, List.map_append, List.map_map]; rfl]
  have s6 : Same H (upd H2 r (.lst (R2.map V.str))) := Same.put (s4.trans s5) hr0
  have r6 : (upd H2 r (.lst (R2.map V.str))) r = some (.lst (R2.map V.str)) := upd_same
  generalize upd H2 r (.lst (R2.map V.str)) = Hc at s6 r6
  -- players
  obtain ⟨pl, wy, dl, st, sl, sh, ps, bl, ws, ys, bs, h1, h2, ⟨h3, h3b⟩, h4, h5, h6, h7, ⟨h8, h8b⟩, ⟨h9, h9b⟩⟩ := (OA.stay s6).ex
  refine ⟨_, rfl, .inl ⟨rfl, _, SqL.of r6⟩, _, rfl, d, _, rfl, dget_of h1 valV_players, ps, rfl, ⟨_, SqL.of h8⟩, fun D4 hD4 => ?_⟩
  have ylen : ys.length = o.players.length := Paired.length h8b
  refine lc_fm (walk_list (K := K) (a := ps) (xs := ys.map V.ref)) (fun i => (o.players[i]?).map fun q => V.str (playerZ q)) (by rw [List.length_map]; have := ok.y6; omega) hD4 (fun _ s1 => SqL.of (s1 _ _ h8)) ?_ ?_
  · rintro i x H3 H2 Kk Kn hi2 s7 ⟨rfl, hx⟩ k1 k2
    rw [List.getElem?_map] at hx
    obtain ⟨t, ht, rfl⟩ := Option.map_eq_some_iff.mp hx
    obtain ⟨qn, hw, u, tw, tu⟩ := paired_get h8b ht
    obtain ⟨k, kl⟩ := player_words ok (List.mem_of_getElem? hw)
    have t3 := s7 _ _ tw
    have u3 := s7 _ _ tu
    refine ⟨t, _, rfl, SqT.of t3, rfl, _, _, rfl, _, _, rfl, rfl, rfl, yes_if ⟨rfl, _, rfl, by show 2 ≤ sizeLine; decide, fun g hg => ?_⟩⟩
    have sg := same_new (o := .lst [V.str "player", V.str qn.1]) hg
    have hg1 : (upd H2 g (.lst [V.str "player", V.str qn.1])) g = some (.lst [V.str "player", V.str qn.1]) := upd_same
    generalize upd H2 g (.lst [V.str "player", V.str qn.1]) = Hg at sg hg1
    refine ⟨_, rfl, u, _, rfl, .inl (SqL.of (sg _ _ u3)), fun l hl => ?_⟩
    have sl' := same_new (o := .lst (qn.2.map V.str)) hl
    have hl3 : (upd Hg l (.lst (qn.2.map V.str))) l = some (.lst (qn.2.map V.str)) := upd_same
    generalize upd Hg l (.lst (qn.2.map V.str)) = Hl at sl' hl3
    refine ⟨g, l, _, _, rfl, rfl, sl' _ _ hg1, hl3, by rw [List.length_map, sizeLine_eq]; show 2 + _ ≤ _; omega, fun m hm => ?_⟩
    exact ⟨_, m, ("player" : Str) :: qn.1 :: qn.2, rfl, rfl, .inl (SqL.of (by rw [upd_same]; rfl)), rows_sum k _ (Nat.le_of_eq blank_len) (by rw [List.length_cons, List.length_cons]; omega), k1 _ _ (by rw [hw]; rfl) ((sg.trans sl').trans (same_new hm))⟩
  intro H2 s7 hl2
  rw [List.length_map, ylen, range_map] at hl2
  have r7 := s7 _ _ r6
  refine ⟨r, D4, _, _, rfl, rfl, r7, hl2, by rw [List.length_map, List.length_map, sizeLine_eq]; have := ok.y6; omega, ?_⟩
  generalize hR3 : R2 ++ o.players.map playerZ = R3
  have R3l : R3.length ≤ 45 := by rw [← hR3, List.length_append, List.length_map]; have := ok.y6; omega
  rw [show R2.map V.str ++ o.players.map (fun w => V.str (playerZ w)) = R3.map V.str by rw [← hR3, List.map_append, List.map_map]; rfl]
  have s8 : Same H (upd H2 r (.lst (R3.map V.str))) := Same.put (s6.trans s7) hr0
  have r8 : (upd H2 r (.lst (R3.map V.str))) r = some (.lst (R3.map V.str)) := upd_same
  generalize upd H2 r (.lst (R3.map V.str)) = Hd at s8 r8
  -- delays
  obtain ⟨pl, wy, dl, st, sl, sh, ps, bl, ws, ys, bs, h1, h2, ⟨h3, h3b⟩, h4, h5, h6, h7, ⟨h8, h8b⟩, ⟨h9, h9b⟩⟩ := (OA.stay s8).ex
  refine ⟨_, rfl, .inl ⟨rfl, _, SqL.of r8⟩, dl, _, h4, trivial, fun od => ?_⟩
  have ddl : d ≠ dl := fun z => by rw [z, h4] at h1; cases h1
  have rdl : r ≠ dl := fun z => by rw [z, h4] at r8; cases r8
  generalize hU : HO.dT (lenT (o.delays.map dlI)) = U at *
  refine ⟨_, rfl, d, _, rfl, dget_of (by rw [upd_ne ddl]; exact h1) valV_delays, dl, od, lenT (o.delays.map dlI), rfl, by rw [upd_same, hU], fun D5 hD5 => ?_⟩
  have nD5 : D5 ≠ dl := fun z => by rw [z, upd_same] at hD5; cases hD5
  refine lc_fm (walk_itemsT (d := dl) (o := od) (kvs := lenT (o.delays.map dlI))) (fun i => (o.delays[i]?).map fun w => V.str (delayZ w)) (by unfold lenT; rw [List.length_map, List.length_map]; have := ok.d30; omega) hD5 (fun Hl s => by rw [s _ _ upd_same, hU]) ?_ ?_
  · rintro i x H3 H2 Kk Kn hi2 s9 ⟨T, kk, v, qa, hk, rfl, hT, hqa, rfl⟩ k1 k2
    have hk2 : (lenT (o.delays.map dlI))[i]? = some (kk, v) := hk
    unfold lenT at hk2
    rw [List.getElem?_map, List.getElem?_map] at hk2
    obtain ⟨dI, hdI, e⟩ := Option.map_eq_some_iff.mp hk2
    obtain ⟨dn, hw, ew⟩ := Option.map_eq_some_iff.mp hdI
    subst ew
    obtain ⟨rfl, rfl⟩ := Prod.mk.inj e
    have k := ok.dk dn (List.mem_of_getElem? hw)
    have hqa : H3 qa = some (.tup [.str dn.1.1, .str dn.1.2]) := hqa
    have sT := same_new (o := .tup [V.ref qa, V.int (dlI dn).2]) hT
    refine ⟨T, _, rfl, SqT.of upd_same, rfl, _, _, rfl, qa, _, rfl, SqT.of (sT _ _ hqa), rfl, _, _, rfl, _, _, rfl, rfl, _, _, rfl, rfl, rfl, yes_if ⟨rfl, _, rfl, _, rfl, _, rfl, .inl ⟨_, rfl, _, rfl, log_ok (n := dn.2) (by omega), by show 4 ≤ sizeLine; decide, fun g hg => ?_⟩⟩⟩
    exact ⟨_, g, [("delay" : Str), dn.1.1, dn.1.2, numS dn.2], rfl, rfl, .inl (SqL.of upd_same), rows_sum (delay_words ok (List.mem_of_getElem? hw)) _ (Nat.le_of_eq blank_len) (by show 4 * 11 ≤ 16777216; decide), k1 _ _ (by rw [hw]; rfl) (sT.trans (same_new hg))⟩
  intro H4 s9 hl2
  have hsU : Same Hd (upd H4 dl U) := fun b u e => by
    by_cases z : b = dl
    · rw [z, h4] at e
      rw [z, upd_same]
      exact e
    · rw [upd_ne z]
      exact s9 _ _ (by rw [upd_ne z]; exact e)
  refine ⟨s9 _ _ upd_same, ?_⟩
  have hlU : (upd H4 dl U) D5 = some (.lst (o.delays.map fun w => V.str (delayZ w))) := by
    rw [upd_ne nD5, hl2]
    unfold lenT
    rw [List.length_map, List.length_map, range_map]
  generalize upd H4 dl U = He at hsU hlU
  have r9 := hsU _ _ r8
  refine ⟨r, D5, _, _, rfl, rfl, r9, hlU, by rw [List.length_map, List.length_map, sizeLine_eq]; have := ok.d30; omega, ?_⟩
  generalize hR4 : R3 ++ o.delays.map delayZ = R4
  have R4l : R4.length ≤ 75 := by rw [← hR4, List.length_append, List.length_map]; have := ok.d30; omega
  rw [show R3.map V.str ++ o.delays.map (fun w => V.str (delayZ w)) = R4.map V.str by rw [← hR4, List.map_append, List.map_map]; rfl]
  have s10 : Same H (upd He r (.lst (R4.map V.str))) := Same.put (s8.trans hsU) hr0
  have r10 : (upd He r (.lst (R4.map V.str))) r = some (.lst (R4.map V.str)) := upd_same
  generalize upd He r (.lst (R4.map V.str)) = Hf at s10 r10
  subst hU
  -- balls
  obtain ⟨pl, wy, dl, st, sl, sh, ps, bl, ws, ys, bs, h1, h2, ⟨h3, h3b⟩, h4, h5, h6, h7, ⟨h8, h8b⟩, ⟨h9, h9b⟩⟩ := (OA.stay s10).ex
  refine ⟨_, rfl, .inl ⟨rfl, _, SqL.of r10⟩, _, rfl, d, _, rfl, dget_of h1 valV_balls, bl, rfl, ⟨_, SqL.of h9⟩, fun D6 hD6 => ?_⟩
  have blen : bs.length = o.balls.length := Paired.length h9b
  refine lc_fm (walk_list (K := K) (a := bl) (xs := bs.map V.ref)) (fun i => (o.balls[i]?).map fun w => V.str (ballZ w)) (by rw [List.length_map]; have := ok.b5; omega) hD6 (fun _ s1 => SqL.of (s1 _ _ h9)) ?_ ?_
  · rintro i x H3 H2 Kk Kn hi2 s11 ⟨rfl, hx⟩ k1 k2
    rw [List.getElem?_map] at hx
    obtain ⟨t, ht, rfl⟩ := Option.map_eq_some_iff.mp hx
    obtain ⟨bn, hw, tw⟩ := paired_get h9b ht
    have t3 : H2 t = some (.tup [.str bn.1, .str bn.2]) := s11 _ _ tw
    refine ⟨t, _, rfl, SqT.of t3, rfl, _, _, rfl, _, _, rfl, rfl, rfl, yes_if ⟨rfl, _, rfl, _, rfl, by show 3 ≤ sizeLine; decide, fun g hg => ?_⟩⟩
    exact ⟨_, g, [("ball" : Str), bn.1, bn.2], rfl, rfl, .inl (SqL.of upd_same), rows_sum (ball_words ok (List.mem_of_getElem? hw)) _ (Nat.le_of_eq blank_len) (by show 3 * 11 ≤ 16777216; decide), k1 _ _ (by rw [hw]; rfl) (same_new hg)⟩
  intro H2 s11 hl2
  rw [List.length_map, blen, range_map] at hl2
  have r11 := s11 _ _ r10
  refine ⟨r, D6, _, _, rfl, rfl, r11, hl2, by rw [List.length_map, List.length_map, sizeLine_eq]; have := ok.b5; omega, ?_⟩
  have hR5 : R4 ++ o.balls.map ballZ = ownRows o := by
    rw [← hR4, ← hR3, ← hR2, ← hR1, ← hR0]
    unfold ownRows
    simp only [List.cons_append, List.nil_append, List.append_assoc]
  rw [show R4.map V.str ++ o.balls.map (fun w => V.str (ballZ w)) = (ownRows o).map V.str by rw [← hR5, List.map_append, List.map_map]; rfl]
  have s12 : Same H (upd H2 r (.lst ((ownRows o).map V.str))) := Same.put (s10.trans s11) hr0
  refine ⟨rfl, _, rfl, _, r, ownRows o, rfl, rfl, .inl (SqL.of upd_same), rows_sum (fun x hx => (row_short ok x hx).2) _ (Nat.le_of_eq feed_len) (by have := ownRows_len ok; omega), q _ s12⟩
end
end G

/-! Y1c -/
namespace G
open PySem PySem.Spec PyProof.Rows L2
theorem merge4 {a b c d : V} : mergeK [] [((Sum.inr ("places" : Str) : L2.Key), a), (.inr "ways", b), (.inr "delays", c), (.inr "stretch", d)] = [((Sum.inr ("places" : Str) : L2.Key), a), (.inr "ways", b), (.inr "delays", c), (.inr "stretch", d)] := by kernel_rfl
theorem put5 {a b c d e : V} : putK [((Sum.inr ("places" : Str) : L2.Key), a), (.inr "ways", b), (.inr "delays", c), (.inr "stretch", d)] (.inr "players") e = [((Sum.inr ("places" : Str) : L2.Key), a), (.inr "ways", b), (.inr "delays", c), (.inr "stretch", d), (.inr "players", e)] := by kernel_rfl
theorem put6 {a b c d e f : V} : putK [((Sum.inr ("places" : Str) : L2.Key), a), (.inr "ways", b), (.inr "delays", c), (.inr "stretch", d), (.inr "players", e)] (.inr "balls") f = [((Sum.inr ("places" : Str) : L2.Key), a), (.inr "ways", b), (.inr "delays", c), (.inr "stretch", d), (.inr "players", e), (.inr "balls", f)] := by kernel_rfl
theorem val5_players {a b c d e : V} : valV [((Sum.inr ("places" : Str) : L2.Key), a), (.inr "ways", b), (.inr "delays", c), (.inr "stretch", d), (.inr "players", e)] (.inr "players") = some e := by kernel_rfl
theorem val5_delays {a b c d e : V} : valV [((Sum.inr ("places" : Str) : L2.Key), a), (.inr "ways", b), (.inr "delays", c), (.inr "stretch", d), (.inr "players", e)] (.inr "delays") = some c := by kernel_rfl
theorem rml_of {H : Hp} : ∀ {us : List Addr} {pn : List Str} {ts : List Addr} {rs : List (List Str)}, Paired (fun (t : Addr) (q : V × V) => H t = some (.tup [q.1, q.2])) us ((pn.map V.str).zip (ts.map V.ref)) → Paired (LsAt H) ts rs → Paired (RmL H) us (pn.zip rs)
  | us, [], ts, rs, r, k => by
    rw [List.map_nil, List.zip_nil_left] at r
    cases r
    rw [List.zip_nil_left]
    exact .nil
  | us, x :: pn, _, _, r, .nil => by
    rw [List.map_nil, List.zip_nil_right] at r
    cases r
    rw [List.zip_nil_right]
    exact .nil
  | us, x :: pn, _, _, r, .cons e2 k => by
    rw [List.map_cons, List.map_cons, List.zip_cons_cons] at r
    cases r with
    | cons e r => exact .cons ⟨_, e, e2⟩ (rml_of r k)
/-! delays -/
structure DelOk (pn : List Str) (i : Nat) (ds : List ((Str × Str) × Nat)) : Prop where
  ok : ∀ d ∈ ds, d.1.1 ∈ pn.take i ∧ d.1.2 ∈ pn ∧ d.2 ≤ 99 ∧ d.1.1 ≠ d.1.2
  nd : (ds.map (·.1)).Nodup
structure DelIn (pn : List Str) (a : Str) (i j : Nat) (ds : List ((Str × Str) × Nat)) : Prop where
  ok : ∀ d ∈ ds, (d.1.1 ∈ pn.take i ∨ (d.1.1 = a ∧ d.1.2 ∈ pn.take j)) ∧ d.1.2 ∈ pn ∧ d.2 ≤ 99 ∧ d.1.1 ≠ d.1.2
  nd : (ds.map (·.1)).Nodup
theorem DelOk.start {pn : List Str} {i : Nat} {a : Str} {ds : List ((Str × Str) × Nat)} (h : DelOk pn i ds) : DelIn pn a i 0 ds := ⟨fun d hd => ⟨.inl (h.ok d hd).1, (h.ok d hd).2⟩, h.nd⟩
theorem DelIn.fin {pn : List Str} {i : Nat} {a : Str} {ds : List ((Str × Str) × Nat)} {j : Nat} (h : DelIn pn a i j ds) (ha : pn[i]? = some a) : DelOk pn (i + 1) ds := ⟨fun d hd => ⟨by
  rcases (h.ok d hd).1 with e | e
  · exact take_mono e (by omega)
  · rw [e.1]; exact mem_take_ix ha (by omega), (h.ok d hd).2⟩, h.nd⟩
theorem DelIn.skip {pn : List Str} {i j : Nat} {a : Str} {ds : List ((Str × Str) × Nat)} (h : DelIn pn a i j ds) : DelIn pn a i (j + 1) ds := ⟨fun d hd => ⟨by
  rcases (h.ok d hd).1 with e | e
  · exact .inl e
  · exact .inr ⟨e.1, take_mono e.2 (by omega)⟩, (h.ok d hd).2⟩, h.nd⟩
theorem DelIn.fresh {pn : List Str} {i j : Nat} {a b : Str} {ds : List ((Str × Str) × Nat)} (h : DelIn pn a i j ds) (nd : pn.Nodup) (ha : pn[i]? = some a) (hb : pn[j]? = some b) : (a, b) ∉ ds.map (·.1) := fun z => by
  obtain ⟨d, hd, e⟩ := List.mem_map.mp z
  have e : d.1 = (a, b) := e
  rcases (h.ok d hd).1 with q | q
  · rw [e] at q
    obtain ⟨k, hk, hx⟩ := take_ix q
    have := nodup_ix nd ha hx
    omega
  · have q2 := q.2
    rw [e] at q2
    obtain ⟨k, hk, hx⟩ := take_ix q2
    have := nodup_ix nd hb hx
    omega
theorem DelIn.add {pn : List Str} {i j : Nat} {a b : Str} {n : Nat} {ds : List ((Str × Str) × Nat)} (h : DelIn pn a i j ds) (nd : pn.Nodup) (ha : pn[i]? = some a) (hb : pn[j]? = some b) (ab : a ≠ b) (hn : n ≤ 99) : DelIn pn a i (j + 1) (ds ++ [((a, b), n)]) := by
  have hs := h.skip
  refine ⟨fun d hd => ?_, ?_⟩
  · rcases List.mem_append.mp hd with hd | hd
    · exact hs.ok d hd
    · rw [List.mem_singleton.mp hd]
      exact ⟨.inr ⟨rfl, mem_take_ix hb (by omega)⟩, List.mem_of_getElem? hb, hn, ab⟩
  · rw [List.map_append]
    refine List.nodup_append.mpr ⟨h.nd, by simp, fun x hx y hy e => ?_⟩
    have hy : y = (a, b) := by simpa using hy
    exact h.fresh nd ha hb (by rw [← hy, ← e]; exact hx)
theorem put_delay {ds : List ((Str × Str) × Nat)} {a b : Str} {n : Nat} (f : (a, b) ∉ ds.map (·.1)) : putK (lenT (ds.map dlI)) [.inr a, .inr b] (V.int (n : Int)) = lenT ((ds ++ [((a, b), n)]).map dlI) := by
  rw [lenT_put, putT_fresh, List.map_append]
  · rfl
  · refine lookup_none_of fun z => f ?_
    rw [List.map_map] at z
    exact z
theorem pairs_len (pn : List Str) : (pn.flatMap fun a => pn.map fun b => ((a, b) : Str × Str)).length = pn.length * pn.length := by
  have : ∀ xs : List Str, (xs.flatMap fun a => pn.map fun b => ((a, b) : Str × Str)).length = xs.length * pn.length := fun xs => by
    induction xs with
    | nil => simp
    | cons x xs ih => rw [List.flatMap_cons, List.length_append, ih, List.length_map, List.length_cons, Nat.succ_mul, Nat.add_comm]
  exact this pn
theorem DelOk.len {pn : List Str} {i : Nat} {ds : List ((Str × Str) × Nat)} (h : DelOk pn i ds) (l : pn.length ≤ 4) : ds.length ≤ 16 := by
  have s : ∀ x ∈ ds.map (·.1), x ∈ pn.flatMap fun a => pn.map fun b => ((a, b) : Str × Str) := fun x hx => by
    obtain ⟨d, hd, rfl⟩ := List.mem_map.mp hx
    obtain ⟨h1, h2, _⟩ := h.ok d hd
    exact List.mem_flatMap.mpr ⟨d.1.1, List.mem_of_mem_take h1, List.mem_map.mpr ⟨d.1.2, h2, rfl⟩⟩
  have := h.nd.length_le_of_subset s
  rw [List.length_map, pairs_len] at this
  have : pn.length * pn.length ≤ 4 * 4 := Nat.mul_le_mul l l
  omega
theorem DelIn.len {pn : List Str} {i j : Nat} {a : Str} {ds : List ((Str × Str) × Nat)} (h : DelIn pn a i j ds) (ha : pn[i]? = some a) (l : pn.length ≤ 4) : ds.length ≤ 16 := (h.fin ha).len l
/-! balls -/
theorem cut_balls : ∀ b : Nat, b ≤ 4 → cutV (poolB.map V.str) none (some (b : Int)) = (poolB.take b).map V.str
  | 0, _ => by kernel_rfl
  | 1, _ => by kernel_rfl
  | 2, _ => by kernel_rfl
  | 3, _ => by kernel_rfl
  | 4, _ => by kernel_rfl
  | n + 5, h => by omega
end G

/-! Y3 -/
namespace G
open PySem PySem.Spec PyProof.Rows L2
/-- the scope of the rest's row -/
abbrev scRest : Scope := { kind := .function, names := [(".0", .local), ("place", .cell), ("any", .globalImplicit), ("rooms", .cell)], isGenerator := false, isCoroutine := false }
theorem t_gl (K : PySem.W.Frag) {X : Cx} {es : List Expr} {k : Nat} {t : TGs} {n : Nat} {pos : Pos} (hc : X.calm = true) (h : PGs X es t) (hK : X.K = K := by rfl)
    (hn : (assignEach es X.env).length = n := by rfl) (hst : (assignEach es X.env).findIdx? (·.1) = none := by rfl) : PG X (.Tuple es k pos) (gUnl K n t) := by subst hK; exact pg_unl hc h hn hst
theorem t_pil (K : PySem.W.Frag) {X : Cx} {tg l : Expr} {tl : TE} (hl : PE X l tl) (hK : X.K = K := by rfl) : PI X tg l (iList K tl) := by subst hK; exact pi_list hl
theorem op_inK (K : PySem.W.Frag) {X : Cx} (hK : X.K = K := by rfl) : OpR X (compareOp .In) (rIn K false) := by subst hK; exact op_in_seq
theorem Same.none {H H' : Hp} {a : Addr} (s : Same H H') (h : H' a = Option.none) : H a = Option.none := by
  cases e : H a with
  | none => rfl
  | some o => exact absurd ((s _ _ e).symm.trans h) (by simp)
theorem ne_new {H : Hp} {a b : Addr} (h : H a ≠ none) (k : H b = none) : a ≠ b := fun z => h (by rw [z]; exact k)
theorem paired_app {α β : Type} {F : α → β → Prop} : ∀ {xs xs2 : List α} {ys ys2 : List β}, Paired F xs ys → Paired F xs2 ys2 → Paired F (xs ++ xs2) (ys ++ ys2)
  | _, _, _, _, .nil, k => k
  | _, _, _, _, .cons a r, k => .cons a (paired_app r k)
theorem Paired.mapP' {α β : Type} {F G : α → β → Prop} : ∀ {xs : List α} {ys : List β}, Paired F xs ys → (∀ a b, a ∈ xs → F a b → G a b) → Paired G xs ys
  | _, _, .nil, _ => .nil
  | _, _, .cons a r, h => .cons (h _ _ List.mem_cons_self a) (Paired.mapP' r fun x y m => h x y (List.mem_cons_of_mem _ m))
/-- all stays but what is told -/
def UpM (M : List Addr) (H H' : Hp) : Prop := ∀ b o, b ∉ M → H b = some o → H' b = some o
theorem UpM.refl (M : List Addr) (H : Hp) : UpM M H H := fun _ _ _ e => e
theorem UpM.trans {M : List Addr} {H H1 H2 : Hp} (a : UpM M H H1) (b : UpM M H1 H2) : UpM M H H2 := fun x o n e => b x o n (a x o n e)
theorem UpM.up {M : List Addr} {p : Addr} {H H1 H2 : Hp} (a : UpM M H H1) (u : Up p H1 H2) (hp : p ∈ M) : UpM M H H2 := fun x o n e => u x o (fun z => n (by rw [z]; exact hp)) (a x o n e)
theorem UpM.same {M : List Addr} {H H1 H2 : Hp} (a : UpM M H H1) (s : Same H1 H2) : UpM M H H2 := fun x o n e => s x o (a x o n e)
theorem UpM.own {M : List Addr} {b : Addr} {H H1 : Hp} {o : HO} (a : UpM M H H1) (h : b ∈ M) : UpM M H (upd H1 b o) := fun x o' n e => by
  rw [upd_ne (fun z => n (by rw [z]; exact h))]
  exact a x o' n e
theorem UpM.mono {M N : List Addr} {H H1 : Hp} (a : UpM M H H1) (h : ∀ x ∈ M, x ∈ N) : UpM N H H1 := fun x o n e => a x o (fun z => n (h x z)) e
theorem UpM.over {M : List Addr} {p : Addr} {H H0 H1 : Hp} (a : UpM M H0 H1) (u : Up p H H0) (h : ∀ x ∈ M, x = p ∨ H x = none) : Up p H H1 := fun b o n e => a b o (fun z => by
  rcases h b z with z | z
  · exact n z
  · rw [z] at e; cases e) (u b o n e)
theorem inV_way (x a b : Str) (n : Int) : inV (.str x) [V.str a, V.str b, V.int n] = (decide (x = a) || decide (x = b)) := by
  show (eqV (.str a) (.str x) || (eqV (.str b) (.str x) || (false || false))) = _
  have e : ∀ c : Str, eqV (.str c) (.str x) = decide (x = c) := fun c => by
    show (c == x) = _
    by_cases h : x = c
    · subst h; simp
    · rw [decide_eq_false h]
      exact beq_eq_false_iff_ne.mpr fun z => h z.symm
  rw [e, e, Bool.or_false, Bool.or_false]
theorem rest_eq (rm : List Str) : ∀ ns : List Str, ns.filterMap (fun pl => if pl ∈ rm then none else some (V.str pl)) = (ns.filter fun x => decide (x ∉ rm)).map V.str
  | [] => rfl
  | x :: ns => by
    by_cases c : x ∈ rm
    · rw [List.filterMap_cons, if_pos c, List.filter_cons, if_neg (by simpa using c)]
      exact rest_eq rm ns
    · rw [List.filterMap_cons, if_neg c, List.filter_cons, if_pos (by simpa using c), List.map_cons]
      show _ :: _ = _
      rw [rest_eq rm ns]
theorem lens_in {i : Nat} {x : V} {l : List Nat} (h : (l.map fun k : Nat => V.int k)[i]? = some x) : ∃ k, x = .int (k : Nat) ∧ k ∈ l := by
  rw [List.getElem?_map] at h
  obtain ⟨k, hk, rfl⟩ := Option.map_eq_some_iff.mp h
  exact ⟨k, rfl, List.mem_of_getElem? hk⟩
abbrev drN : List Str := ["pot", "places", "players", "balls", "names", "ways", "at", "lap", "one", "other", "place", "rooms", "rest", "room", "own", "its", "homes", "way", "name"]
section
variable {P : Program} {w : World} {K : PySem.W.Frag} {mg : Str → Option Value} {base : Heap}
def sp_drawn : Sp := fun vs H Q _ => ∃ (p : Addr) (n0 n m b : Nat), vs = [.ref p, .int n, .int m, .int b] ∧ PotN H p n0 ∧ n0 + 120 < 999 ∧ 2 ≤ n ∧ n ≤ 8 ∧ 2 ≤ m ∧ m ≤ 4 ∧ m ≤ n ∧ 1 ≤ b ∧ b ≤ 4 ∧
  ∀ H' d o, OwnAt H' d o → OwnOk o → o.places.length = n → o.players.length = m → o.balls.length = b → PotN H' p (n0 + 120) → Up p H H' → Q (.ref d) H'
theorem c_drawn (B : Blt mg) (D : DefB K mg "_law_court_drawn" s_law_court_drawn ["pot", "places", "players", "balls"]) (CT : C8.Cal P w K mg base 1 "_law_take" sp_law_take []) (CO : C8.Cal P w K mg base 2 "_law_of" (sp_law_of K) [])
    (CS : C8.Cal P w K mg base 2 "_law_some" (sp_law_some K) []) (CD : C8.Cal P w K mg base 3 "_law_court_stretch_drawn" sp_stretch_drawn []) : C8.Cal P w K mg base 4 "_law_court_drawn" sp_drawn [] := by
  have S : C8.scC drN ["pot", "places", "players", "balls"] (C8.fnScope s_law_court_drawn) = true := by decide +kernel
  have nd := (C8.fnScope_by S).nd
  refine calB D S (fun vs H Q E h => ?_) (fun f cdv A outer s H vs Q E hr h => ?_)
  · obtain ⟨_, _, _, _, _, rfl, _⟩ := h
    rfl
  obtain ⟨p, n0, n, m, b, rfl, hp, hn0, n2, n8, m2, m4, mn, b1, b4, q⟩ := h
  have hu := hu_of hr
  refine ⟨_, pss_cons (ps_set (i := 4) nd rfl (.inl rfl) (C8.pe_c CS hr (by decide) rfl (pa_cons (pv 0) (pa_cons (pe_lst (pa_cons pe_str (pa_cons pe_str (pa_cons pe_str (pa_cons pe_str (pa_cons pe_str (pa_cons pe_str (pa_cons pe_str (pa_cons pe_str (pa_cons pe_str (pa_cons pe_str pa_nil))))))))))) (pa_cons (pv 1) pa_nil)))))
    (pss_cons (ps_set (i := 5) nd rfl (.inl rfl) (pe_lst pa_nil))
    (pss_cons (ps_for PassesOwn.never rfl (pi_range2 (by rfl) B.rng (pa_cons pe_int (pa_cons (pv 1) pa_nil))) (pg_name (i := 6) nd rfl (.inl rfl))
      (pss_one (ps_expr (pe_bm PySem.F.plainAttrs_list PySem.F.slot_list_append PySem.F.type_list_append mt_append (pv 5) (pa_cons (pe_tup (pa_cons (t_il K (pv 4) (C8.pe_c CT hr (by decide) rfl (pa_cons (pv 0) (pa_cons (pv 6) pa_nil)))) (pa_cons (t_il K (pv 4) (pv 6)) (pa_cons (C8.pe_c CO hr (by decide) rfl (pa_cons (pv 0) (pa_cons (pe_lst (pa_cons pe_int (pa_cons pe_int (pa_cons pe_int (pa_cons pe_int (pa_cons pe_int (pa_cons pe_int pa_nil))))))) pa_nil))) pa_nil)))) pa_nil)))))
    (pss_cons (ps_for PassesOwn.never rfl (pi_range1 (by rfl) B.rng (pa_cons (C8.pe_c CT hr (by decide) rfl (pa_cons (pv 0) (pa_cons pe_int pa_nil))) pa_nil)) (pg_name (i := 7) nd rfl (.inl rfl))
      (pss_cons (ps_asg (C8.pe_c CS hr (by decide) rfl (pa_cons (pv 0) (pa_cons (pv 4) (pa_cons pe_int pa_nil)))) (t_gl K (n := 2) rfl (pgs_cons (pg_name (i := 8) nd rfl (.inr rfl)) (pgs_cons (pg_name (i := 9) nd rfl (.inr rfl)) pgs_nil))))
      (pss_one (ps_if (pt_not (pt_val (t_any K rfl B (pa_cons (pe_lc (own := [("way", 17)]) (g := gName 17) (tt := tYes) rfl nd (pi_list (pv 5)) (blkOk_by (N := drN) (sc := C8.fnScope s_law_court_drawn) (by decide +kernel)) (fun _ _ _ _ _ => by exact pg_name (i := 17) nd rfl (.inl rfl)) (fun _ _ _ _ _ => pts_nil)
          (fun _ _ _ _ _ => by exact pe_and (pe_cmpR (op_inK K) (pv 8) (pv 17) (by rfl)) (pe_one (pe_cmpR (op_inK K) (pv 9) (pv 17) (by rfl))))) pa_nil))))
        (pss_one (ps_expr (pe_bm PySem.F.plainAttrs_list PySem.F.slot_list_append PySem.F.type_list_append mt_append (pv 5) (pa_cons (pe_tup (pa_cons (pv 8) (pa_cons (pv 9) (pa_cons (C8.pe_c CO hr (by decide) rfl (pa_cons (pv 0) (pa_cons (pe_lst (pa_cons pe_int (pa_cons pe_int (pa_cons pe_int (pa_cons pe_int (pa_cons pe_int pa_nil)))))) pa_nil))) pa_nil)))) pa_nil)))) pss_nil))))
    (pss_cons (ps_asg (pe_tup (pa_cons (pe_lc (own := [("place", 10)]) (g := gName 10) (tt := tYes) rfl nd (pi_list (C8.pe_c CS hr (by decide) rfl (pa_cons (pv 0) (pa_cons (pv 4) (pa_cons (pv 2) pa_nil))))) (blkOk_by (N := drN) (sc := C8.fnScope s_law_court_drawn) (by decide +kernel)) (fun _ _ _ _ _ => by exact pg_name (i := 10) nd rfl (.inl rfl)) (fun _ _ _ _ _ => pts_nil)
          (fun _ _ _ _ _ => by exact pe_lst (pa_cons (pv 10) pa_nil))) (pa_cons (pe_lst pa_nil) pa_nil))) (t_gt K (n := 2) rfl (pgs_cons (pg_name (i := 11) nd rfl (.inr rfl)) (pgs_cons (pg_name (i := 12) nd rfl (.inl rfl)) pgs_nil))))
    (pss_cons (ps_setLc (i := 12) (own := [("place", 10)]) (g := gName 10) rfl nd rfl rfl (sw_true rfl rfl rfl (by decide +kernel)) (pi_list (pv 4)) (blkOk_by (N := drN) (sc := C8.fnScope s_law_court_drawn) (by decide +kernel)) (fun _ _ _ _ _ => by exact pg_name (i := 10) nd rfl (.inr rfl))
        (fun _ _ _ _ _ => by exact pts_one (pt_not (pt_val (t_any K rfl B (pa_cons (pe_lc (own := [("room", 13)]) (g := gName 13) (tt := tYes) rfl nd (t_pil K (pv 11)) (blkOk_by (N := drN) (sc := scRest) (by decide +kernel)) (fun _ _ _ _ _ => by exact pg_name (i := 13) nd rfl (.inl rfl)) (fun _ _ _ _ _ => pts_nil)
          (fun _ _ _ _ _ => by exact pe_cmpR (op_inK K) (pv 10) (pv 13) (by rfl))) pa_nil)))))
        (fun _ _ _ _ _ => by exact pv 10))
    (pss_cons (ps_for PassesOwn.never rfl (pi_list (pv 12)) (pg_name (i := 10) nd rfl (.inl rfl))
      (pss_one (ps_if (pt_cmpR op_eq (C8.pe_c CT hr (by decide) rfl (pa_cons (pv 0) (pa_cons pe_int pa_nil))) pe_int (nomark _))
        (pss_one (ps_expr (pe_bm PySem.F.plainAttrs_list PySem.F.slot_list_append PySem.F.type_list_append mt_append (t_il K (pv 11) (C8.pe_c CT hr (by decide) rfl (pa_cons (pv 0) (pa_cons (pv 2) pa_nil)))) (pa_cons (pv 10) pa_nil)))) pss_nil)))
    (pss_cons (ps_set (i := 14) nd rfl (.inl rfl) (pe_disp (pps_cons pe_str (pv 4) (pps_cons pe_str (pv 5) (pps_cons pe_str pe_dnewT (pps_cons pe_str (C8.pe_c CD hr (by decide) rfl (pa_cons (pv 0) pa_nil)) pps_nil)))) rfl rfl (by simp) (by decide)))
    (pss_cons (ps_dput hu (pv 14) pe_str (pe_listZip K rfl (pa_cons (C8.pe_c CS hr (by decide) rfl (pa_cons (pv 0) (pa_cons (pe_lst (pa_cons pe_str (pa_cons pe_str (pa_cons pe_str (pa_cons pe_str (pa_cons pe_str (pa_cons pe_str pa_nil))))))) (pa_cons (pv 2) pa_nil)))) (pa_cons (pv 11) pa_nil)) (by rfl) B.lst (by rfl) B.zip) rfl)
    (pss_cons (ps_for PassesOwn.never rfl (pi_list (pe_dget hu (pv 14) pe_str (fun _ _ => rfl))) (t_gt K (n := 2) rfl (pgs_cons (pg_name (i := 8) nd rfl (.inr rfl)) (pgs_cons (pg_name (i := 13) nd rfl (.inl rfl)) pgs_nil)))
      (pss_one (ps_for PassesOwn.never rfl (pi_list (pe_dget hu (pv 14) pe_str (fun _ _ => rfl))) (t_gt K (n := 2) rfl (pgs_cons (pg_name (i := 9) nd rfl (.inr rfl)) (pgs_cons (pg_name (i := 15) nd rfl (.inl rfl)) pgs_nil)))
        (pss_one (ps_if (PW.pt (pw_and (pt_cmpR op_ne (pv 8) (pv 9) (nomark _)) (pw_and1 (pt_cmpR op_gt (C8.pe_c CT hr (by decide) rfl (pa_cons (pv 0) (pa_cons pe_int pa_nil))) pe_int (nomark _)))))
          (pss_one (ps_dput hu (pe_dget hu (pv 14) pe_str (fun _ _ => rfl)) (pe_tup (pa_cons (pv 8) (pa_cons (pv 9) pa_nil))) (C8.pe_c CO hr (by decide) rfl (pa_cons (pv 0) (pa_cons (pe_lst (pa_cons pe_int (pa_cons pe_int (pa_cons pe_int (pa_cons pe_int (pa_cons pe_int (pa_cons (C8.pe_c CT hr (by decide) rfl (pa_cons (pv 0) (pa_cons pe_int pa_nil))) pa_nil))))))) pa_nil))) rfl)) pss_nil)))))
    (pss_cons (ps_set (i := 16) nd rfl (.inr rfl) (pe_lst pa_nil))
    (pss_cons (ps_for PassesOwn.never rfl (pi_list (pv 11)) (pg_name (i := 13) nd rfl (.inl rfl)) (pss_one (ps_expr (pe_bm PySem.F.plainAttrs_list PySem.F.slot_list_extend PySem.F.type_list_extend mt_extend (pv 16) (pa_cons (pv 13) pa_nil)))))
    (pss_cons (ps_dput hu (pv 14) pe_str (pe_lc (own := [("name", 18)]) (g := gName 18) (tt := tYes) rfl nd (pi_list (pe_slice sl_list (pe_lst (pa_cons pe_str (pa_cons pe_str (pa_cons pe_str (pa_cons pe_str pa_nil))))) po_none (po_some (pv 3)))) (blkOk_by (N := drN) (sc := C8.fnScope s_law_court_drawn) (by decide +kernel)) (fun _ _ _ _ _ => by exact pg_name (i := 18) nd rfl (.inl rfl)) (fun _ _ _ _ _ => pts_nil)
        (fun _ _ _ _ _ => by exact pe_tup (pa_cons (pv 18) (pa_cons (C8.pe_c CO hr (by decide) rfl (pa_cons (pv 0) (pa_cons (pv 16) pa_nil))) pa_nil)))) rfl)
    (pss_one (ps_ret (pv 14))))))))))))))), ?_⟩
  have hpS := hp.some
  refine ⟨_, rfl, by decide, fun l0 hl0 => ⟨_, rfl, ?_⟩⟩
  have s0 := same_new (o := .lst (poolN.map V.str)) hl0
  refine ⟨p, l0, n0, n, poolN.map V.str, rfl, hp.stay s0, by omega, upd_same, (ne_new hpS hl0).symm, by show n ≤ 10; omega, by decide, fun H1 f fs rs pm fl hf0 hf hp1 u1 => ?_⟩
  obtain ⟨ns, rfl, nsd, nsk⟩ := draws_str pm poolN_ok.2
  rw [List.length_map] at fl
  have u01 : Up p H H1 := (Up.same s0).trans u1
  have f0 : H f = none := Same.none s0 hf0
  have fp : f ≠ p := (ne_new hp.some f0).symm
  clear pm u1 s0
  refine ⟨by decide, fun wy hwy => ?_⟩
  have wy0 : H wy = none := u01.none hp1.some hwy
  have wyp : wy ≠ p := (ne_new hp1.some hwy).symm
  have wyf : f ≠ wy := ne_of_none hf hwy
  have sw := same_new (o := .lst []) hwy
  have hp2 := hp1.stay sw
  have hf2 := sw _ _ hf
  have hw2 : (upd H1 wy (.lst [])) wy = some (.lst []) := upd_same
  have u02 : Up p H (upd H1 wy (.lst [])) := u01.thn sw
  generalize upd H1 wy (.lst []) = H2 at hp2 hf2 hw2 u02
  refine ⟨_, rfl, 1, n, rfl, by omega, ?_⟩
  rw [show ((n : Int) - 1).toNat = n - 1 by omega]
  refine for_range (lo := 1) (n := n - 1) (fun i σ Hx => ∃ (ws : List WayN) (as : List Addr) (v6 : Option V), σ = [some (.ref p), some (.int n), some (.int m), some (.int b), some (.ref f), some (.ref wy), v6, none, none, none, none, none, none, none, none, none, none, none, none] ∧
    PotN Hx p (n0 + n + 2 * i) ∧ UpM [p, wy] H2 Hx ∧ Hx wy = some (.lst (as.map V.ref)) ∧ Paired (WayAt Hx) as (ws.map wayI) ∧ TreeW ns i ws) ⟨[], [], none, rfl, hp2, UpM.refl _ _, hw2, .nil, TreeW.nil ns⟩ ?_ ?_
  · rintro i σ Hx hi ⟨ws, as, v6, rfl, hpx, ux, hwx, hpr, tw⟩
    have nf : f ∉ [p, wy] := by
      simp only [List.mem_cons, List.not_mem_nil, or_false]
      rintro (z | z)
      · exact fp z
      · exact wyf z
    have hfx := ux _ _ nf hf2
    have hi1 : i + 1 < ns.length := by omega
    refine ⟨_, rfl, .inl ⟨rfl, _, SqL.of hwx⟩, ?_⟩
    refine ⟨_, rfl, _, rfl, _, rfl, p, (1 + i : Int), n0 + n + 2 * i, rfl, hpx, by omega, by omega, by omega, fun H3 d d0 d1 hp3 u3 => ?_⟩
    obtain ⟨j, rfl⟩ : ∃ j : Nat, d = j := ⟨d.toNat, by omega⟩
    have hj : j < ns.length := by omega
    have hf3 := u3 _ _ fp hfx
    have hw3 := u3 _ _ wyp hwx
    refine ⟨f, _, j, .str ns[j], rfl, rfl, SqL.of hf3, atI_0 (by rw [List.getElem?_map, List.getElem?_eq_getElem hj]; rfl), ?_⟩
    refine ⟨_, rfl, _, rfl, f, _, (1 + i : Int), .str ns[i + 1], rfl, rfl, SqL.of hf3, ?_, ?_⟩
    · rw [show (1 + (i : Int)) = ((i + 1 : Nat) : Int) by omega]
      exact atI_0 (by rw [List.getElem?_map, List.getElem?_eq_getElem hi1]; rfl)
    refine ⟨_, rfl, by decide, fun l hl => ⟨p, l, n0 + n + 2 * i + 1, ([1, 2, 3, 4, 6, 9] : List Nat).map (fun k : Nat => V.int k), rfl, hp3.stay (same_new hl), by omega, upd_same, (ne_new hp3.some hl).symm, by decide, by decide, fun H4 i4 x hx hp4 u4 => ?_⟩⟩
    obtain ⟨k, rfl, hk⟩ := lens_in hx
    have s3 := same_new (o := .lst (([1, 2, 3, 4, 6, 9] : List Nat).map (fun k : Nat => V.int k))) hl
    have hk9 : 1 ≤ k ∧ k ≤ 99 := by
      simp only [List.mem_cons, List.not_mem_nil, or_false] at hk
      omega
    have ux4 : UpM [p, wy] H2 H4 := ((ux.up u3 (by simp)).same s3).up u4 (by simp)
    have wx4 : H4 wy = some (.lst (as.map V.ref)) := u4 _ _ wyp (s3 _ _ hw3)
    refine ⟨by show 3 ≤ sizeLine; decide, fun t ht => ?_⟩
    have st := same_new (o := .tup [.str ns[j], .str ns[i + 1], .int k]) ht
    have wx5 := st _ _ wx4
    have tt : (upd H4 t (.tup [.str ns[j], .str ns[i + 1], .int k])) t = some (.tup [.str ns[j], .str ns[i + 1], .int k]) := upd_same
    have hp5 := hp4.stay st
    have ux5 := ux4.same st
    have pr5 : Paired (WayAt (upd H4 t (.tup [.str ns[j], .str ns[i + 1], .int k]))) as (ws.map wayI) := Paired.mapP hpr fun a q z => by
      have nap : a ≠ p := hpx.nref z
      exact st _ _ (u4 _ _ nap (s3 _ _ (u3 _ _ nap z)))
    generalize upd H4 t (.tup [.str ns[j], .str ns[i + 1], .int k]) = H5 at st wx5 tt hp5 ux5 pr5
    have al : as.length = i := by have := Paired.length hpr; rw [List.length_map, tw.len] at this; exact this
    refine ⟨wy, as.map V.ref, .ref t, rfl, rfl, wx5, by rw [List.length_map, sizeLine_eq]; omega, ?_⟩
    have tw' : t ≠ wy := fun z => by rw [z, wx5] at tt; cases tt
    refine ⟨ws ++ [(ns[j], ns[i + 1], k)], as ++ [t], _, rfl, (hp5.upd wyp).mono (by omega), ux5.own (by simp), by rw [upd_same, List.map_append]; rfl, ?_, tw.add nsd (by omega) (List.getElem?_eq_getElem hj) (List.getElem?_eq_getElem hi1) hk9.1 hk9.2⟩
    rw [List.map_append]
    refine paired_app (Paired.mapP pr5 fun a q z => ?_) (.cons ?_ .nil)
    · have : a ≠ wy := fun y => by
        have z : H5 a = _ := z
        rw [y, wx5] at z
        cases z
      show upd H5 wy _ a = _
      rw [upd_ne this]
      exact z
    · show upd H5 wy _ t = _
      rw [upd_ne tw']
      exact tt
  rintro σ Hx ⟨ws, as, v6, rfl, hpx, ux, hwx, hpr, tw⟩
  refine ⟨_, rfl, p, 4, n0 + n + 2 * (n - 1), rfl, hpx, by omega, by omega, by omega, fun H3 d d0 d1 hp3 u3 => ⟨d, rfl, by omega, by omega, ?_⟩⟩
  have hpr3 : Paired (WayAt H3) as (ws.map wayI) := Paired.mapP hpr fun a q z => u3 _ _ (hpx.nref z) z
  have ux3 := ux.up u3 (by simp)
  have hw3 := u3 _ _ wyp hwx
  refine for_range (lo := 0) (n := d.toNat) (fun i σ Hx => ∃ (ws : List WayN) (as : List Addr) (v7 v8 v9 : Option V), σ = [some (.ref p), some (.int n), some (.int m), some (.int b), some (.ref f), some (.ref wy), v6, v7, v8, v9, none, none, none, none, none, none, none, none, none] ∧
    PotN Hx p (n0 + n + 2 * (n - 1) + 1 + 3 * i) ∧ UpM [p, wy] H2 Hx ∧ Hx wy = some (.lst (as.map V.ref)) ∧ Paired (WayAt Hx) as (ws.map wayI) ∧ WaysOk ns ws ∧ n - 1 ≤ ws.length ∧ ws.length ≤ n - 1 + i ∧
    ∀ k, 1 ≤ k → k ≤ n - 1 → ∃ j a b, j < k ∧ ns[j]? = some a ∧ ns[k]? = some b ∧ (a, b) ∈ (lensOf ws).map (·.1)) ⟨ws, as, none, none, none, rfl, hp3, ux3, hw3, hpr3, tw.ok, by rw [tw.len]; omega, by rw [tw.len]; omega, tw.join⟩ ?_ ?_
  · rintro i σ Hy hi ⟨ws, as, v7, v8, v9, rfl, hpy, uy, hwy2, hpry, wok, wl1, wl2, wj⟩
    have nf : f ∉ [p, wy] := by
      simp only [List.mem_cons, List.not_mem_nil, or_false]
      rintro (z | z)
      · exact fp z
      · exact wyf z
    have hfy := uy _ _ nf hf2
    refine ⟨_, rfl, _, rfl, p, f, n0 + n + 2 * (n - 1) + 1 + 3 * i, 2, ns.map V.str, rfl, hpy, by omega, hfy, fp, by rw [List.length_map]; omega, by rw [List.length_map]; omega, fun H4 g gs rs pm gl hg0 hg hp4 u4 => ?_⟩
    obtain ⟨os, rfl, osd, osk⟩ := draws_str pm nsd
    rw [List.length_map] at gl
    obtain ⟨o1, o2, rfl⟩ : ∃ o1 o2, os = [o1, o2] := by
      match os, gl with
      | [o1, o2], _ => exact ⟨o1, o2, rfl⟩
    have no12 : o1 ≠ o2 := by simpa using osd
    have m1 := osk o1 (by simp)
    have m2' := osk o2 (by simp)
    have hw4 := u4 _ _ wyp hwy2
    have pr4 : Paired (WayAt H4) as (ws.map wayI) := Paired.mapP hpry fun a q z => u4 _ _ (hpy.nref z) z
    have uy4 := uy.up u4 (by simp)
    refine ⟨g, _, rfl, SqL.of hg, rfl, _, _, rfl, _, _, rfl, rfl, ?_⟩
    have al : as.length = ws.length := by have := Paired.length pr4; rw [List.length_map] at this; exact this
    refine ⟨_, rfl, wy, rfl, ⟨_, SqL.of hw4⟩, fun D1 hD1 => ?_⟩
    refine lc_fm (walk_list (K := K) (a := wy) (xs := as.map V.ref)) (fun i => (ws[i]?).map fun w => V.bl (hasBoth o1 o2 w)) (by rw [List.length_map]; omega) hD1 (fun _ s1 => SqL.of (s1 _ _ hw4)) ?_ ?_
    · rintro i5 x H6 H5 Kk Kn hi5 s5 ⟨rfl, hx⟩ k1 k2
      rw [List.getElem?_map] at hx
      obtain ⟨t, ht, rfl⟩ := Option.map_eq_some_iff.mp hx
      obtain ⟨wI, hwI, tw⟩ := paired_get pr4 ht
      rw [List.getElem?_map] at hwI
      obtain ⟨w, hw, rfl⟩ := Option.map_eq_some_iff.mp hwI
      have t5 : H5 t = some (.tup [.str w.1, .str w.2.1, .int (w.2.2 : Int)]) := s5 _ _ tw
      refine ⟨rfl, yes_if ⟨_, rfl, _, rfl, t, _, rfl, .inr (SqT.of t5), rfl, rfl, _, rfl, ?_⟩⟩
      simp only [Bool.false_eq_true, if_false]
      rw [inV_way]
      by_cases c1 : (decide (o1 = w.1) || decide (o1 = w.2.1)) = true
      · rw [if_pos c1]
        refine ⟨_, rfl, _, rfl, t, _, rfl, .inr (SqT.of t5), rfl, rfl, ?_⟩
        simp only [Bool.false_eq_true, if_false]
        rw [inV_way]
        exact k1 _ _ (by rw [hw]; show some (V.bl (hasBoth o1 o2 w)) = _; unfold hasBoth; rw [c1, Bool.true_and]) (Same.refl _)
      · rw [if_neg c1]
        exact k1 _ _ (by rw [hw]; show some (V.bl (hasBoth o1 o2 w)) = _; unfold hasBoth; rw [Bool.eq_false_iff.mpr c1, Bool.false_and]) (Same.refl _)
    intro H5 s5 hl5
    rw [List.length_map, al, range_map] at hl5
    have hp5 := hp4.stay s5
    have hw5 := s5 _ _ hw4
    have uy5 := uy4.same s5
    have pr5 : Paired (WayAt H5) as (ws.map wayI) := Paired.mapP pr4 fun a q z => s5 _ _ z
    refine ⟨D1, ws.map (hasBoth o1 o2), rfl, SqL.of (by rw [hl5, List.map_map]; rfl), ?_⟩
    by_cases c : (ws.map (hasBoth o1 o2)).any id = true
    · refine ⟨_, rfl, iteF' (by rw [c]; rfl) ?_⟩
      exact ⟨ws, as, _, _, _, rfl, hp5.mono (by omega), uy5, hw5, pr5, wok, wl1, by omega, wj⟩
    refine ⟨_, rfl, iteT' (by rw [Bool.eq_false_iff.mpr c]; rfl) ?_⟩
    have hno : ∀ w ∈ ws, hasBoth o1 o2 w = false := fun w hw => by
      rw [Bool.not_eq_true, List.any_map, List.any_eq_false] at c
      simpa using c w hw
    refine ⟨_, rfl, .inl ⟨rfl, _, SqL.of hw5⟩, ?_⟩
    refine ⟨_, rfl, _, rfl, _, rfl, by decide, fun l hl => ⟨p, l, n0 + n + 2 * (n - 1) + 1 + 3 * i + 2, ([1, 2, 3, 5, 8] : List Nat).map (fun k : Nat => V.int k), rfl, hp5.stay (same_new hl), by omega, upd_same, (ne_new hp5.some hl).symm, by decide, by decide, fun H7 i4 x hx hp7 u7 => ?_⟩⟩
    obtain ⟨k, rfl, hk⟩ := lens_in hx
    have s6 := same_new (o := .lst (([1, 2, 3, 5, 8] : List Nat).map (fun k : Nat => V.int k))) hl
    have hk9 : 1 ≤ k ∧ k ≤ 99 := by
      simp only [List.mem_cons, List.not_mem_nil, or_false] at hk
      omega
    have uy7 : UpM [p, wy] H2 H7 := (uy5.same s6).up u7 (by simp)
    have hw7 : H7 wy = some (.lst (as.map V.ref)) := u7 _ _ wyp (s6 _ _ hw5)
    refine ⟨by show 3 ≤ sizeLine; decide, fun t ht => ?_⟩
    have st := same_new (o := .tup [.str o1, .str o2, .int k]) ht
    have hw8 := st _ _ hw7
    have tt : (upd H7 t (.tup [.str o1, .str o2, .int k])) t = some (.tup [.str o1, .str o2, .int k]) := upd_same
    have hp8 := hp7.stay st
    have uy8 := uy7.same st
    have pr8 : Paired (WayAt (upd H7 t (.tup [.str o1, .str o2, .int k]))) as (ws.map wayI) := Paired.mapP pr5 fun a q z => st _ _ (u7 _ _ (hp5.nref z) (s6 _ _ z))
    generalize upd H7 t (.tup [.str o1, .str o2, .int k]) = H8 at st hw8 tt hp8 uy8 pr8
    refine ⟨wy, as.map V.ref, .ref t, rfl, rfl, hw8, by rw [List.length_map, sizeLine_eq]; omega, ?_⟩
    have tw' : t ≠ wy := fun z => by rw [z, hw8] at tt; cases tt
    refine ⟨ws ++ [(o1, o2, k)], as ++ [t], _, _, _, rfl, (hp8.upd wyp).mono (by omega), uy8.own (by simp), by rw [upd_same, List.map_append]; rfl, ?_, wok.add m1 m2' no12 hk9.1 hk9.2 hno, by rw [List.length_append]; omega, by rw [List.length_append]; show ws.length + 1 ≤ _; omega, fun k k1 k2 => ?_⟩
    · rw [List.map_append]
      refine paired_app (Paired.mapP pr8 fun a q z => ?_) (.cons ?_ .nil)
      · have : a ≠ wy := fun y => by
          have z : H8 a = _ := z
          rw [y, hw8] at z
          cases z
        show upd H8 wy _ a = _
        rw [upd_ne this]
        exact z
      · show upd H8 wy _ t = _
        rw [upd_ne tw']
        exact tt
    · obtain ⟨j, a, b, x1, x2, x3, x4⟩ := wj k k1 k2
      exact ⟨j, a, b, x1, x2, x3, keys_grow x4⟩
  rintro σ Hy ⟨ws, as, v7, v8, v9, rfl, hpy, uy, hwy2, hpry, wok, wl1, wl2, wj⟩
  have hpy : PotN Hy p (n0 + 32) := hpy.mono (by omega)
  have nf : f ∉ [p, wy] := by
    simp only [List.mem_cons, List.not_mem_nil, or_false]
    rintro (z | z)
    · exact fp z
    · exact wyf z
  have hfy := uy _ _ nf hf2
  have u0y : Up p H Hy := uy.over u02 fun x hx => by
    simp only [List.mem_cons, List.not_mem_nil, or_false] at hx
    rcases hx with rfl | rfl
    · exact .inl rfl
    · exact .inr wy0
  -- rooms
  refine ⟨_, rfl, _, rfl, _, rfl, p, f, n0 + 32, m, ns.map V.str, rfl, hpy, by omega, hfy, fp, by rw [List.length_map]; omega, by rw [List.length_map]; omega, fun H4 g gs rs0 pm gl hg0 hg hp4 u4 => ⟨g, rfl, ⟨_, SqL.of hg⟩, fun R hR => ?_⟩⟩
  obtain ⟨rm, rfl, rmd, rmk⟩ := draws_str pm nsd
  rw [List.length_map] at gl
  have hf4 := u4 _ _ fp hfy
  have hw4 := u4 _ _ wyp hwy2
  have pr4 : Paired (WayAt H4) as (ws.map wayI) := Paired.mapP hpry fun a q z => u4 _ _ (hpy.nref z) z
  have u04 := u0y.trans u4
  refine lc_it (walk_list (K := K) (a := g) (xs := rm.map V.str)) (fun i Hx => ∃ ts : List Addr, Same H4 Hx ∧ Hx R = some (.lst (ts.map V.ref)) ∧ Paired (LsAt Hx) ts ((rm.take i).map fun x => [x]) ∧ ts.Nodup ∧ (∀ t ∈ ts, H4 t = none) ∧ R ∉ ts) ⟨[], same_new hR, upd_same, .nil, List.nodup_nil, (fun t h => nomatch h), (fun h => nomatch h)⟩ (fun i Hx _ ⟨_, h, _⟩ => SqL.of (h _ _ hg)) ?_ ?_
  · rintro i x Hx Hx2 hi ⟨ts, s4, hR4, pr, tnd, tn, Rts⟩ ⟨rfl, hx⟩
    rw [List.getElem?_map] at hx
    obtain ⟨pl, hpl, rfl⟩ := Option.map_eq_some_iff.mp hx
    have tl : ts.length ≤ 8 := by
      have := Paired.length pr
      rw [List.length_map, List.length_take] at this
      omega
    refine ⟨rfl, yes_if ⟨_, rfl, by show 1 ≤ sizeLine; decide, fun t ht => ?_⟩⟩
    have st := same_new (o := .lst [V.str pl]) ht
    have tR : t ≠ R := (ne_of_none hR4 ht).symm
    have tts : t ∉ ts := fun z => by
      obtain ⟨j, y, _, _, e⟩ := LiI.paired_ix pr z
      have e : Hx2 t = some (.lst (y.map V.str)) := e
      rw [ht] at e
      cases e
    refine ⟨ts.map V.ref, st _ _ hR4, by rw [List.length_map, sizeLine_eq]; omega, ts ++ [t], Same.put (s4.trans st) hR, by rw [upd_same, List.map_append]; rfl, ?_, ?_, fun u hu => ?_, ?_⟩
    · rw [List.take_add_one, hpl, List.map_append]
      refine paired_app (Paired.mapP' pr fun a q ha z => ?_) (.cons ?_ .nil)
      · have : a ≠ R := fun y => Rts (by rw [← y]; exact ha)
        show upd _ R _ a = _
        rw [upd_ne this]
        exact st _ _ z
      · show upd _ R _ t = _
        rw [upd_ne tR]
        exact upd_same
    · exact List.nodup_append.mpr ⟨tnd, by simp, fun a ha b hb e => tts (by rw [← List.mem_singleton.mp hb, ← e]; exact ha)⟩
    · rcases List.mem_append.mp hu with hu | hu
      · exact tn u hu
      · rw [List.mem_singleton.mp hu]
        exact Same.none s4 ht
    · rw [List.mem_append, List.mem_singleton]
      rintro (z | z)
      · exact Rts z
      · exact tR z.symm
  rintro H5 ⟨ts, s5, hR5, prt, tnd, tn, Rts⟩
  rw [List.length_map, List.take_length] at prt
  refine ⟨by decide, fun e he => ⟨by show 2 ≤ sizeLine; decide, fun T hT => ⟨T, _, rfl, SqT.of upd_same, rfl, _, _, rfl, _, _, rfl, rfl, ?_⟩⟩⟩
  have s6 : Same H5 _ := (same_new (o := .lst []) he).trans (same_new (o := .tup [.ref R, .ref e]) hT)
  generalize upd (upd H5 e (.lst [])) T (.tup [.ref R, .ref e]) = H6 at s6
  have s46 := s5.trans s6
  have hR6 := s6 _ _ hR5
  have pr6 : Paired (LsAt H6) ts (rm.map fun x => [x]) := Paired.mapP prt fun a q z => s6 _ _ z
  have hf6 := s46 _ _ hf4
  refine ⟨_, rfl, f, rfl, ⟨_, SqL.of hf6⟩, fun D2 hD2 => ?_⟩
  refine lc_fm (walk_list (K := K) (a := f) (xs := ns.map V.str)) (fun i => (ns[i]?).bind fun pl => if pl ∈ rm then none else some (V.str pl)) (by rw [List.length_map]; omega) hD2 (fun _ s1 => SqL.of (s1 _ _ hf6)) ?_ ?_
  · rintro i x H8 H7 Kk Kn hi s7 ⟨rfl, hx⟩ k1 k2
    rw [List.getElem?_map] at hx
    obtain ⟨pl, hpl, rfl⟩ := Option.map_eq_some_iff.mp hx
    have hR7 := s7 _ _ hR6
    have tl : ts.length = rm.length := by have := Paired.length prt; rw [List.length_map] at this; exact this
    refine ⟨rfl, _, rfl, R, rfl, ⟨_, SqL.of hR7⟩, fun D3 hD3 => ?_⟩
    refine lc_fm (walk_list (K := K) (a := R) (xs := ts.map V.ref)) (fun j => (rm[j]?).map fun r => V.bl (decide (pl = r))) (by rw [List.length_map]; omega) hD3 (fun _ s1 => SqL.of (s1 _ _ hR7)) ?_ ?_
    · rintro j y H10 H9 Kk2 Kn2 hj s9 ⟨rfl, hy⟩ k3 k4
      rw [List.getElem?_map] at hy
      obtain ⟨t, ht, rfl⟩ := Option.map_eq_some_iff.mp hy
      obtain ⟨r, hr1, tr⟩ := paired_get pr6 ht
      rw [List.getElem?_map] at hr1
      obtain ⟨r0, hr0, rfl⟩ := Option.map_eq_some_iff.mp hr1
      have t9 : H9 t = some (.lst [V.str r0]) := s9 _ _ (s7 _ _ tr)
      refine ⟨rfl, yes_if ⟨_, rfl, _, rfl, t, _, rfl, .inl (SqL.of t9), rfl, rfl, ?_⟩⟩
      simp only [Bool.false_eq_true, if_false]
      exact k3 _ _ (by rw [hr0]; show some (V.bl (decide (pl = r0))) = _; rw [show inV (V.str pl) [V.str r0] = decide (pl ∈ [r0]) from inV_str pl [r0]]; simp) (Same.refl _)
    intro H9 s9 hl9
    rw [List.length_map, tl, range_map] at hl9
    refine ⟨D3, rm.map fun r => decide (pl = r), rfl, SqL.of (by rw [hl9, List.map_map]; rfl), ?_⟩
    have s79 := s9
    by_cases c : pl ∈ rm
    · have ca : (rm.map fun r => decide (pl = r)).any id = true := by
        rw [List.any_eq_true]
        exact ⟨true, List.mem_map.mpr ⟨pl, c, by simp⟩, rfl⟩
      refine ⟨_, rfl, ?_⟩
      rw [ca]
      exact k2 (by rw [hpl]; show (if pl ∈ rm then none else some (V.str pl)) = none; rw [if_pos c]) _ s9
    · have ca : (rm.map fun r => decide (pl = r)).any id = false := by
        rw [List.any_map, List.any_eq_false]
        intro r hr e
        have : pl = r := by simpa using e
        exact c (this ▸ hr)
      refine ⟨_, rfl, ?_⟩
      rw [ca]
      refine ⟨_, rfl, ?_⟩
      exact k1 _ _ (by rw [hpl]; show (if pl ∈ rm then none else some (V.str pl)) = _; rw [if_neg c]) s9
  intro H7 s7 hl7
  obtain ⟨rest, hrest⟩ : ∃ rest, rest = ns.filter fun x => decide (x ∉ rm) := ⟨_, rfl⟩
  have hl7 : H7 D2 = some (.lst (rest.map V.str)) := by
    rw [hl7, List.length_map, range_fm, rest_eq, ← hrest]
  have restd : rest.Nodup := by rw [hrest]; exact nsd.filter _
  have restk : ∀ x ∈ rest, x ∈ ns ∧ x ∉ rm := fun x hx => by
    rw [hrest, List.mem_filter] at hx
    exact ⟨hx.1, by simpa using hx.2⟩
  have restl : rest.length ≤ 8 := by rw [hrest]; exact Nat.le_trans (List.length_filter_le _ _) (by omega)
  have s47 := s46.trans s7
  have hp7 : PotN H7 p (n0 + 32 + m) := hp4.stay s47
  have hf7 := s7 _ _ hf6
  have hR7 := s7 _ _ hR6
  have pr7 : Paired (LsAt H7) ts (rm.map fun x => [x]) := Paired.mapP pr6 fun a q z => s7 _ _ z
  have wy7 := s47 _ _ hw4
  have pw7 : Paired (WayAt H7) as (ws.map wayI) := Paired.mapP pr4 fun a q z => s47 _ _ z
  have u07 := u04.thn s47
  have tsl : ts.length = m := by have := Paired.length prt; rw [List.length_map] at this; omega
  have old : ∀ {x : Addr} {u : HO}, H4 x = some u → x ≠ p → x ∉ p :: ts := fun {x u} e n z => by
    rcases List.mem_cons.mp z with z | z
    · exact n z
    · rw [tn x z] at e; cases e
  have nR : R ∉ p :: ts := fun z => by
    rcases List.mem_cons.mp z with z | z
    · exact hp4.some (by rw [← z]; exact hR)
    · exact Rts z
  have nD2 : D2 ∉ p :: ts := fun z => by
    rcases List.mem_cons.mp z with z | z
    · exact (hp4.stay s46).some (by rw [← z]; exact hD2)
    · obtain ⟨j, y, _, _, e⟩ := LiI.paired_ix pr6 z
      have e : H6 D2 = some (.lst (y.map V.str)) := e
      rw [hD2] at e
      cases e
  refine ⟨_, rfl, D2, rfl, ⟨_, SqL.of hl7⟩, ?_⟩
  refine for_it (walk_list (K := K) (a := D2) (xs := rest.map V.str)) (fun i σ Hx => ∃ (rs : List (List Str)) (v10 : Option V), σ = [some (.ref p), some (.int n), some (.int m), some (.int b), some (.ref f), some (.ref wy), v6, v7, v8, v9, v10, some (.ref R), some (.ref D2), none, none, none, none, none, none] ∧
    PotN Hx p (n0 + 32 + m + 2 * i) ∧ UpM (p :: ts) H7 Hx ∧ Paired (LsAt Hx) ts rs ∧ RoomsOk ns (rm ++ rest.take i) rs) ⟨_, none, rfl, hp7, UpM.refl _ _, pr7, (RoomsOk.one rmk rmd).more fun x hx => List.mem_append_left _ hx⟩ (fun i σ Hx _ ⟨_, _, _, _, u, _⟩ => SqL.of (u _ _ nD2 hl7)) ?_ ?_
  · rintro i x σ Hx Hx2 hi ⟨rs, v10, rfl, hpx, ux, prx, rok⟩ ⟨rfl, hx⟩
    rw [List.getElem?_map] at hx
    obtain ⟨pl, hpl, rfl⟩ := Option.map_eq_some_iff.mp hx
    have hil : i < rest.length := (List.getElem?_eq_some_iff.mp hpl).1
    have hR8 := ux _ _ nR hR7
    have tk : rm ++ rest.take (i + 1) = (rm ++ rest.take i) ++ [pl] := by rw [List.take_add_one, hpl, List.append_assoc]; rfl
    have pns : pl ∉ rm ++ rest.take i := fun z => by
      rcases List.mem_append.mp z with z | z
      · exact (restk pl (List.mem_of_getElem? hpl)).2 z
      · obtain ⟨k, hk, hx⟩ := take_ix z
        have := nodup_ix restd hpl hx
        omega
    refine ⟨_, rfl, p, 3, _, rfl, hpx, by omega, by omega, by omega, fun H9 d2 e0 e1 hp9 u9 => ⟨rfl, _, rfl, ?_⟩⟩
    have ux9 := ux.up u9 List.mem_cons_self
    have nots : ∀ t ∈ ts, t ≠ p := fun t ht z => hp4.some (by rw [← z]; exact tn t ht)
    have pr9 : Paired (LsAt H9) ts rs := Paired.mapP' prx fun a q ha z => u9 _ _ (nots a ha) z
    by_cases c : d2 = 0
    · refine iteT' (by rw [c]; rfl) ?_
      have hR9 := ux9 _ _ nR hR7
      refine ⟨_, rfl, _, rfl, _, rfl, p, m, _, rfl, hp9, by omega, by omega, by omega, fun H10 j j0 j1 hp10 u10 => ?_⟩
      obtain ⟨j, rfl⟩ : ∃ k : Nat, j = k := ⟨j.toNat, by omega⟩
      have hj : j < ts.length := by omega
      have hR10 := u10 _ _ (fun z => nR (by rw [z]; exact List.mem_cons_self)) hR9
      have ux10 := ux9.up u10 List.mem_cons_self
      have pr10 : Paired (LsAt H10) ts rs := Paired.mapP' pr9 fun a q ha z => u10 _ _ (nots a ha) z
      have htj : ts[j]? = some ts[j] := List.getElem?_eq_getElem hj
      obtain ⟨r, hr1, rAt⟩ := paired_get pr10 htj
      refine ⟨R, _, j, .ref ts[j], rfl, rfl, SqL.of hR10, atI_0 (by rw [List.getElem?_map, htj]; rfl), .inl ⟨rfl, _, SqL.of rAt⟩, _, rfl, ts[j], r.map V.str, .str pl, rfl, rfl, rAt, ?_, ?_⟩
      · have l1 := (List.sublist_flatten_of_mem (List.mem_of_getElem? hr1)).length_le
        have l2 := nodup_len_sub rok.nd rok.sub
        rw [List.length_append, List.length_take] at l2
        rw [List.length_map, sizeLine_eq]
        omega
      · refine ⟨rs.set j (r ++ [pl]), _, rfl, (hp10.upd (nots _ (List.getElem_mem hj))).mono (by omega), ux10.own (List.mem_cons_of_mem _ (List.getElem_mem hj)), ?_, by rw [tk]; exact rok.add hr1 (restk pl (List.mem_of_getElem? hpl)).1 pns⟩
        have := rooms_put (r' := r ++ [pl]) pr10 tnd htj
        rw [List.map_append] at this
        exact this
    · refine iteF' (decide_eq_false fun z => by injection z with z; exact c z) ?_
      exact ⟨rs, _, rfl, hp9.mono (by omega), ux9, pr9, rok.more fun x hx => by rw [tk]; exact List.mem_append_left _ hx⟩
  rintro σ HB ⟨rs, v10, rfl, hpB, uB, prB, rok⟩
  have hpB : PotN HB p (n0 + 52) := hpB.mono (by rw [List.length_map]; omega)
  have hRB := uB _ _ nR hR7
  have hfB := uB _ _ (old hf4 fp) hf7
  have hwB := uB _ _ (old hw4 wyp) wy7
  have pwB : Paired (WayAt HB) as (ws.map wayI) := Paired.mapP' (Paired.mapP' pr4 (G := fun a q => WayAt H7 a q ∧ a ∉ p :: ts) fun a q _ z => ⟨s47 _ _ z, old z (hp4.nref z)⟩) fun a q _ z => uB _ _ z.2 z.1
  have u0B : Up p H HB := uB.over u07 fun x hx => by
    rcases List.mem_cons.mp hx with hx | hx
    · exact .inl hx
    · exact .inr (Up.none u04 (x := p) (by intro z; exact hp4.some z) (tn x hx))
  have rsl : rs.length = m := by have := Paired.length prB; omega
  refine fun d hd => ⟨_, rfl, _, rfl, fun dl hdl => ⟨_, rfl, p, n0 + 52, rfl, ?_⟩⟩
  have d0 : H d = none := Up.none u0B hpB.some hd
  have dp : d ≠ p := (ne_new hpB.some hd).symm
  have dld : dl ≠ d := fun z => by rw [z, upd_same] at hdl; cases hdl
  have hdl0 : HB dl = none := by rw [upd_ne dld] at hdl; exact hdl
  have dlp : dl ≠ p := (ne_new hpB.some hdl0).symm
  have dl0 : H dl = none := Up.none u0B hpB.some hdl0
  have sB := (same_new (o := .dK []) hd).trans (same_new (o := .dT []) hdl)
  have hdB : (upd (upd HB d (.dK [])) dl (.dT [])) d = some (.dK []) := by rw [upd_ne dld.symm, upd_same]
  have hlB : (upd (upd HB d (.dK [])) dl (.dT [])) dl = some (.dT []) := upd_same
  generalize upd (upd HB d (.dK [])) dl (.dT []) = HB2 at sB hdB hlB
  refine ⟨hpB.stay sB, by omega, fun HC st sl sh lo hi hlo hhi est esl esh hpC uC => ⟨uC _ _ dp hdB, [(Sum.inr ("places" : Str), V.ref f), (.inr "ways", .ref wy), (.inr "delays", .ref dl), (.inr "stretch", .ref st)], rfl, by show 4 ≤ 15; decide, ?_⟩⟩
  rw [merge4]
  have hdC := uC _ _ dp hdB
  have hlC := uC _ _ dlp hlB
  have u0C : Up p H HC := (u0B.thn sB).trans uC
  have fd : f ≠ d := ne_of_none hfB hd
  have nd1 : ∀ {x : Addr} {u : HO}, HB x = some u → x ≠ p → HC x = some u ∧ x ≠ d ∧ x ≠ dl := fun {x u} e n => ⟨uC _ _ n (sB _ _ e), ne_of_none e hd, ne_of_none e hdl0⟩
  have rp : R ≠ p := fun z => nR (by rw [z]; exact List.mem_cons_self)
  have tsp : ∀ t ∈ ts, t ≠ p := fun t ht z => hp4.some (by rw [← z]; exact tn t ht)
  have std : st ≠ d := fun z => by rw [z, hdC] at est; cases est
  have sld : sl ≠ d := fun z => by rw [z, hdC] at esl; cases esl
  have shd : sh ≠ d := fun z => by rw [z, hdC] at esh; cases esh
  have stl : st ≠ dl := fun z => by rw [z, hlC] at est; cases est
  have sll : sl ≠ dl := fun z => by rw [z, hlC] at esl; cases esl
  have shl : sh ≠ dl := fun z => by rw [z, hlC] at esh; cases esh
  have uD : UpM [d] HC (upd HC d (.dK [(Sum.inr ("places" : Str), V.ref f), (.inr "ways", .ref wy), (.inr "delays", .ref dl), (.inr "stretch", .ref st)])) := (UpM.refl _ _).own (by simp)
  have hdD : (upd HC d (.dK [(Sum.inr ("places" : Str), V.ref f), (.inr "ways", .ref wy), (.inr "delays", .ref dl), (.inr "stretch", .ref st)])) d = some (.dK [(Sum.inr ("places" : Str), V.ref f), (.inr "ways", .ref wy), (.inr "delays", .ref dl), (.inr "stretch", .ref st)]) := upd_same
  have hpD := hpC.upd (o := .dK [(Sum.inr ("places" : Str), V.ref f), (.inr "ways", .ref wy), (.inr "delays", .ref dl), (.inr "stretch", .ref st)]) dp
  generalize upd HC d (.dK [(Sum.inr ("places" : Str), V.ref f), (.inr "ways", .ref wy), (.inr "delays", .ref dl), (.inr "stretch", .ref st)]) = HD at uD hdD hpD
  have kD : ∀ {x : Addr} {u : HO}, HC x = some u → x ≠ d → HD x = some u := fun {x u} e n => uD _ _ (by simpa using n) e
  -- players
  refine ⟨_, rfl, by decide, fun l hl => ⟨_, rfl, p, l, n0 + 54, m, poolP.map V.str, rfl, hpD.stay (same_new hl), by omega, upd_same, (ne_new hpD.some hl).symm, by show m ≤ 6; omega, by decide, fun HE g2 gs2 rs2 pm2 gl2 hg20 hg2 hpE uE => ?_⟩⟩
  have sl2 := same_new (o := .lst (poolP.map V.str)) hl
  have kE : ∀ {x : Addr} {u : HO}, HD x = some u → x ≠ p → HE x = some u := fun {x u} e n => uE _ _ n (sl2 _ _ e)
  have kBE : ∀ {x : Addr} {u : HO}, HB x = some u → x ≠ p → HE x = some u := fun {x u} e n => kE (kD (nd1 e n).1 (nd1 e n).2.1) n
  have hRE := kBE hRB rp
  refine ⟨_, rfl, g2, R, gs2, ts.map V.ref, rfl, .inl ⟨SqL.of hg2, SqL.of hRE⟩, fun HF PL us k1 k2 k3 k4 k5 => ?_⟩
  obtain ⟨pn, rfl, pnd, pnk⟩ := draws_str pm2 poolP_ok.2
  rw [List.length_map] at gl2
  have prE : Paired (LsAt HE) ts rs := Paired.mapP' prB fun a q ha z => kBE z (tsp a ha)
  have plF : Paired (RmL HF) us (pn.zip rs) := rml_of k5 (Paired.mapP prE fun a q z => k1 _ _ z)
  have hdE := kE hdD dp
  have hdF := k1 _ _ hdE
  refine ⟨_, rfl, d, _, rfl, DPut.k (k := Sum.inr ("players" : Str)) hdF (by rw [sizeLine_eq]; show 4 < 16777216; decide), ?_⟩
  rw [put5]
  have PLd : PL ≠ d := (ne_of_none hdE k2).symm
  have uG : UpM [d] HF (upd HF d (.dK [(Sum.inr ("places" : Str), V.ref f), (.inr "ways", .ref wy), (.inr "delays", .ref dl), (.inr "stretch", .ref st), (.inr "players", .ref PL)])) := (UpM.refl _ _).own (by simp)
  have hdG : (upd HF d (.dK [(Sum.inr ("places" : Str), V.ref f), (.inr "ways", .ref wy), (.inr "delays", .ref dl), (.inr "stretch", .ref st), (.inr "players", .ref PL)])) d = some (.dK [(Sum.inr ("places" : Str), V.ref f), (.inr "ways", .ref wy), (.inr "delays", .ref dl), (.inr "stretch", .ref st), (.inr "players", .ref PL)]) := upd_same
  have hpG0 := (hpE.stay k1).upd (o := .dK [(Sum.inr ("places" : Str), V.ref f), (.inr "ways", .ref wy), (.inr "delays", .ref dl), (.inr "stretch", .ref st), (.inr "players", .ref PL)]) dp
  generalize upd HF d (.dK [(Sum.inr ("places" : Str), V.ref f), (.inr "ways", .ref wy), (.inr "delays", .ref dl), (.inr "stretch", .ref st), (.inr "players", .ref PL)]) = HG at uG hdG hpG0
  have hpG : PotN HG p (n0 + 58) := hpG0.mono (by omega)
  have kG : ∀ {x : Addr} {u : HO}, HF x = some u → x ≠ d → HG x = some u := fun {x u} e n => uG _ _ (by simpa using n) e
  have kBG : ∀ {x : Addr} {u : HO}, HB x = some u → x ≠ p → HG x = some u := fun {x u} e n => kG (k1 _ _ (kBE e n)) (nd1 e n).2.1
  have kCG : ∀ {x : Addr} {u : HO}, HC x = some u → x ≠ p → x ≠ d → HG x = some u := fun {x u} e n n2 => kG (k1 _ _ (kE (kD e n2) n)) n2
  have hlG := kCG hlC dlp dld
  have hPG := kG k4 PLd
  have plG : Paired (RmL HG) us (pn.zip rs) := Paired.mapP' plF fun a q ha ⟨u, z1, z2⟩ => by
    have ad : a ≠ d := (ne_of_none hdE (k3 a ha)).symm
    have ud : u ≠ d := fun y => by rw [y, hdF] at z2; cases z2
    exact ⟨u, kG z1 ad, kG z2 ud⟩
  have usl : us.length = m := by have := Paired.length plG; rw [List.length_zip] at this; omega
  have pnl : pn.length ≤ 4 := by omega
  have nSt : ∀ {x : Addr} {u : HO}, HG x = some u → x ≠ p → x ≠ dl → x ∉ [p, dl] := fun {x u} _ n1 n2 z => by
    simp only [List.mem_cons, List.not_mem_nil, or_false] at z
    rcases z with z | z
    · exact n1 z
    · exact n2 z
  have PLp : PL ≠ p := (ne_new hpE.some k2).symm
  have PLl : PL ≠ dl := fun z => by rw [z, hlG] at hPG; cases hPG
  have ddl : d ≠ dl := dld.symm
  have rmlS : ∀ {Hx : Hp} {t : Addr} {q : Str × List Str}, UpM [p, dl] HG Hx → t ∈ us → RmL HG t q → ∃ u, Hx t = some (.tup [.str q.1, .ref u]) := fun {Hx t q} u ht ⟨v, z1, z2⟩ => by
    refine ⟨v, u _ _ (nSt z1 (ne_new hpE.some (k3 t ht)).symm fun y => ?_) z1⟩
    rw [y, hlG] at z1
    cases z1
  refine ⟨_, rfl, d, _, rfl, dget_of hdG val5_players, PL, rfl, ⟨_, SqL.of hPG⟩, ?_⟩
  refine for_it (walk_list (K := K) (a := PL) (xs := us.map V.ref)) (fun i σ Hx => ∃ (ds : List ((Str × Str) × Nat)) (w8 w9 w13 w15 : Option V), σ = [some (.ref p), some (.int n), some (.int m), some (.int b), some (.ref f), some (.ref wy), v6, v7, w8, w9, v10, some (.ref R), some (.ref D2), w13, some (.ref d), w15, none, none, none] ∧
    PotN Hx p (n0 + 58 + 12 * i) ∧ UpM [p, dl] HG Hx ∧ Hx dl = some (.dT (lenT (ds.map dlI))) ∧ DelOk pn i ds) ⟨[], _, _, none, none, rfl, hpG, UpM.refl _ _, hlG, ⟨fun d h => (nomatch h), List.nodup_nil⟩⟩ (fun i σ Hx _ ⟨_, _, _, _, _, _, _, u, _⟩ => SqL.of (u _ _ (nSt hPG PLp PLl) hPG)) ?_ ?_
  · rintro i x σ Hx Hx2 hi ⟨ds, w8, w9, w13, w15, rfl, hpx, ux, hlx, dok⟩ ⟨rfl, hx⟩
    rw [List.getElem?_map] at hx
    obtain ⟨t, ht, rfl⟩ := Option.map_eq_some_iff.mp hx
    obtain ⟨q1, hq1, tAt⟩ := paired_get plG ht
    obtain ⟨u, tx⟩ := rmlS ux (List.mem_of_getElem? ht) tAt
    rw [List.getElem?_zip_eq_some] at hq1
    have hil : i < m := by have := (List.getElem?_eq_some_iff.mp ht).1; omega
    refine ⟨t, _, rfl, SqT.of tx, rfl, _, _, rfl, _, _, rfl, rfl, ?_⟩
    have hdx := ux _ _ (nSt hdG dp ddl) hdG
    have hPx := ux _ _ (nSt hPG PLp PLl) hPG
    refine ⟨_, rfl, d, _, rfl, dget_of hdx val5_players, PL, rfl, ⟨_, SqL.of hPx⟩, ?_⟩
    refine for_it (walk_list (K := K) (a := PL) (xs := us.map V.ref)) (fun j σ Hx => ∃ (ds : List ((Str × Str) × Nat)) (w9 w15 : Option V), σ = [some (.ref p), some (.int n), some (.int m), some (.int b), some (.ref f), some (.ref wy), v6, v7, some (.str q1.1), w9, v10, some (.ref R), some (.ref D2), some (.ref u), some (.ref d), w15, none, none, none] ∧
      PotN Hx p (n0 + 58 + 12 * i + 3 * j) ∧ UpM [p, dl] HG Hx ∧ Hx dl = some (.dT (lenT (ds.map dlI))) ∧ DelIn pn q1.1 i j ds) ⟨ds, _, _, rfl, hpx, ux, hlx, dok.start⟩ (fun i σ Hx _ ⟨_, _, _, _, _, u, _⟩ => SqL.of (u _ _ (nSt hPG PLp PLl) hPG)) ?_ ?_
    · rintro j x σ Hy2 Hy hj ⟨ds, w9, w15, rfl, hpy2, uy2, hly, din⟩ ⟨rfl, hx⟩
      rw [List.getElem?_map] at hx
      obtain ⟨t2, ht2, rfl⟩ := Option.map_eq_some_iff.mp hx
      obtain ⟨q2, hq2, tAt2⟩ := paired_get plG ht2
      obtain ⟨u2, tx2⟩ := rmlS uy2 (List.mem_of_getElem? ht2) tAt2
      rw [List.getElem?_zip_eq_some] at hq2
      have hjl : j < m := by have := (List.getElem?_eq_some_iff.mp ht2).1; omega
      refine ⟨t2, _, rfl, SqT.of tx2, rfl, _, _, rfl, _, _, rfl, rfl, ?_⟩
      by_cases c : q1.1 = q2.1
      · refine ⟨_, rfl, _, rfl, rfl, _, rfl, ?_⟩
        refine iteF' (by rw [c]; simp) ?_
        refine iteF' rfl ?_
        exact ⟨ds, _, _, rfl, hpy2.mono (by omega), uy2, hly, din.skip⟩
      refine ⟨_, rfl, _, rfl, rfl, _, rfl, ?_⟩
      refine iteT' (by simpa using c) ?_
      refine ⟨_, rfl, p, 3, _, rfl, hpy2, by omega, by omega, by omega, fun H9 d2 e0 e1 hp9 u9 => ⟨_, _, rfl, rfl, _, rfl, ?_⟩⟩
      have uy9 := uy2.up u9 (List.mem_cons_self)
      have hl9 := u9 _ _ dlp hly
      by_cases c2 : 0 < d2
      · refine iteT' (by simpa using c2) ?_
        refine ⟨_, rfl, _, rfl, p, 10, _, rfl, hp9, by omega, by omega, by omega, fun H10 e e2 e3 hp10 u10 => ?_⟩
        obtain ⟨e, rfl⟩ : ∃ k : Nat, e = k := ⟨e.toNat, by omega⟩
        have hl10 := u10 _ _ dlp hl9
        refine ⟨by show 6 ≤ sizeLine; decide, fun l hl => ⟨p, l, _, ([0, 1, 2, 3, 5, e] : List Nat).map (fun k : Nat => V.int k), rfl, hp10.stay (same_new hl), by omega, upd_same, (ne_new hp10.some hl).symm, by show 0 < 6; decide, by show 6 < 1000; decide, fun H11 i5 x hx hp11 u11 => ?_⟩⟩
        obtain ⟨k, rfl, hk⟩ := lens_in hx
        have hk9 : k ≤ 99 := by
          simp only [List.mem_cons, List.not_mem_nil, or_false] at hk
          omega
        have s10 := same_new (o := .lst (([0, 1, 2, 3, 5, e] : List Nat).map (fun k : Nat => V.int k))) hl
        have uy11 : UpM [p, dl] HG H11 := ((uy9.up u10 List.mem_cons_self).same s10).up u11 List.mem_cons_self
        have hl11 : H11 dl = some (.dT (lenT (ds.map dlI))) := u11 _ _ dlp (s10 _ _ hl10)
        have hd11 := uy11 _ _ (nSt hdG dp ddl) hdG
        refine ⟨_, rfl, d, _, rfl, dget_of hd11 val5_delays, _, rfl, _, rfl, by show 2 ≤ sizeLine; decide, fun tp htp => ?_⟩
        have s11 := same_new (o := .tup [.str q1.1, .str q2.1]) htp
        have fr := din.fresh pnd hq1.1 hq2.1
        have dlen := din.len hq1.1 pnl
        refine ⟨dl, _, rfl, DPut.t (k := [.inr q1.1, .inr q2.1]) (s11 _ _ hl11) upd_same (by unfold lenT; rw [List.length_map, List.length_map, sizeLine_eq]; omega), ?_⟩
        rw [put_delay fr]
        exact ⟨ds ++ [((q1.1, q2.1), k)], _, _, rfl, ((hp11.stay s11).upd dlp).mono (by omega), (uy11.same s11).own (by simp), upd_same, din.add pnd hq1.1 hq2.1 c hk9⟩
      · refine iteF' (by simpa using c2) ?_
        exact ⟨ds, _, _, rfl, hp9.mono (by omega), uy9, hl9, din.skip⟩
    · rintro σ Hy ⟨ds, w9, w15, rfl, hpy2, uy2, hly, din⟩
      exact ⟨ds, _, _, _, _, rfl, hpy2.mono (by rw [List.length_map]; omega), uy2, hly, din.fin hq1.1⟩
  rintro σ HJ ⟨ds, w8, w9, w13, w15, rfl, hpJ, uJ, hlJ, dok⟩
  have hpJ : PotN HJ p (n0 + 106) := hpJ.mono (by rw [List.length_map]; omega)
  have kJ : ∀ {x : Addr} {u : HO}, HG x = some u → x ≠ p → x ≠ dl → HJ x = some u := fun {x u} e n1 n2 => uJ _ _ (nSt e n1 n2) e
  have tsl2 : ∀ t ∈ ts, t ≠ dl := fun t ht z => by
    obtain ⟨j, y, _, _, e⟩ := LiI.paired_ix prB ht
    have e : HB t = some (.lst (y.map V.str)) := e
    rw [z, hdl0] at e
    cases e
  have hRJ := kJ (kBG hRB rp) rp (nd1 hRB rp).2.2
  have prJ : Paired (LsAt HJ) ts rs := Paired.mapP' prB fun a q ha z => kJ (kBG z (tsp a ha)) (tsp a ha) (tsl2 a ha)
  have hdJ := kJ hdG dp ddl
  have hPJ := kJ hPG PLp PLl
  have hfJ := kJ (kBG hfB fp) fp (nd1 hfB fp).2.2
  have hwJ := kJ (kBG hwB wyp) wyp (nd1 hwB wyp).2.2
  have pwJ : Paired (WayAt HJ) as (ws.map wayI) := Paired.mapP pwB fun a q z => kJ (kBG z (hpB.nref z)) (hpB.nref z) (nd1 z (hpB.nref z)).2.2
  have hstJ := kJ (kCG est (hpC.nref est) std) (hpC.nref est) stl
  have hslJ := kJ (kCG esl (hpC.nref esl) sld) (hpC.nref esl) sll
  have hshJ := kJ (kCG esh (hpC.nref esh) shd) (hpC.nref esh) shl
  have u0J : Up p H HJ := by
    have a1 : Up p H HD := fun b o n e => kD (u0C b o n e) (fun z => by rw [z, d0] at e; cases e)
    have a2 : Up p H HG := fun b o n e => kG (k1 _ _ (kE (a1 b o n e) n)) (fun z => by rw [z, d0] at e; cases e)
    exact fun b o n e => kJ (a2 b o n e) n (fun z => by rw [z, dl0] at e; cases e)
  have plJ : Paired (RmL HJ) us (pn.zip rs) := Paired.mapP' plG fun a q ha ⟨u, z1, z2⟩ => by
    have ap : a ≠ p := (ne_new hpE.some (k3 a ha)).symm
    have al : a ≠ dl := fun y => by rw [y, hlG] at z1; cases z1
    refine ⟨u, kJ z1 ap al, ?_⟩
    have up : u ≠ p := fun y => by
      obtain ⟨x1, x2, x3, e, _⟩ := hpG
      rw [y, e] at z2
      injection z2 with z2
      injection z2 with z2
      match q.2, z2 with
      | x :: xs, z2 => cases z2
    have ul : u ≠ dl := fun y => by rw [y, hlG] at z2; cases z2
    exact kJ z2 up ul
  -- homes
  refine ⟨by decide, fun ho hho => ?_⟩
  have hop : ho ≠ p := (ne_new hpJ.some hho).symm
  have ho0 : H ho = none := Up.none u0J hpJ.some hho
  have sK := same_new (o := .lst []) hho
  have hoK : (upd HJ ho (.lst [])) ho = some (.lst []) := upd_same
  have hpK := hpJ.stay sK
  generalize upd HJ ho (.lst []) = HK at sK hoK hpK
  have kK : ∀ {x : Addr} {u : HO}, HJ x = some u → HK x = some u ∧ x ∉ [ho] := fun {x u} e => ⟨sK _ _ e, by simpa using ne_of_none e hho⟩
  have fl12 : rs.flatten.length ≤ 16 := by
    have l2 := nodup_len_sub rok.nd rok.sub
    rw [List.length_append, List.length_take, List.length_map] at l2
    omega
  have rl : ∀ r ∈ rs, r.length ≤ 16 := fun r hr => Nat.le_trans (List.sublist_flatten_of_mem hr).length_le fl12
  have tkl : ∀ i, (rs.take i).flatten.length ≤ 16 := fun i => by
    have e : rs.flatten = (rs.take i).flatten ++ (rs.drop i).flatten := by rw [← List.flatten_append, List.take_append_drop]
    have := congrArg List.length e
    rw [List.length_append] at this
    omega
  refine ⟨_, rfl, R, rfl, ⟨_, SqL.of (kK hRJ).1⟩, ?_⟩
  refine for_it (walk_list (K := K) (a := R) (xs := ts.map V.ref)) (fun i σ Hx => ∃ w13 : Option V, σ = [some (.ref p), some (.int n), some (.int m), some (.int b), some (.ref f), some (.ref wy), v6, v7, w8, w9, v10, some (.ref R), some (.ref D2), w13, some (.ref d), w15, some (.ref ho), none, none] ∧
    UpM [ho] HK Hx ∧ Hx ho = some (.lst (((rs.take i).flatten).map V.str))) ⟨_, rfl, UpM.refl _ _, hoK⟩ (fun i σ Hx _ ⟨_, _, u, _⟩ => SqL.of (u _ _ (kK hRJ).2 (kK hRJ).1)) ?_ ?_
  · rintro i x σ Hx Hx2 hi ⟨w13, rfl, ux, hox⟩ ⟨rfl, hx⟩
    rw [List.getElem?_map] at hx
    obtain ⟨t, ht, rfl⟩ := Option.map_eq_some_iff.mp hx
    obtain ⟨r, hr1, rAt⟩ := paired_get prJ ht
    have hrx := ux _ _ (kK rAt).2 (kK rAt).1
    refine ⟨_, rfl, .inl ⟨rfl, _, SqL.of hox⟩, _, rfl, ho, t, _, _, rfl, rfl, hox, hrx, by rw [List.length_map, List.length_map, sizeLine_eq]; have := tkl i; have := rl r (List.mem_of_getElem? hr1); omega, ?_⟩
    refine ⟨_, rfl, ux.own (by simp), ?_⟩
    rw [upd_same, List.take_add_one, hr1, List.flatten_append, List.map_append]
    show _ = some (HO.lst (_ ++ List.map V.str ([r]).flatten))
    rw [List.flatten_singleton]
  rintro σ HL ⟨w13, rfl, uL, hoL⟩
  rw [List.length_map, tsl, ← rsl, List.take_length] at hoL
  have hpL : PotN HL p (n0 + 106) := by
    obtain ⟨x1, x2, x3, e, h2⟩ := hpK
    exact ⟨x1, x2, x3, uL _ _ (by simpa using hop.symm) e, h2⟩
  have kL : ∀ {x : Addr} {u : HO}, HJ x = some u → HL x = some u := fun {x u} e => uL _ _ (kK e).2 (kK e).1
  have u0L : Up p H HL := fun b o n e => kL (u0J b o n e)
  -- balls
  refine ⟨by decide, fun l hl => ⟨_, rfl, b, rfl, l, _, rfl, SqL.of upd_same, fun qq hqq => ?_⟩⟩
  have cb := cut_balls b b4
  have sQ : Same HL (upd (upd HL l (.lst [V.str "x", V.str "y", V.str "z", V.str "w"])) qq (.lst (cutV [V.str "x", V.str "y", V.str "z", V.str "w"] none (some (b : Int))))) := (same_new (o := .lst [V.str "x", V.str "y", V.str "z", V.str "w"]) hl).trans (same_new (o := .lst (cutV [V.str "x", V.str "y", V.str "z", V.str "w"] none (some (b : Int)))) hqq)
  have hqQ : (upd (upd HL l (.lst [V.str "x", V.str "y", V.str "z", V.str "w"])) qq (.lst (cutV [V.str "x", V.str "y", V.str "z", V.str "w"] none (some (b : Int))))) qq = some (.lst ((poolB.take b).map V.str)) := by rw [upd_same]; exact congrArg (fun z => some (HO.lst z)) cb
  refine ⟨qq, rfl, ⟨_, SqL.of upd_same⟩, fun DD hDD => ?_⟩
  generalize upd (upd HL l (.lst [V.str "x", V.str "y", V.str "z", V.str "w"])) qq (.lst (cutV [V.str "x", V.str "y", V.str "z", V.str "w"] none (some (b : Int)))) = HQ at sQ hqQ hDD
  have pbl : (poolB.take b).length = b := by rw [List.length_take]; show min b 4 = b; omega
  have hpQ := hpL.stay sQ
  have DDp : DD ≠ p := (ne_new hpQ.some hDD).symm
  have qp : qq ≠ p := fun z => by
    obtain ⟨x1, x2, x3, e, _⟩ := hpQ
    rw [z, e] at hqQ
    injection hqQ with e2
    injection e2 with e2
    match poolB.take b, e2 with
    | x :: xs, e2 => cases e2
  have hoQ := sQ _ _ hoL
  have hol : 1 ≤ rs.flatten.length := by
    have h0 : rs[0]? = some rs[0] := List.getElem?_eq_getElem (by omega)
    have := (List.sublist_flatten_of_mem (List.mem_of_getElem? h0)).length_le
    have := rok.ne _ (List.mem_of_getElem? h0)
    omega
  have kM : ∀ {M : Hp} {x : Addr} {u : HO}, UpM [p] HQ M → HQ x = some u → x ≠ p → M x = some u := fun {M x u} k e n1 => k _ _ (by simpa using n1) e
  refine lc_it (walk_list (K := K) (a := qq) (xs := (poolB.take b).map V.str)) (fun i Hx => ∃ (bs : List (Str × Str)) (us2 : List Addr), PotN Hx p (n0 + 106 + i) ∧ UpM [p] HQ Hx ∧ Hx DD = some (.lst (us2.map V.ref)) ∧ Paired (PrAt Hx) us2 bs ∧ bs.map (·.1) = (poolB.take b).take i ∧ ∀ x ∈ bs, x.2 ∈ rs.flatten)
    ⟨[], [], hpQ.upd DDp, UpM.same (UpM.refl _ _) (same_new hDD), upd_same, .nil, rfl, fun x h => nomatch h⟩ (fun i Hx _ ⟨_, _, _, u, _⟩ => SqL.of (kM u hqQ qp)) ?_ ?_
  · rintro i x Hx Hx2 hi ⟨bs, us2, hpx, ux, hDx, prx, bn, bk⟩ ⟨rfl, hx⟩
    rw [List.getElem?_map] at hx
    obtain ⟨nm, hnm, rfl⟩ := Option.map_eq_some_iff.mp hx
    have hox := kM ux hoQ hop
    have il : i < b := by have := (List.getElem?_eq_some_iff.mp hnm).1; omega
    refine ⟨rfl, yes_if ⟨_, rfl, _, rfl, _, rfl, p, ho, _, rs.flatten.map V.str, rfl, hpx, by omega, hox, hop, by rw [List.length_map]; omega, by rw [List.length_map]; omega, fun Hy i2 y hy hpy uy => ?_⟩⟩
    rw [List.getElem?_map] at hy
    obtain ⟨pl, hpl, rfl⟩ := Option.map_eq_some_iff.mp hy
    have hDy := uy _ _ DDp hDx
    refine ⟨by show 2 ≤ sizeLine; decide, fun t ht => ?_⟩
    have st := same_new (o := .tup [V.str nm, V.str pl]) ht
    have tt : (upd Hy t (.tup [V.str nm, V.str pl])) t = some (.tup [V.str nm, V.str pl]) := upd_same
    have hDz := st _ _ hDy
    have tD : t ≠ DD := (ne_of_none hDy ht).symm
    have ul : us2.length = i := by
      have h1 := Paired.length prx
      have h2 := congrArg List.length bn
      rw [List.length_map, List.length_take, pbl] at h2
      omega
    refine ⟨us2.map V.ref, hDz, by rw [List.length_map, sizeLine_eq]; omega, bs ++ [(nm, pl)], us2 ++ [t], ((hpy.stay st).upd DDp).mono (by omega), ?_, by rw [upd_same, List.map_append]; rfl, ?_, ?_, fun x hx => ?_⟩
    · intro x u n1 e
      have n2 : x ≠ DD := ne_of_none e hDD
      rw [upd_ne n2]
      exact st _ _ (uy _ _ (by simpa using n1) (ux _ _ n1 e))
    · refine paired_app (Paired.mapP prx fun a q z => ?_) (.cons ?_ .nil)
      · have z2 : Hx2 a = some (.tup [.str q.1, .str q.2]) := z
        have aD : a ≠ DD := fun y => by rw [y, hDx] at z2; cases z2
        show upd _ DD _ a = _
        rw [upd_ne aD]
        exact st _ _ (uy _ _ (hpx.nref z2) z2)
      · show upd _ DD _ t = _
        rw [upd_ne tD]
        exact tt
    · rw [List.map_append, bn, List.take_add_one (i := i), hnm]
      rfl
    · rcases List.mem_append.mp hx with hx | hx
      · exact bk x hx
      · rw [List.mem_singleton.mp hx]
        exact List.mem_of_getElem? hpl
  rintro HM ⟨bs, us2, hpM, uM, hDM, prM, bn, bk⟩
  rw [List.length_map, List.take_length] at bn
  have kF : ∀ {x : Addr} {u : HO}, HJ x = some u → x ≠ p → HM x = some u := fun {x u} e n1 => kM uM (sQ _ _ (kL e)) n1
  have hdM := kF hdJ dp
  refine ⟨_, rfl, d, _, rfl, DPut.k (k := Sum.inr ("balls" : Str)) hdM (by rw [sizeLine_eq]; show 5 < 16777216; decide), ?_⟩
  rw [put6]
  have uZ : UpM [d] HM (upd HM d (.dK [(Sum.inr ("places" : Str), V.ref f), (.inr "ways", .ref wy), (.inr "delays", .ref dl), (.inr "stretch", .ref st), (.inr "players", .ref PL), (.inr "balls", .ref DD)])) := (UpM.refl _ _).own (by simp)
  have hdZ : (upd HM d (.dK [(Sum.inr ("places" : Str), V.ref f), (.inr "ways", .ref wy), (.inr "delays", .ref dl), (.inr "stretch", .ref st), (.inr "players", .ref PL), (.inr "balls", .ref DD)])) d = some (.dK [(Sum.inr ("places" : Str), V.ref f), (.inr "ways", .ref wy), (.inr "delays", .ref dl), (.inr "stretch", .ref st), (.inr "players", .ref PL), (.inr "balls", .ref DD)]) := upd_same
  have hpZ := hpM.upd (o := .dK [(Sum.inr ("places" : Str), V.ref f), (.inr "ways", .ref wy), (.inr "delays", .ref dl), (.inr "stretch", .ref st), (.inr "players", .ref PL), (.inr "balls", .ref DD)]) dp
  generalize upd HM d (.dK [(Sum.inr ("places" : Str), V.ref f), (.inr "ways", .ref wy), (.inr "delays", .ref dl), (.inr "stretch", .ref st), (.inr "players", .ref PL), (.inr "balls", .ref DD)]) = HZ at uZ hdZ hpZ
  have kZ : ∀ {x : Addr} {u : HO}, HM x = some u → x ≠ d → HZ x = some u := fun {x u} e n1 => uZ _ _ (by simpa using n1) e
  have kZJ : ∀ {x : Addr} {u : HO}, HJ x = some u → x ≠ p → x ≠ d → HZ x = some u := fun {x u} e n1 n3 => kZ (kF e n1) n3
  have notd : ∀ {x : Addr} {u : HO}, HJ x = some u → (∀ kvs, u ≠ .dK kvs) → x ≠ d := fun {x u} e h z => by
    rw [z, hdJ] at e
    exact h _ (Option.some.inj e).symm
  have z1 : (pn.zip rs).map (·.1) = pn := List.map_fst_zip (by omega)
  have z2 : (pn.zip rs).map (·.2) = rs := List.map_snd_zip (by omega)
  have z3 : ∀ q ∈ pn.zip rs, q.1 ∈ pn ∧ q.2 ∈ rs := fun q hq => List.of_mem_zip hq
  have zl : (pn.zip rs).length = m := by rw [List.length_zip]; omega
  have oz : (ownersOf (pn.zip rs)).map (·.1) = rs.flatten := by rw [owners_flat, z2]
  have bl : bs.length = b := by have := congrArg List.length bn; rw [List.length_map, pbl] at this; exact this
  refine ⟨_, rfl, q HZ d ⟨ns, ws, ds, lo, hi, pn.zip rs, bs⟩ ⟨f, wy, dl, st, sl, sh, PL, DD, as, us, us2, hdZ, ?_, ⟨?_, ?_⟩, ?_, ?_, ?_, ?_, ⟨?_, ?_⟩, ⟨?_, ?_⟩⟩ ?_ fl zl bl (hpZ.mono (by rw [List.length_map]; omega)) ?_⟩
  · exact kZJ hfJ fp (notd hfJ fun _ z => by cases z)
  · exact kZJ hwJ wyp (notd hwJ fun _ z => by cases z)
  · exact Paired.mapP pwJ fun a q z => kZJ z (hpJ.nref z) (notd z fun _ y => by cases y)
  · exact kZJ hlJ dlp ddl.symm
  · exact kZJ hstJ (hpJ.nref hstJ) (notd hstJ fun _ z => by cases z)
  · exact kZJ hslJ (hpJ.nref hslJ) (notd hslJ fun _ z => by cases z)
  · exact kZJ hshJ (hpJ.nref hshJ) (notd hshJ fun _ z => by cases z)
  · exact kZJ hPJ PLp PLd
  · refine Paired.mapP plJ fun a q ⟨u, x1, x2⟩ => ⟨u, kZJ x1 (hpJ.nref x1) (notd x1 fun _ y => by cases y), kZJ x2 (fun y => ?_) (notd x2 fun _ y => by cases y)⟩
    obtain ⟨y1, y2, y3, e, _⟩ := hpJ
    rw [y, e] at x2
    injection x2 with x2
    injection x2 with x2
    match q.2, x2 with
    | x :: xs, x2 => cases x2
  · exact kZ hDM fun z => by rw [z, hdM] at hDM; cases hDM
  · exact Paired.mapP prM fun a q z => kZ z fun y => by
      have z : HM a = some (.tup [.str q.1, .str q.2]) := z
      rw [y, hdM] at z
      cases z
  · refine ⟨by show 2 ≤ ns.length; omega, by show ns.length ≤ 12; omega, nsd, fun x hx => poolN_ok.1 x (nsk x hx), by show 1 ≤ ws.length; omega, by show ws.length ≤ 25; omega, wok.ends, wok.keys, fun i i1 i2 => wj i i1 (by have i2 : i < ns.length := i2; omega), by show 2 ≤ (pn.zip rs).length; omega, by show (pn.zip rs).length ≤ 6; omega, fun q hq => ⟨poolP_ok.1 _ (pnk _ (z3 q hq).1), rok.ne _ (z3 q hq).2, rok.inn _ (z3 q hq).2⟩, ?_, ?_, fun x hx => ?_, ?_, dok.nd, by show 1 ≤ bs.length; omega, by show bs.length ≤ 5; omega, fun x hx => ⟨poolB_ok.1 _ ?_, ?_⟩, ?_, hlo, hhi⟩
    · show ((pn.zip rs).map (·.1)).Nodup
      rw [z1]
      exact pnd
    · show ((ownersOf (pn.zip rs)).map (·.1)).Nodup
      rw [oz]
      exact rok.nd
    · show x.1.1 ∈ (pn.zip rs).map (·.1) ∧ x.1.2 ∈ (pn.zip rs).map (·.1) ∧ _
      rw [z1]
      obtain ⟨q1, q2, q3, q4⟩ := dok.ok x hx
      exact ⟨List.mem_of_mem_take q1, q2, q3, q4⟩
    · have := dok.len pnl
      show ds.length ≤ 30
      omega
    · have : x.1 ∈ bs.map (·.1) := List.mem_map_of_mem (f := (·.1)) hx
      rw [bn] at this
      exact List.mem_of_mem_take this
    · show x.2 ∈ (ownersOf (pn.zip rs)).map (·.1)
      rw [oz]
      exact bk x hx
    · show (bs.map (·.1)).Nodup
      rw [bn]
      exact poolB_ok.2.sublist (List.take_sublist _ _)
  · exact fun x u n e => kZJ (u0J x u n e) n fun z => by rw [z, d0] at e; cases e
end
end G

/-! Z4 -/
namespace G
open PySem PySem.Spec PyProof.Rows L2
theorem ZSt.free {h : Heap} {z TI TO i1 i2 l1 l2 S : Addr} {xs ys : Array Value} {i : Nat} (x : ZSt h z TI TO i1 i2 l1 l2 S xs ys i) (hz : IsZip h z TI TO .none) : IsPair h TI (.ref i1) (.ref i2) ∧ SeqIt h i1 l1 i xs ∧ SeqIt h i2 l2 i ys ∧ ∃ a b, IsPair h TO a b := by
  obtain ⟨hTI, h1, h2, ⟨_, y⟩ | ⟨T, f, oT, hz2, _⟩⟩ := x
  · exact ⟨hTI, h1, h2, y⟩
  · have := hz.symm.trans hz2
    simp [rawInt] at this
theorem SeqIt.itAt {h : Heap} {it l : Addr} {k : Nat} {xs : Array Value} (x : SeqIt h it l k xs) : (∃ o, h.get? it = some o) ∧ ∃ o, h.get? l = some o := by
  rcases x with ⟨⟨o, e, _⟩, ⟨o2, e2, _⟩⟩ | ⟨⟨o, e, _⟩, ⟨o2, e2, _⟩⟩
  · exact ⟨⟨o, e⟩, o2, e2⟩
  · exact ⟨⟨o, e⟩, o2, e2⟩
/-- a zip as what a dict is made of -/
theorem zArg {prog : Program} {w : World} (z TI TO i1 i2 l1 l2 : Addr) (D : ZipApart z TI TO i1 i2 l1 l2) (us vs : List Value) :
    PairArg prog w "zip" z [z, TI, TO, i1, i2, l1, l2] [z, TO, i1, i2] (us.zip vs).length (fun i k v => us[i]? = some k ∧ vs[i]? = some v)
      (fun h => IsZip h z TI TO .none ∧ ∀ S, ZSt h z TI TO i1 i2 l1 l2 S us.toArray vs.toArray 0) where
  type := fun s ok => ⟨_, ok.1, rfl⟩
  notDict := by decide
  keep := fun h h' ok hk => by
    obtain ⟨hz, st⟩ := ok
    refine ⟨hk _ _ hz, fun S => ?_⟩
    obtain ⟨hTI, h1, h2, a, b, hTO⟩ := (st S).free hz
    exact ⟨hk _ _ hTI, h1.at' (fun o e => hk _ o e) (fun o e => hk _ o e), h2.at' (fun o e => hk _ o e) (fun o e => hk _ o e), .inl ⟨hk _ _ hz, a, b, hk _ _ hTO⟩⟩
  there := fun h ok b hb => by
    obtain ⟨hz, st⟩ := ok
    obtain ⟨hTI, h1, h2, a, c, hTO⟩ := (st 0).free hz
    simp only [List.mem_cons, List.not_mem_nil, or_false] at hb
    rcases hb with rfl | rfl | rfl | rfl | rfl | rfl | rfl
    · exact ⟨_, hz⟩
    · exact ⟨_, hTI⟩
    · exact ⟨_, hTO⟩
    · exact h1.itAt.1
    · exact h2.itAt.1
    · exact h1.itAt.2
    · exact h2.itAt.2
  sub := fun b hb => by simp at hb ⊢; rcases hb with rfl | rfl | rfl | rfl <;> simp
  noKeys := fun A s Q E hA ok h => getAttrOr_miss_zip ok.1 rfl rfl rfl zip_no_keys (by decide +kernel) hA h
  iter := fun A s d Q E hA ok hd hdf h => by
    obtain ⟨hz, st⟩ := ok
    simp only [List.mem_cons, List.not_mem_nil, or_false, not_or] at hdf
    obtain ⟨dz, dTI, dTO, di1, di2, dl1, dl2⟩ := hdf
    refine wpAny_pyIter_zip hz (h z [z, TO, i1, i2] (fun i h => ZSt h z TI TO i1 i2 l1 l2 d us.toArray vs.toArray i) s.heap s.toks ?_ (st d) (fun _ _ e => e) fun b hb => .inl hb)
    exact {
      off := fun hm => by
        simp only [List.mem_cons, List.not_mem_nil, or_false] at hm
        rcases hm with e | e | e | e
        · exact dz e
        · exact dTO e
        · exact di1 e
        · exact di2 e
      frame := fun i h₁ h₂ st hk => st.keep hk ⟨Ne.symm dz, Ne.symm dTI, Ne.symm dTO, Ne.symm di1, Ne.symm di2, Ne.symm dl1, Ne.symm dl2⟩
      item := fun i s₁ Q₁ E₁ hi st hds hQ => by
        rw [List.length_zip] at hi
        have ex : us[i]? = some us[i] := List.getElem?_eq_getElem (by omega)
        have ey : vs[i]? = some vs[i] := List.getElem?_eq_getElem (by omega)
        refine z_next D st hds (x := us[i]) (y := vs[i]) (by simpa using ex) (by simpa using ey) fun h' st' hp hsz hk => ?_
        exact hQ s₁.heap.objs.size _ _ h' s₁.toks ⟨ex, ey⟩ (.inl ⟨_, hp, rfl, _, rfl⟩) st' fun c o hc e => hk c o (fun x => hc (by simp [x])) (fun x => hc (by simp [x])) (fun x => hc (by simp [x])) (fun x => hc (by simp [x])) e
      done := fun s₁ Q₁ E₁ st hQ => by
        have hend : us.toArray[(us.zip vs).length]? = none ∨ vs.toArray[(us.zip vs).length]? = none := by
          rw [List.length_zip]
          rcases Nat.le_total us.length vs.length with q | q
          · exact .inl (by simp; omega)
          · exact .inr (by simp; omega)
        exact z_end hA D st hend fun h' hk => hQ h' s₁.toks fun c o hc e => hk c o (fun x => hc (by simp [x])) (fun x => hc (by simp [x])) (fun x => hc (by simp [x])) (fun x => hc (by simp [x])) e }
theorem kvs_of {P : Program} {w : World} : ∀ {kvs : List (L2.Key × V)} {us vs : List Value}, Vals (kvs.map fun q => kV q.1) us → Vals (kvs.map (·.2)) vs →
    ∃ prs : List (L2.Key × Value), KV kvs prs ∧ prs.length = (us.zip vs).length ∧ ∀ (i : Nat) (key v : Value), us[i]? = some key ∧ vs[i]? = some v → ∃ k, prs[i]? = some (k, v) ∧ (mixKind P w).is k key = true
  | [], us, vs, ru, rv => by
    cases ru
    cases rv
    exact ⟨[], .nil, rfl, fun i key v h => by simp at h⟩
  | kv :: kvs, us, vs, ru, rv => by
    rw [List.map_cons] at ru rv
    cases ru with
    | cons a ru =>
      cases rv with
      | cons b rv =>
        obtain ⟨prs, r, hl, hp⟩ := kvs_of (P := P) (w := w) ru rv
        refine ⟨(kv.1, _) :: prs, .cons ⟨rfl, b⟩ r, by rw [List.length_cons, List.zip_cons_cons, List.length_cons, hl], fun i key v h => ?_⟩
        cases i with
        | zero =>
          obtain ⟨e1, e2⟩ := h
          cases e1
          cases e2
          exact ⟨kv.1, rfl, kV_is (P := P) (w := w) a⟩
        | succ i => exact hp i key v (by simpa using h)
def tDictZip (K : PySem.W.Frag) (ta : TA) : TE := fun σ H Q => tZ K ta (fun a b xs ys H1 => ∃ kvs : List (L2.Key × V), xs = kvs.map (fun q => kV q.1) ∧ ys = kvs.map (·.2) ∧ ∀ p, H1 p = none → Q (.ref p) (upd H1 p (.dK (mergeK [] kvs)))) σ H
section
variable {X : Cx} {e e2 : Expr} {ta : TA} {p q pos zpos : Pos}
/-- dict(zip(a, b)) -/
theorem pe_dictZip (K : PySem.W.Frag) (hc : X.calm = true) (ha : PA X [e, e2] ta) (hg : Gl X "dict") (hm : X.mg "dict" = none) (hgz : Gl X "zip") (hmz : X.mg "zip" = none) (hK : X.K = K := by rfl)
    (hs : starEach [.Call (.Name "zip" q) [e, e2] [] zpos] X.env = (false, eval (.Call (.Name "zip" q) [e, e2] [] zpos) X.env) :: starEach [] X.env := by rfl)
    (hs2 : starEach [e, e2] X.env = (false, eval e X.env) :: starEach [e2] X.env := by rfl) (hpl : (backTo zpos (starEach [e2] X.env)).any (·.1) = false := by rfl) :
    PE X (.Call (.Name "dict" p) [.Call (.Name "zip" q) [e, e2] [] zpos] [] pos) (tDictZip K ta) := by
  subst hK
  refine ⟨fun pins s σ H Q I hq => ?_⟩
  refine wpAny_Call_Name_kw (ld_blt I hg hm (show bootBuiltins ("dict" : Str) = some (.type "dict") from by decide +kernel) ?_)
  refine PyProof.Rows.callWith_type1 ?_ hs rfl
  rw [hs]
  show wpAny _ _ (spliced ((false, eval (.Call (.Name "zip" q) [e, e2] [] zpos) X.env) :: backTo pos (starEach [] X.env))) _ _ s
  refine Calls.spliced_cons ?_
  refine zip_run hgz hmz ha I hq hs2 hpl fun H1 s1 a b xs ys us vs h1 I1 ru rv z1 z2 fk D hz st hsz la lb hk => ?_
  obtain ⟨kvs, rfl, rfl, q⟩ := fk
  refine Calls.spliced_nil ?_
  have n5 : s1.heap.objs.size ≤ h1.objs.size := by rw [hsz]; omega
  obtain ⟨prs, rel, hl, hp⟩ := kvs_of (P := X.prog) (w := X.w) ru rv
  have lu := ru.length
  rw [List.length_map] at lu z1
  have low : ∀ {b : Addr} {o : Obj}, s1.heap.get? b = some o → b < s1.heap.objs.size := fun e => Heap.lt_size e
  refine PySem.call_dict_pairs (s := { s1 with heap := h1 }) (knd := mixKind X.prog X.w) (kvs := prs) (zArg _ _ _ _ _ _ _ D us vs) (I1.ok.hd hc) ⟨hz, st⟩ ⟨hl, hp⟩ (by rw [List.length_zip]; omega) fun h' tk hd' hk2 => ?_
  have hm : (h1.objs.size == sysModules) = false := beq_eq_false_iff_ne.mpr (Nat.ne_of_gt (Nat.lt_of_lt_of_le I1.big n5))
  have hlen : (mergeK [] kvs).length ≤ sizeLine := by
    refine Nat.le_trans (length_mergeK kvs []) ?_
    rw [List.length_nil, Nat.zero_add]
    exact z1
  refine ⟨.ref h1.objs.size, upd H1 h1.objs.size (.dK (mergeK [] kvs)), I1.laid (t' := tk) (fun b o y => ?_) n5 (show ObjOk X.prog X.w _ _ _ (.dK (mergeK [] kvs)) from ⟨hlen, hm, merged [] prs, KV.merge rel .nil, hd'⟩), rfl, q _ (I1.hok.fresh n5)⟩
  have l := low y
  refine hk2 b o (fun z => ?_) (hk b o y)
  simp only [List.mem_cons, List.not_mem_nil, or_false] at z
  rcases z with z | z | z | z
  · exact Nat.ne_of_lt (Nat.lt_of_lt_of_le l (Nat.le_add_right _ _)) z
  · exact Nat.ne_of_lt (Nat.lt_of_lt_of_le l (Nat.le_add_right _ _)) z
  · exact Nat.ne_of_lt l z
  · exact Nat.ne_of_lt (Nat.lt_of_lt_of_le l (Nat.le_add_right _ _)) z
end
end G

/-! V1 -/
namespace G
open PySem PySem.Spec PyProof.Rows L2
abbrev FrAt (H : Hp) (t : Addr) (q : Int × Int) : Prop := H t = some (.tup [.int q.1, .int q.2])
def FldOk (q : Int × Int) : Prop := fracOk q.1 q.2 = true ∧ 0 ≤ q.1
def scIf : Scope := { kind := .function, names := [(".0", .local), ("part", .local)], isGenerator := false, isCoroutine := false }
section
variable {P : Program} {w : World} {K : PySem.W.Frag} {mg : Str → Option Value} {base : Heap}
def sp_is_time : Sp := fun vs H Q _ => ∃ t a b, vs = [.ref t] ∧ H t = some (.tup [.int a, .int b]) ∧ fracOk a b = true ∧ 0 ≤ a ∧ Q (.bl true) H
theorem c_is_time (B : Blt mg) (D : DefB K mg "is_time" s_is_time ["value"]) (C1 : C8.Cal P w K mg base 2 "is_fraction" sp_is_fraction []) : C8.Cal P w K mg base 3 "is_time" sp_is_time [] := by
  have S : C8.scC ["value"] ["value"] (C8.fnScope s_is_time) = true := by decide +kernel
  refine calB D S (fun vs H Q E h => ?_) (fun f cdv A outer s H vs Q E hr h => ?_)
  · obtain ⟨t, a, b, rfl, _⟩ := h
    rfl
  obtain ⟨t, a, b, rfl, ht, h1, h2, q⟩ := h
  refine ⟨_, pss_one (ps_ret (pe_and (C8.pe_c C1 hr (by decide) rfl (pa_cons (pv 0) pa_nil)) (pe_one (pe_cmpR op_ge (t_it K (pv 0) pe_int) pe_int (nomark _))))), ?_⟩
  refine ⟨_, rfl, t, a, b, rfl, ht, ?_⟩
  rw [h1]
  refine ⟨true, rfl, iteT ⟨_, rfl, t, _, 0, _, rfl, rfl, SqT.of ht, atI_0 (n := 0) rfl, _, _, rfl, rfl, ?_⟩⟩
  show Q (.bl (decide (0 ≤ a))) H
  rw [decide_eq_true h2]
  exact q
def sp_is_row (K : PySem.W.Frag) : Sp := fun vs H Q _ => ∃ (v : Addr) (ts : List Addr) (fs : List (Int × Int)), vs = [.ref v, .int fs.length] ∧ H v = some (.tup (ts.map V.ref)) ∧ Paired (FrAt H) ts fs ∧ (∀ q ∈ fs, FldOk q) ∧ fs.length ≤ 1000 ∧ ∀ H', Same H H' → Q (.bl true) H'
theorem c_is_row (B : Blt mg) (D : DefB K mg "is_row" s_is_row ["value", "many"]) (C1 : C8.Cal P w K mg base 3 "is_time" sp_is_time []) : C8.Cal P w K mg base 4 "is_row" (sp_is_row K) [] := by
  have S : C8.scC ["value", "many", "part"] ["value", "many"] (C8.fnScope s_is_row) = true := by decide +kernel
  have nd := (C8.fnScope_by S).nd
  refine calB D S (fun vs H Q E h => ?_) (fun f cdv A outer s H vs Q E hr h => ?_)
  · obtain ⟨_, _, _, rfl, _⟩ := h
    rfl
  obtain ⟨v, ts, fs, rfl, hv, pr, ok, hl, q⟩ := h
  have tl : ts.length = fs.length := Paired.length pr
  refine ⟨_, pss_one (ps_ret (pe_and (t_isi K B (pa_cons (pv 0) (pa_cons (t_ty B.tup PyProof.Rows.boot_tuple) pa_nil))) (pe_and (pe_cmpR op_eq (t_len K B (pa_cons (pv 0) pa_nil)) (pv 1) (nomark _))
    (pe_one (t_all K rfl B (pa_cons (pe_lc (own := [("part", 2)]) (g := gName 2) (tt := tYes) rfl nd (pi_tup (pv 0)) (blkOk_by (N := ["value", "many", "part"]) (sc := C8.fnScope s_is_row) (by decide +kernel)) (fun _ _ _ _ _ => by exact pg_name (i := 2) nd rfl (.inl rfl)) (fun _ _ _ _ _ => pts_nil)
      (fun _ _ _ _ _ => by exact C8.pe_c C1 hr (by decide) rfl (pa_cons (pv 2) pa_nil))) pa_nil)))))), ?_⟩
  refine ⟨_, rfl, _, _, _, _, true, rfl, .ty _, .base (.tup hv), kit_ty (by decide +kernel), true, rfl, iteT ?_⟩
  refine ⟨_, rfl, v, _, rfl, .inr (SqT.of hv), _, rfl, rfl, _, rfl, ?_⟩
  refine iteT' (by rw [List.length_map, tl]; simp) ?_
  refine ⟨_, rfl, v, rfl, ⟨_, SqT.of hv⟩, fun D1 hD1 => ?_⟩
  refine lc_fm (walk_tup (K := K) (a := v) (xs := ts.map V.ref)) (fun i => some (V.bl true)) (by rw [List.length_map]; omega) hD1 (fun _ s1 => SqT.of (s1 _ _ hv)) ?_ ?_
  · rintro i x H3 H2 Kk Kn hi s2 ⟨rfl, hx⟩ k1 k2
    rw [List.getElem?_map] at hx
    obtain ⟨t, ht, rfl⟩ := Option.map_eq_some_iff.mp hx
    obtain ⟨fr, hf, tf⟩ := paired_get pr ht
    have := ok fr (List.mem_of_getElem? hf)
    exact ⟨rfl, yes_if ⟨_, rfl, t, fr.1, fr.2, rfl, s2 _ _ tf, this.1, this.2, k1 _ _ rfl (Same.refl _)⟩⟩
  · intro H3 s3 hl3
    rw [range_const] at hl3
    refine ⟨D1, List.replicate (ts.map V.ref).length true, rfl, SqL.of (by rw [hl3, List.map_replicate]), ?_⟩
    rw [show (List.replicate (ts.map V.ref).length true).all id = true by simp]
    exact q _ s3
def sp_check_field (CC : Addr) : Sp := fun vs H Q _ => ∃ (c v : Addr) (z : Str) (dd : DraftD) (ts : List Addr) (fs : List (Int × Int)), vs = [.ref c, .ref v] ∧ CourtX H CC c z dd ∧ H v = some (.tup (ts.map V.ref)) ∧ Paired (FrAt H) ts fs ∧ (∀ q ∈ fs, FldOk q) ∧ fs.length = dd.places.length ∧ fs.length ≤ 1000 ∧ ∀ H', Same H H' → Q .non H'
theorem c_check_field {CC : Addr} (B : Blt mg) (F : ClsF K CC courtFs) (D : DefB K mg "check_field" s_check_field ["court", "value"]) (C1 : C8.Cal P w K mg base 4 "is_row" (sp_is_row K) []) : C8.Cal P w K mg base 5 "check_field" (sp_check_field CC) [] := by
  have S : C8.scC ["court", "value"] ["court", "value"] (C8.fnScope s_check_field) = true := by decide +kernel
  have nP := F.no "places" (by decide +kernel)
  refine calB D S (fun vs H Q E h => ?_) (fun f cdv A outer s H vs Q E hr h => ?_)
  · obtain ⟨_, _, _, _, _, _, rfl, _⟩ := h
    rfl
  obtain ⟨c, v, z, dd, ts, fs, rfl, cx, hv, pr, ok, hl, hl2, q⟩ := h
  obtain ⟨dx, A, tp, tw, ty, te, tb, tx, sv, ws, ys, es, bs, h1, h2, h3, _⟩ := cx.ex
  refine ⟨_, pss_one (ps_if (pt_not (pt_val (C8.pe_c C1 hr (by decide) rfl (pa_cons (pv 1) (pa_cons (t_len K B (pa_cons (t_f K (pv 0)) pa_nil)) pa_nil))))) (pss_one ps_dead) pss_nil), ?_⟩
  refine ⟨_, rfl, _, rfl, c, CC, dx, _, _, rfl, h1, F.cl, nP, by kernel_rfl, tp, _, rfl, .inr (SqT.of h3), v, ts, fs, by rw [List.length_map, hl]; rfl, hv, pr, ok, hl2, fun H1 s1 => ?_⟩
  exact ⟨true, rfl, iteF' rfl (q _ s1)⟩
def sp_is_known (K : PySem.W.Frag) : Sp := fun vs H Q _ => ∃ (x : Str) (t : Addr) (ns : List Str), vs = [.str x, .ref t] ∧ H t = some (.tup (ns.map V.str)) ∧ x ∈ ns ∧ Q (.bl true) H
theorem c_is_known (B : Blt mg) (D : DefB K mg "is_known" s_is_known ["value", "names"]) : C8.Cal P w K mg base 1 "is_known" (sp_is_known K) [] := by
  have S : C8.scC ["value", "names"] ["value", "names"] (C8.fnScope s_is_known) = true := by decide +kernel
  refine calB D S (fun vs H Q E h => ?_) (fun f cdv A outer s H vs Q E hr h => ?_)
  · obtain ⟨_, _, _, rfl, _⟩ := h
    rfl
  obtain ⟨x, t, ns, rfl, ht, hx, q⟩ := h
  refine ⟨_, pss_one (ps_ret (pe_and (t_isi K B (pa_cons (pv 0) (pa_cons (t_ty B.str PyProof.Rows.boot_str) pa_nil))) (pe_one (pe_cmpR (op_inK K) (pv 0) (pv 1) (by rfl))))), ?_⟩
  refine ⟨_, rfl, _, _, _, _, true, rfl, .ty _, .base (.str x), kit_ty (by decide +kernel), true, rfl, iteT ?_⟩
  refine ⟨_, rfl, _, rfl, t, _, rfl, .inr (SqT.of ht), rfl, flat_strs _, ?_⟩
  simp only [Bool.false_eq_true, if_false]
  rw [inV_str, decide_eq_true hx]
  exact q
end
end G

/-! V2 -/
namespace G
open PySem PySem.Spec PyProof.Rows L2
/-- a spot: at a place, or on a way, by the part that is gone -/
inductive SpotD where
  | at (x : Str)
  | on (x y : Str) (q : Int × Int)
def SpAt (H : Hp) (v : Addr) : SpotD → Prop
  | .at x => H v = some (.tup [.str "at", .str x])
  | .on x y q => ∃ t, H v = some (.tup [.str "on", .str x, .str y, .ref t]) ∧ FrAt H t q
def SpOk (dd : DraftD) : SpotD → Prop
  | .at x => x ∈ dd.places
  | .on x y q => x ∈ dd.places ∧ y ∈ dd.places ∧ (dd.lengths.lookup (x, y)).isSome = true ∧ fracOk q.1 q.2 = true ∧ 0 < q.1 ∧ q.1 < q.2
theorem cut13_2 (a b : V) : cutV [a, b] (some 1) (some 3) = [b] := by kernel_rfl
theorem cut13_4 (a b c d : V) : cutV [a, b, c, d] (some 1) (some 3) = [b, c] := by kernel_rfl
section
variable {P : Program} {w : World} {K : PySem.W.Frag} {mg : Str → Option Value} {base : Heap}
def sp_is_spot (CC : Addr) : Sp := fun vs H Q _ => ∃ (c v : Addr) (z : Str) (dd : DraftD) (sd : SpotD), vs = [.ref c, .ref v] ∧ CourtX H CC c z dd ∧ SpAt H v sd ∧ SpOk dd sd ∧ ∀ H', Same H H' → Q (.bl true) H'
theorem c_is_spot {CC : Addr} (B : Blt mg) (F : ClsF K CC courtFs) (D : DefB K mg "is_spot" s_is_spot ["court", "value"]) (C1 : C8.Cal P w K mg base 1 "is_known" (sp_is_known K) []) (C2 : C8.Cal P w K mg base 2 "is_fraction" sp_is_fraction []) : C8.Cal P w K mg base 3 "is_spot" (sp_is_spot CC) [] := by
  have S : C8.scC ["court", "value", "place", "is_way"] ["court", "value"] (C8.fnScope s_is_spot) = true := by decide +kernel
  have nd := (C8.fnScope_by S).nd
  have nP := F.no "places" (by decide +kernel)
  have nL := F.no "lengths" (by decide +kernel)
  refine calB D S (fun vs H Q E h => ?_) (fun f cdv A outer s H vs Q E hr h => ?_)
  · obtain ⟨_, _, _, _, _, rfl, _⟩ := h
    rfl
  have hu := hu_of hr
  obtain ⟨c, v, z, dd, sd, rfl, cx, sa, so, q⟩ := h
  refine ⟨_, pss_cons (ps_if (PW.pt (pw_or (pt_not (pt_val (t_isi K B (pa_cons (pv 1) (pa_cons (t_ty B.tup PyProof.Rows.boot_tuple) pa_nil))))) (pw_or1 (pt_cmpR op_notIn_seq (t_len K B (pa_cons (pv 1) pa_nil)) (pe_tup (pa_cons pe_int (pa_cons pe_int pa_nil))) (by rfl))))) (pss_one (ps_ret pe_bl)) pss_nil)
    (pss_cons (ps_if (pt_not (pt_val (t_all K rfl B (pa_cons (pe_lc (own := [("place", 2)]) (g := gName 2) (tt := tYes) rfl nd (pi_tup (pe_slice sl_tup (pv 1) (po_some pe_int) (po_some pe_int))) (blkOk_by (N := ["court", "value", "place", "is_way"]) (sc := C8.fnScope s_is_spot) (by decide +kernel)) (fun _ _ _ _ _ => by exact pg_name (i := 2) nd rfl (.inl rfl)) (fun _ _ _ _ _ => pts_nil)
      (fun _ _ _ _ _ => by exact C8.pe_c C1 hr (by decide) rfl (pa_cons (pv 2) (pa_cons (t_f K (pv 0)) pa_nil)))) pa_nil)))) (pss_one (ps_ret pe_bl)) pss_nil)
    (pss_cons (ps_if (pt_cmpR op_eq (t_len K B (pa_cons (pv 1) pa_nil)) pe_int (nomark _)) (pss_one (ps_ret (pe_cmpR op_eq (t_it K (pv 1) pe_int) pe_str (nomark _)))) pss_nil)
    (pss_cons (ps_set (i := 3) nd rfl (.inl rfl) (pe_and (pe_cmpR op_eq (t_it K (pv 1) pe_int) pe_str (nomark _)) (pe_one (pe_cmp (pc_din hu (pe_tup (pa_cons (t_it K (pv 1) pe_int) (pa_cons (t_it K (pv 1) pe_int) pa_nil))) (t_f K (pv 0))) rfl))))
    (pss_one (ps_ret (pe_and (pv 3) (pe_and (C8.pe_c C2 hr (by decide) rfl (pa_cons (t_it K (pv 1) pe_int) pa_nil)) (pe_one (pe_chain op_lt op_lt pe_int (t_it K (t_it K (pv 1) pe_int) pe_int) (t_it K (t_it K (pv 1) pe_int) pe_int)))))))))), ?_⟩
  obtain ⟨dx, A, tp, tw, ty, te, tb, tx, sv, ws, ys, es, bs, h1, h2, h3, h4, h5, h6, h7, h8, h9, h10, h11, h12, h13⟩ := cx.ex
  cases sd with
  | «at» x =>
    have sa : H v = some (.tup [.str "at", .str x]) := sa
    have so : x ∈ dd.places := so
    refine ⟨_, rfl, _, _, _, _, true, rfl, .ty _, .base (.tup sa), kit_ty (by decide +kernel), true, rfl, iteF ?_⟩
    refine ⟨_, rfl, v, _, rfl, .inr (SqT.of sa), by show 2 ≤ sizeLine; decide, fun p1 hp1 => ?_⟩
    have s1 := same_new (o := .tup [V.int 2, V.int 4]) hp1
    refine ⟨p1, _, rfl, .inr (SqT.of upd_same), rfl, rfl, _, rfl, ?_⟩
    generalize upd H p1 (.tup [V.int 2, V.int 4]) = H1 at s1
    refine iteF' (show (!inV (V.int 2) [V.int 2, V.int 4]) = false by decide +kernel) ?_
    have sa1 := s1 _ _ sa
    refine ⟨_, rfl, 1, rfl, 3, rfl, v, _, rfl, SqT.of sa1, (show ¬ (HT.sIx 2 0 (some 1) = 0 ∧ HT.sIx 2 2 (some 3) = 2) by decide +kernel), fun p2 hp2 => ?_⟩
    have s2 := same_new (o := .tup (cutV [V.str "at", V.str x] (some 1) (some 3))) hp2
    have e2 : (upd H1 p2 (.tup (cutV [V.str "at", V.str x] (some 1) (some 3)))) p2 = some (.tup ([x].map V.str)) := by rw [upd_same, cut13_2]; rfl
    generalize upd H1 p2 (.tup (cutV [V.str "at", V.str x] (some 1) (some 3))) = H2 at s2 e2
    refine ⟨p2, rfl, ⟨_, SqT.of e2⟩, fun D1 hD1 => ?_⟩
    refine lc_fm (walk_tup (K := K) (a := p2) (xs := [x].map V.str)) (fun i => some (V.bl true)) (by show 1 ≤ 100000; decide) hD1 (fun _ s3 => SqT.of (s3 _ _ e2)) ?_ ?_
    · rintro i y H4 H3 Kk Kn hi s3 ⟨rfl, hy⟩ k1 k2
      have s03 := (s1.trans s2).trans s3
      match i, hi, hy, k1 with
      | 0, _, hy, k1 =>
        cases hy
        exact ⟨rfl, yes_if ⟨_, rfl, _, rfl, c, CC, dx, _, _, rfl, s03 _ _ h1, F.cl, nP, by kernel_rfl, x, tp, dd.places, rfl, s03 _ _ h3, so, k1 _ _ rfl (Same.refl _)⟩⟩
    intro H3 s3 hl3
    have s03 := (s1.trans s2).trans s3
    refine ⟨D1, [true], rfl, SqL.of (by rw [hl3]; rfl), true, rfl, iteF' rfl ?_⟩
    have sa3 := s03 _ _ sa
    refine ⟨_, rfl, v, _, rfl, .inr (SqT.of sa3), rfl, _, rfl, ?_⟩
    refine iteT' (by rfl) ?_
    refine ⟨_, rfl, v, _, 0, _, rfl, rfl, SqT.of sa3, atI_0 (n := 0) rfl, rfl, ?_⟩
    exact q _ s03
  | on x y fr =>
    obtain ⟨t, sa, ft⟩ : ∃ t, H v = some (.tup [.str "on", .str x, .str y, .ref t]) ∧ FrAt H t fr := sa
    obtain ⟨px, py, lk, fo, f0, f1⟩ : x ∈ dd.places ∧ y ∈ dd.places ∧ (dd.lengths.lookup (x, y)).isSome = true ∧ fracOk fr.1 fr.2 = true ∧ 0 < fr.1 ∧ fr.1 < fr.2 := so
    refine ⟨_, rfl, _, _, _, _, true, rfl, .ty _, .base (.tup sa), kit_ty (by decide +kernel), true, rfl, iteF ?_⟩
    refine ⟨_, rfl, v, _, rfl, .inr (SqT.of sa), by show 2 ≤ sizeLine; decide, fun p1 hp1 => ?_⟩
    have s1 := same_new (o := .tup [V.int 2, V.int 4]) hp1
    refine ⟨p1, _, rfl, .inr (SqT.of upd_same), rfl, rfl, _, rfl, ?_⟩
    generalize upd H p1 (.tup [V.int 2, V.int 4]) = H1 at s1
    refine iteF' (show (!inV (V.int 4) [V.int 2, V.int 4]) = false by decide +kernel) ?_
    have sa1 := s1 _ _ sa
    refine ⟨_, rfl, 1, rfl, 3, rfl, v, _, rfl, SqT.of sa1, (show ¬ (HT.sIx 4 0 (some 1) = 0 ∧ HT.sIx 4 4 (some 3) = 4) by decide +kernel), fun p2 hp2 => ?_⟩
    have s2 := same_new (o := .tup (cutV [V.str "on", V.str x, V.str y, V.ref t] (some 1) (some 3))) hp2
    have e2 : (upd H1 p2 (.tup (cutV [V.str "on", V.str x, V.str y, V.ref t] (some 1) (some 3)))) p2 = some (.tup ([x, y].map V.str)) := by rw [upd_same, cut13_4]; rfl
    generalize upd H1 p2 (.tup (cutV [V.str "on", V.str x, V.str y, V.ref t] (some 1) (some 3))) = H2 at s2 e2
    refine ⟨p2, rfl, ⟨_, SqT.of e2⟩, fun D1 hD1 => ?_⟩
    refine lc_fm (walk_tup (K := K) (a := p2) (xs := [x, y].map V.str)) (fun i => some (V.bl true)) (by show 2 ≤ 100000; decide) hD1 (fun _ s3 => SqT.of (s3 _ _ e2)) ?_ ?_
    · rintro i y H4 H3 Kk Kn hi s3 ⟨rfl, hy⟩ k1 k2
      have s03 := (s1.trans s2).trans s3
      match i, hi, hy, k1 with
      | 0, _, hy, k1 =>
        cases hy
        exact ⟨rfl, yes_if ⟨_, rfl, _, rfl, c, CC, dx, _, _, rfl, s03 _ _ h1, F.cl, nP, by kernel_rfl, x, tp, dd.places, rfl, s03 _ _ h3, px, k1 _ _ rfl (Same.refl _)⟩⟩
      | 1, _, hy, k1 =>
        cases hy
        exact ⟨rfl, yes_if ⟨_, rfl, _, rfl, c, CC, dx, _, _, rfl, s03 _ _ h1, F.cl, nP, by kernel_rfl, _, tp, dd.places, rfl, s03 _ _ h3, py, k1 _ _ rfl (Same.refl _)⟩⟩
    intro H3 s3 hl3
    have s03 := (s1.trans s2).trans s3
    refine ⟨D1, [true, true], rfl, SqL.of (by rw [hl3]; rfl), true, rfl, iteF' rfl ?_⟩
    have sa3 := s03 _ _ sa
    have ft3 := s03 _ _ ft
    refine ⟨_, rfl, v, _, rfl, .inr (SqT.of sa3), rfl, _, rfl, ?_⟩
    refine iteF' (by rfl) ?_
    refine ⟨_, rfl, v, _, 0, _, rfl, rfl, SqT.of sa3, atI_0 (n := 0) rfl, rfl, _, rfl, ?_⟩
    refine iteT' (by rfl) ?_
    refine ⟨_, rfl, v, _, 1, _, rfl, rfl, SqT.of sa3, atI_0 (n := 1) rfl, _, rfl, v, _, 2, _, rfl, rfl, SqT.of sa3, atI_0 (n := 2) rfl, by show 2 ≤ sizeLine; decide, fun p4 hp4 => ?_⟩
    have s4 := same_new (o := .tup [V.str x, V.str y]) hp4
    refine ⟨_, rfl, c, CC, dx, _, _, rfl, s4 _ _ (s03 _ _ h1), F.cl, nL, by kernel_rfl, A.ln, _, rfl, DGet.t (k := [.inr x, .inr y]) (s4 _ _ (s03 _ _ h12)) upd_same, ?_⟩
    rw [valV_lenT, Option.isSome_map, lk]
    generalize upd H3 p4 (.tup [V.str x, V.str y]) = H4 at s4
    have s04 := s03.trans s4
    have sa4 := s04 _ _ sa
    have ft4 : H4 t = some (.tup [.int fr.1, .int fr.2]) := s04 _ _ ft
    refine ⟨_, rfl, true, rfl, iteT ?_⟩
    refine ⟨_, rfl, v, _, 3, _, rfl, rfl, SqT.of sa4, atI_0 (n := 3) rfl, t, fr.1, fr.2, rfl, ft4, ?_⟩
    rw [fo]
    refine ⟨true, rfl, iteT ?_⟩
    refine ⟨_, rfl, v, _, 3, _, rfl, rfl, SqT.of sa4, atI_0 (n := 3) rfl, t, _, 0, _, rfl, rfl, SqT.of ft4, atI_0 (n := 0) rfl, _, _, rfl, rfl, _, rfl, ?_⟩
    rw [decide_eq_true f0]
    refine iteT ?_
    refine ⟨_, rfl, v, _, 3, _, rfl, rfl, SqT.of sa4, atI_0 (n := 3) rfl, t, _, 1, _, rfl, rfl, SqT.of ft4, atI_0 (n := 1) rfl, _, _, rfl, rfl, ?_⟩
    show Q (.bl (decide (fr.1 < fr.2))) H4
    rw [decide_eq_true f1]
    exact q _ s04
end
end G

/-! V3 -/
namespace G
open PySem PySem.Spec PyProof.Rows L2
/-! what a field is between two places -/
def fopP (a b : Int × Int) : Int × Int := (redT (numP a.1 a.2 b.1 b.2) (a.2 * b.2), redB (numP a.1 a.2 b.1 b.2) (a.2 * b.2))
def fopM (a b : Int × Int) : Int × Int := (redT (numM a.1 a.2 b.1 b.2) (a.2 * b.2), redB (numM a.1 a.2 b.1 b.2) (a.2 * b.2))
def fopX (a b : Int × Int) : Int × Int := (redT (numX a.1 a.2 b.1 b.2) (a.2 * b.2), redB (numX a.1 a.2 b.1 b.2) (a.2 * b.2))
def lerp (a b q : Int × Int) : Int × Int := fopP a (fopX q (fopM b a))
def fieldsL : List (Int × Int) := [(0, 1), (1, 1), (1, 2), (7, 3), (22, 7), (9, 1)]
def partsL : List (Int × Int) := [(1, 2), (1, 3), (2, 3), (3, 4), (1, 9), (7, 8)]
def smallB (a : Int) : Bool := decide (-(2 ^ 62) < a) && decide (a < 2 ^ 62)
def fopB (a b : Int × Int) : Bool := smallB a.1 && smallB b.1 && decide (0 < a.2) && decide (a.2 < 2 ^ 30) && decide (0 < b.2) && decide (b.2 < 2 ^ 30) && decide (a.2 * b.2 < 2 ^ 30)
def lerpB (a b q : Int × Int) : Bool := fopB b a && fopB q (fopM b a) && fopB a (fopX q (fopM b a)) && decide (1 ≤ (lerp a b q).2) && decide (Nat.gcd (lerp a b q).1.natAbs (lerp a b q).2.natAbs = 1)
theorem fields_ok : ∀ q ∈ fieldsL, fracOk q.1 q.2 = true ∧ 0 ≤ q.1 ∧ 1 ≤ q.2 ∧ Nat.gcd q.1.natAbs q.2.natAbs = 1 := by decide +kernel
theorem parts_ok : ∀ q ∈ partsL, fracOk q.1 q.2 = true ∧ 0 < q.1 ∧ q.1 < q.2 ∧ fopB (1, 1) q = true ∧ fracOk (fopM (1, 1) q).1 (fopM (1, 1) q).2 = true ∧ 0 < (fopM (1, 1) q).1 ∧ (fopM (1, 1) q).1 < (fopM (1, 1) q).2 := by decide +kernel
theorem lerp_ok : ∀ a ∈ fieldsL, ∀ b ∈ fieldsL, ∀ q ∈ partsL, lerpB a b q = true ∧ lerpB b a (fopM (1, 1) q) = true ∧ lerp b a (fopM (1, 1) q) = lerp a b q := by decide +kernel
theorem smallB_ok {a : Int} (h : smallB a = true) : Small a := by
  unfold smallB at h
  simp only [Bool.and_eq_true, decide_eq_true_eq] at h
  exact h
/-! a dict of places and their fields -/
theorem mergeK_app : ∀ (more kvs : List (L2.Key × V)), ((kvs ++ more).map (·.1)).Nodup → mergeK kvs more = kvs ++ more
  | [], kvs, _ => by simp [mergeK]
  | q :: more, kvs, h => by
    have fresh : (kvs.any fun kv => decide (kv.1 = q.1)) = false := by
      rw [List.any_eq_false]
      intro kv hk e
      have e : kv.1 = q.1 := by simpa using e
      rw [List.map_append, List.nodup_append] at h
      exact h.2.2 kv.1 (List.mem_map_of_mem (f := (·.1)) hk) q.1 (by simp) e
    show mergeK (putK kvs q.1 q.2) more = _
    unfold putK
    rw [fresh]
    simp only [Bool.false_eq_true, if_false]
    rw [mergeK_app more (kvs ++ [(q.1, q.2)]) (by rw [List.append_assoc]; exact h), List.append_assoc]
    rfl
theorem valV_at : ∀ {kvs : List (L2.Key × V)} {i : Nat} {k : L2.Key} {v : V}, (kvs.map (·.1)).Nodup → kvs[i]? = some (k, v) → valV kvs k = some v
  | [], i, k, v, _, h => by simp at h
  | q :: kvs, 0, k, v, _, h => by
    cases h
    exact valV_pos rfl
  | q :: kvs, i + 1, k, v, n, h => by
    have n' := List.nodup_cons.mp n
    have h' : kvs[i]? = some (k, v) := by simpa using h
    rw [valV_neg (fun e => n'.1 (by show q.1 ∈ _; rw [e]; exact List.mem_map_of_mem (f := (·.1)) (List.mem_of_getElem? h')))]
    exact valV_at n'.2 h'
abbrev plK (ns : List Str) (ts : List Addr) : List (L2.Key × V) := (ns.zip ts).map fun q => ((Sum.inr q.1 : L2.Key), V.ref q.2)
theorem plK_keys : ∀ {ns : List Str} {ts : List Addr}, ns.length = ts.length → (plK ns ts).map (·.1) = ns.map Sum.inr
  | [], [], _ => rfl
  | x :: ns, t :: ts, h => congrArg (_ :: ·) (plK_keys (ns := ns) (ts := ts) (by simpa using h))
theorem plK_nodup {ns : List Str} {ts : List Addr} (h : ns.length = ts.length) (nd : ns.Nodup) : ((plK ns ts).map (·.1)).Nodup := by
  rw [plK_keys h]
  unfold List.Nodup at nd ⊢
  rw [List.pairwise_map]
  exact nd.imp fun n e => n (by injection e)
theorem plK_merge {ns : List Str} {ts : List Addr} (h : ns.length = ts.length) (nd : ns.Nodup) : mergeK [] (plK ns ts) = plK ns ts := mergeK_app _ [] (plK_nodup h nd)
theorem plK_val {ns : List Str} {ts : List Addr} (h : ns.length = ts.length) (nd : ns.Nodup) {i : Nat} {x : Str} {t : Addr} (hx : ns[i]? = some x) (ht : ts[i]? = some t) : valV (plK ns ts) (.inr x) = some (.ref t) :=
  valV_at (plK_nodup h nd) (i := i) (by rw [List.getElem?_map, show (ns.zip ts)[i]? = some (x, t) from List.getElem?_zip_eq_some.mpr ⟨hx, ht⟩]; rfl)
theorem plK_fst : ∀ {ns : List Str} {ts : List Addr}, ns.length = ts.length → (plK ns ts).map (fun q => kV q.1) = ns.map V.str
  | [], [], _ => rfl
  | x :: ns, t :: ts, h => congrArg (_ :: ·) (plK_fst (ns := ns) (ts := ts) (by simpa using h))
theorem plK_snd : ∀ {ns : List Str} {ts : List Addr}, ns.length = ts.length → (plK ns ts).map (·.2) = ts.map V.ref
  | [], [], _ => rfl
  | x :: ns, t :: ts, h => congrArg (_ :: ·) (plK_snd (ns := ns) (ts := ts) (by simpa using h))
end G

/-! V4 -/
namespace G
open PySem PySem.Spec PyProof.Rows L2
theorem fopB_ok {a b : Int × Int} (h : fopB a b = true) : Small a.1 ∧ Small b.1 ∧ 0 < a.2 ∧ a.2 < 2 ^ 30 ∧ 0 < b.2 ∧ b.2 < 2 ^ 30 ∧ a.2 * b.2 < 2 ^ 30 := by
  unfold fopB at h
  simp only [Bool.and_eq_true, decide_eq_true_eq] at h
  obtain ⟨⟨⟨⟨⟨⟨h1, h2⟩, h3⟩, h4⟩, h5⟩, h6⟩, h7⟩ := h
  exact ⟨smallB_ok h1, smallB_ok h2, h3, h4, h5, h6, h7⟩
theorem lerpB_ok {a b q : Int × Int} (h : lerpB a b q = true) : fopB b a = true ∧ fopB q (fopM b a) = true ∧ fopB a (fopX q (fopM b a)) = true ∧ 1 ≤ (lerp a b q).2 ∧ Nat.gcd (lerp a b q).1.natAbs (lerp a b q).2.natAbs = 1 := by
  unfold lerpB at h
  simp only [Bool.and_eq_true, decide_eq_true_eq] at h
  obtain ⟨⟨⟨⟨h1, h2⟩, h3⟩, h4⟩, h5⟩ := h
  exact ⟨h1, h2, h3, h4, h5⟩
section
variable {P : Program} {w : World} {K : PySem.W.Frag} {mg : Str → Option Value} {base : Heap}
abbrev foN : List Str := ["court", "field", "spot", "lateness", "_", "one", "other", "part"]
def sp_field_on (CC : Addr) : Sp := fun vs H Q _ => ∃ (c v s : Addr) (z : Str) (dd : DraftD) (ts : List Addr) (fs : List (Int × Int)) (sd : SpotD), vs = [.ref c, .ref v, .ref s] ∧ CourtX H CC c z dd ∧ H v = some (.tup (ts.map V.ref)) ∧ Paired (FrAt H) ts fs ∧ (∀ q ∈ fs, FldOk q) ∧ fs.length = dd.places.length ∧ fs.length ≤ 1000 ∧ dd.places.Nodup ∧
  SpAt H s sd ∧ SpOk dd sd ∧ match sd with
  | .at x => ∀ (i : Nat) (t : Addr) (H' : Hp), dd.places[i]? = some x → ts[i]? = some t → Same H H' → Q (.ref t) H'
  | .on x y q => ∀ (i j : Nat) (a b : Int × Int), dd.places[i]? = some x → dd.places[j]? = some y → fs[i]? = some a → fs[j]? = some b → lerpB a b q = true ∧ ∀ (r : Addr) (H' : Hp), Same H H' → FrAt H' r (lerp a b q) → Q (.ref r) H'
theorem c_field_on {CC : Addr} (B : Blt mg) (F : ClsF K CC courtFs) (D : DefBK K mg "field_on" s_field_on ["court", "field", "spot"]) (C1 : C8.Cal P w K mg base 5 "check_field" (sp_check_field CC) []) (C2 : C8.Cal P w K mg base 3 "is_spot" (sp_is_spot CC) [])
    (CP : C8.Cal P w K mg base 2 "plus" (sp_fop K numP) []) (CM : C8.Cal P w K mg base 2 "minus" (sp_fop K numM) []) (CX : C8.Cal P w K mg base 2 "times" (sp_fop K numX) []) : C8.Cal P w K mg base 6 "field_on" (sp_field_on CC) [] ∧ CalK P w K mg base 6 "field_on" (sp_field_on CC) ["court", "field", "spot"] := by
  have S : C8.scC foN ["court", "field", "spot"] (C8.fnScope s_field_on) = true := by decide +kernel
  have nd := (C8.fnScope_by S).nd
  have nP := F.no "places" (by decide +kernel)
  refine calBK D S (fun vs H Q E h => ?_) (fun f cdv A outer s H vs Q E hr h => ?_)
  · obtain ⟨_, _, _, _, _, _, _, _, rfl, _⟩ := h
    rfl
  have hu := hu_of hr
  obtain ⟨c, v, sp, z, dd, ts, fs, sd, rfl, cx, hv, pr, ok, hl, hl2, pnd, sa, so, q⟩ := h
  refine ⟨_, pss_cons (ps_expr (C8.pe_c C1 hr (by decide) rfl (pa_cons (pv 0) (pa_cons (pv 1) pa_nil))))
    (pss_cons (ps_if (pt_not (pt_val (C8.pe_c C2 hr (by decide) rfl (pa_cons (pv 0) (pa_cons (pv 2) pa_nil))))) (pss_one ps_dead) pss_nil)
    (pss_cons (ps_set (i := 3) nd rfl (.inl rfl) (pe_dictZip K rfl (pa_cons (t_f K (pv 0)) (pa_cons (pv 1) pa_nil)) (by rfl) B.dict (by rfl) B.zip))
    (pss_cons (ps_if (pt_cmpR op_eq (t_it K (pv 2) pe_int) pe_str (nomark _)) (pss_one (ps_ret (pe_dget hu (pv 3) (t_it K (pv 2) pe_int) (by exact fun _ _ => rfl)))) pss_nil)
    (pss_cons (ps_asg (pv 2) (t_gt K (n := 4) rfl (pgs_cons (pg_name (i := 4) nd rfl (.inl rfl)) (pgs_cons (pg_name (i := 5) nd rfl (.inl rfl)) (pgs_cons (pg_name (i := 6) nd rfl (.inl rfl)) (pgs_cons (pg_name (i := 7) nd rfl (.inl rfl)) pgs_nil))))))
    (pss_one (ps_ret (C8.pe_c CP hr (by decide) rfl (pa_cons (pe_dget hu (pv 3) (pv 5) (by exact fun _ _ => rfl)) (pa_cons (C8.pe_c CX hr (by decide) rfl (pa_cons (pv 7) (pa_cons (C8.pe_c CM hr (by decide) rfl (pa_cons (pe_dget hu (pv 3) (pv 6) (by exact fun _ _ => rfl)) (pa_cons (pe_dget hu (pv 3) (pv 5) (by exact fun _ _ => rfl)) pa_nil))) pa_nil))) pa_nil))))))))), ?_⟩
  refine ⟨_, rfl, _, rfl, c, v, z, dd, ts, fs, rfl, cx, hv, pr, ok, hl, hl2, fun H1 s1 => ?_⟩
  have cx1 := cx.stay s1
  have sa1 : SpAt H1 sp sd := by
    cases sd with
    | «at» x => exact s1 _ _ sa
    | on x y fr => obtain ⟨t, e1, e2⟩ := sa; exact ⟨t, s1 _ _ e1, s1 _ _ e2⟩
  refine ⟨_, rfl, _, rfl, c, sp, z, dd, sd, rfl, cx1, sa1, so, fun H2 s2 => ⟨true, rfl, iteF' rfl ?_⟩⟩
  have s02 := s1.trans s2
  obtain ⟨dx, A, tp, tw, ty, te, tb, tx, sv, ws, ys, es, bs, h1, h2, h3, _⟩ := (cx.stay s02).ex
  have hv2 := s02 _ _ hv
  have tl : ts.length = fs.length := Paired.length pr
  have nt : dd.places.length = ts.length := by omega
  refine ⟨_, rfl, c, CC, dx, _, _, rfl, h1, F.cl, nP, by kernel_rfl, _, rfl, tp, v, dd.places.map V.str, ts.map V.ref, rfl, .inr (.inr ⟨SqT.of h3, SqT.of hv2⟩), plK dd.places ts, (plK_fst nt).symm, (plK_snd nt).symm, fun dc hdc => ?_⟩
  rw [plK_merge nt pnd]
  have s3 := same_new (o := .dK (plK dd.places ts)) hdc
  have hd3 : (upd H2 dc (.dK (plK dd.places ts))) dc = some (.dK (plK dd.places ts)) := upd_same
  generalize upd H2 dc (.dK (plK dd.places ts)) = H3 at s3 hd3
  have s03 := s02.trans s3
  have pr3 : Paired (FrAt H3) ts fs := Paired.mapP pr fun a q z => s03 _ _ z
  have dg : ∀ {Hx : Hp} {i : Nat} {x : Str} {t : Addr}, Same H3 Hx → dd.places[i]? = some x → ts[i]? = some t → DGet Hx dc (.str x) (some (.ref t)) := fun {Hx i x t} s hx ht => dget_of (s _ _ hd3) (plK_val nt pnd hx ht)
  cases sd with
  | «at» x =>
    have sa3 : H3 sp = some (.tup [.str "at", .str x]) := s03 _ _ sa
    refine ⟨_, rfl, sp, _, 0, _, rfl, rfl, SqT.of sa3, atI_0 (n := 0) rfl, rfl, _, rfl, iteT' (by rfl) ?_⟩
    obtain ⟨i, hx⟩ := List.mem_iff_getElem?.mp (show x ∈ dd.places from so)
    have hi : i < ts.length := by have := (List.getElem?_eq_some_iff.mp hx).1; omega
    have ht : ts[i]? = some ts[i] := List.getElem?_eq_getElem hi
    exact ⟨_, rfl, _, rfl, sp, _, 1, _, rfl, rfl, SqT.of sa3, atI_0 (n := 1) rfl, dc, _, rfl, dg (Same.refl _) hx ht, q i _ _ hx ht s03⟩
  | on x y fr =>
    obtain ⟨t, e1, e2⟩ := sa
    have sa3 := s03 _ _ e1
    have ft3 : H3 t = some (.tup [.int fr.1, .int fr.2]) := s03 _ _ e2
    obtain ⟨px, py, _⟩ : x ∈ dd.places ∧ y ∈ dd.places ∧ _ := so
    obtain ⟨i, hx⟩ := List.mem_iff_getElem?.mp px
    obtain ⟨j, hy⟩ := List.mem_iff_getElem?.mp py
    have hi : i < ts.length := by have := (List.getElem?_eq_some_iff.mp hx).1; omega
    have hj : j < ts.length := by have := (List.getElem?_eq_some_iff.mp hy).1; omega
    have hti : ts[i]? = some ts[i] := List.getElem?_eq_getElem hi
    have htj : ts[j]? = some ts[j] := List.getElem?_eq_getElem hj
    obtain ⟨a, ha, ta⟩ := paired_get pr3 hti
    obtain ⟨b, hb, tb2⟩ := paired_get pr3 htj
    obtain ⟨lb, q⟩ := q i j a b hx hy ha hb
    obtain ⟨b1, b2, b3, b4, b5⟩ := lerpB_ok lb
    refine ⟨_, rfl, sp, _, 0, _, rfl, rfl, SqT.of sa3, atI_0 (n := 0) rfl, rfl, _, rfl, iteF' (by rfl) ?_⟩
    refine ⟨_, rfl, sp, _, rfl, SqT.of sa3, rfl, _, _, rfl, _, _, rfl, _, _, rfl, _, _, rfl, rfl, ?_⟩
    refine ⟨_, rfl, _, rfl, dc, _, rfl, dg (Same.refl _) hx hti, _, rfl, _, rfl, _, rfl, dc, _, rfl, dg (Same.refl _) hy htj, _, rfl, _, rfl, dc, _, rfl, dg (Same.refl _) hx hti, ?_⟩
    obtain ⟨c1, c2, c3, c4, c5, c6, c7⟩ := fopB_ok b1
    obtain ⟨e1', e2', e3, e4, e5, e6, e7⟩ := fopB_ok b2
    obtain ⟨g1, g2, g3, g4, g5, g6, g7⟩ := fopB_ok b3
    refine ⟨ts[j], ts[i], b.1, b.2, a.1, a.2, rfl, SqT.of tb2, SqT.of ta, c1, c2, c3, c4, c5, c6, c7, fun p1 hp1 => ?_⟩
    have s4 := same_new (o := .tup [.int (fopM b a).1, .int (fopM b a).2]) hp1
    have m4 : (upd H3 p1 (.tup [.int (fopM b a).1, .int (fopM b a).2])) p1 = some (.tup [.int (fopM b a).1, .int (fopM b a).2]) := upd_same
    refine ⟨t, p1, fr.1, fr.2, (fopM b a).1, (fopM b a).2, rfl, SqT.of (s4 _ _ ft3), SqT.of m4, e1', e2', e3, e4, e5, e6, e7, fun p2 hp2 => ?_⟩
    have s5 := same_new (o := .tup [.int (fopX fr (fopM b a)).1, .int (fopX fr (fopM b a)).2]) hp2
    have m5 : (upd (upd H3 p1 (.tup [.int (fopM b a).1, .int (fopM b a).2])) p2 (.tup [.int (fopX fr (fopM b a)).1, .int (fopX fr (fopM b a)).2])) p2 = some (.tup [.int (fopX fr (fopM b a)).1, .int (fopX fr (fopM b a)).2]) := upd_same
    refine ⟨ts[i], p2, a.1, a.2, (fopX fr (fopM b a)).1, (fopX fr (fopM b a)).2, rfl, SqT.of (s5 _ _ (s4 _ _ ta)), SqT.of m5, g1, g2, g3, g4, g5, g6, g7, fun p3 hp3 => ?_⟩
    have s6 := same_new (o := .tup [.int (lerp a b fr).1, .int (lerp a b fr).2]) hp3
    exact q p3 _ (((s03.trans s4).trans s5).trans s6) upd_same
end
end G

/-! V5 -/
namespace G
open PySem PySem.Spec PyProof.Rows L2
theorem PotN.nlist {H : Hp} {p t : Addr} {n : Nat} {x : V} {xs : List V} (h : PotN H p n) (e : H t = Option.some (HO.lst (x :: xs))) (hx : ∀ i, x ≠ .int i) : t ≠ p := fun z => by
  obtain ⟨a, b, c, e2, _⟩ := h
  rw [z, e2] at e
  injection e with e
  injection e with e
  injection e with e _
  exact hx _ e.symm
theorem PotN.nstrs {H : Hp} {p t : Addr} {n : Nat} {xs : List Str} (h : PotN H p n) (e : H t = Option.some (HO.lst (xs.map V.str))) (l : 1 ≤ xs.length) : t ≠ p := by
  match xs, e, l with
  | x :: xs, e, _ => exact h.nlist e fun i z => by cases z
theorem PotN.nrefs {H : Hp} {p t : Addr} {n : Nat} {xs : List Addr} (h : PotN H p n) (e : H t = Option.some (HO.lst (xs.map V.ref))) (l : 1 ≤ xs.length) : t ≠ p := by
  match xs, e, l with
  | x :: xs, e, _ => exact h.nlist e fun i z => by cases z
theorem PotN.ndk {H : Hp} {p t : Addr} {n : Nat} {xs : List (L2.Key × V)} (h : PotN H p n) (e : H t = Option.some (HO.dK xs)) : t ≠ p := fun z => by
  obtain ⟨a, b, c, e2, _⟩ := h
  rw [z, e2] at e
  cases e
theorem PotN.ndt {H : Hp} {p t : Addr} {n : Nat} {xs : List (List L2.Key × V)} (h : PotN H p n) (e : H t = Option.some (HO.dT xs)) : t ≠ p := fun z => by
  obtain ⟨a, b, c, e2, _⟩ := h
  rw [z, e2] at e
  cases e
theorem OwnAt.up {H H' : Hp} {d p : Addr} {n : Nat} {o : OwnD} (h : OwnAt H d o) (ok : OwnOk o) (hp : PotN H p n) (u : Up p H H') : OwnAt H' d o := by
  obtain ⟨pl, wy, dl, st, sl, sh, ps, bl, ws, ys, bs, h1, h2, ⟨h3, h3b⟩, h4, h5, h6, h7, ⟨h8, h8b⟩, ⟨h9, h9b⟩⟩ := h.ex
  have l3 := Paired.length h3b
  have l8 := Paired.length h8b
  have l9 := Paired.length h9b
  rw [List.length_map] at l3
  have p2 := ok.p2
  have w1 := ok.w1
  have y2 := ok.y2
  have b1 := ok.b1
  refine ⟨pl, wy, dl, st, sl, sh, ps, bl, ws, ys, bs, u _ _ (hp.ndk h1) h1, u _ _ (hp.nstrs h2 (by omega)) h2, ⟨u _ _ (hp.nrefs h3 (by omega)) h3, Paired.mapP h3b fun _ _ z => u _ _ (hp.nref z) z⟩, u _ _ (hp.ndt h4) h4, u _ _ (hp.nref h5) h5, u _ _ (hp.nref h6) h6, u _ _ (hp.nref h7) h7, ⟨u _ _ (hp.nrefs h8 (by omega)) h8, ?_⟩, ⟨u _ _ (hp.nrefs h9 (by omega)) h9, Paired.mapP h9b fun _ _ z => u _ _ (hp.nref z) z⟩⟩
  have go : ∀ {ys : List Addr} {qs : List (Str × List Str)}, (∀ q ∈ qs, 1 ≤ q.2.length) → Paired (RmL H) ys qs → Paired (RmL H') ys qs := by
    intro ys qs hq r
    induction r with
    | nil => exact .nil
    | @cons a q _ _ e _ ih =>
      obtain ⟨v, z1, z2⟩ := e
      exact .cons ⟨v, u _ _ (hp.nref z1) z1, u _ _ (hp.nstrs z2 (hq q List.mem_cons_self)) z2⟩ (ih fun x hx => hq x (List.mem_cons_of_mem _ hx))
  exact go (fun q hq => (ok.yk q hq).2.1) h8b
def MineOk (o : OwnD) : SpotD → Prop
  | .at x => x ∈ o.places
  | .on x y q => q ∈ partsL ∧ (x, y) ∈ (lensOf o.ways).map (·.1)
section
variable {P : Program} {w : World} {K : PySem.W.Frag} {mg : Str → Option Value} {base : Heap}
def sp_mine_spot : Sp := fun vs H Q _ => ∃ (p d : Addr) (k : Nat) (o : OwnD), vs = [.ref p, .ref d] ∧ PotN H p k ∧ k + 4 < 999 ∧ OwnAt H d o ∧ OwnOk o ∧ ∀ H' s sd, SpAt H' s sd → MineOk o sd → PotN H' p (k + 4) → Up p H H' → Q (.ref s) H'
theorem c_mine_spot (B : Blt mg) (D : DefB K mg "_law_mine_spot" s_law_mine_spot ["pot", "own"]) (CT : C8.Cal P w K mg base 1 "_law_take" sp_law_take []) (CO : C8.Cal P w K mg base 2 "_law_of" (sp_law_of K) []) : C8.Cal P w K mg base 3 "_law_mine_spot" sp_mine_spot [] := by
  have S : C8.scC ["pot", "own", "one", "other", "length", "ends"] ["pot", "own"] (C8.fnScope s_law_mine_spot) = true := by decide +kernel
  have nd := (C8.fnScope_by S).nd
  refine calB D S (fun vs H Q E h => ?_) (fun f cdv A outer s H vs Q E hr h => ?_)
  · obtain ⟨_, _, _, _, rfl, _⟩ := h
    rfl
  have hu := hu_of hr
  obtain ⟨p, d, k, o, rfl, hp, hk, oa, ok, q⟩ := h
  refine ⟨_, pss_cons (ps_if (pt_cmpR op_eq (C8.pe_c CT hr (by decide) rfl (pa_cons (pv 0) (pa_cons pe_int pa_nil))) pe_int (nomark _)) (pss_one (ps_ret (pe_tup (pa_cons pe_str (pa_cons (C8.pe_c CO hr (by decide) rfl (pa_cons (pv 0) (pa_cons (pe_dget hu (pv 1) pe_str (by exact fun _ _ => rfl)) pa_nil))) pa_nil))))) pss_nil)
    (pss_cons (ps_asg (C8.pe_c CO hr (by decide) rfl (pa_cons (pv 0) (pa_cons (pe_dget hu (pv 1) pe_str (by exact fun _ _ => rfl)) pa_nil))) (t_gt K (n := 3) rfl (pgs_cons (pg_name (i := 2) nd rfl (.inl rfl)) (pgs_cons (pg_name (i := 3) nd rfl (.inl rfl)) (pgs_cons (pg_name (i := 4) nd rfl (.inl rfl)) pgs_nil)))))
    (pss_cons (ps_set (i := 5) nd rfl (.inl rfl) (pe_ifExp (pt_cmpR op_eq (C8.pe_c CT hr (by decide) rfl (pa_cons (pv 0) (pa_cons pe_int pa_nil))) pe_int (nomark _)) (pe_tup (pa_cons (pv 2) (pa_cons (pv 3) pa_nil))) (pe_tup (pa_cons (pv 3) (pa_cons (pv 2) pa_nil)))))
    (pss_one (ps_ret (pe_op op_catT (pe_op op_catT (pe_tup (pa_cons pe_str pa_nil)) (pv 5)) (pe_tup (pa_cons (C8.pe_c CO hr (by decide) rfl (pa_cons (pv 0) (pa_cons (pe_lst (pa_as (t' := tPs partsL) (pa_cons (pe_tup (pa_cons pe_int (pa_cons pe_int pa_nil))) (pa_cons (pe_tup (pa_cons pe_int (pa_cons pe_int pa_nil))) (pa_cons (pe_tup (pa_cons pe_int (pa_cons pe_int pa_nil))) (pa_cons (pe_tup (pa_cons pe_int (pa_cons pe_int pa_nil))) (pa_cons (pe_tup (pa_cons pe_int (pa_cons pe_int pa_nil))) (pa_cons (pe_tup (pa_cons pe_int (pa_cons pe_int pa_nil))) pa_nil)))))) (by rfl))) pa_nil))) pa_nil))))))), ?_⟩
  obtain ⟨pl, wy, dl, st, sl, sh, ps, bl, ws, ys, bs, h1, h2, ⟨h3, h3b⟩, h4, h5, h6, h7, ⟨h8, h8b⟩, ⟨h9, h9b⟩⟩ := oa.ex
  have p2 := ok.p2
  have p12 := ok.p12
  have w1 := ok.w1
  have w25 := ok.w25
  have wl := Paired.length h3b
  rw [List.length_map] at wl
  refine ⟨_, rfl, p, 3, k, rfl, hp, by omega, by omega, by omega, fun H1 d1 e0 e1 hp1 u1 => ⟨rfl, _, rfl, ?_⟩⟩
  have h11 := u1 _ _ (hp.ndk h1) h1
  by_cases c : d1 = 0
  · refine iteT' (by rw [c]; rfl) ?_
    have plp := hp.nstrs h2 (by omega)
    have h21 := u1 _ _ plp h2
    refine ⟨_, rfl, _, rfl, d, _, rfl, dget_of h11 valV_places, p, pl, k + 1, o.places.map V.str, rfl, hp1, by omega, h21, plp, by rw [List.length_map]; omega, by rw [List.length_map]; omega, fun H2 i x hx hp2 u2 => ?_⟩
    rw [List.getElem?_map] at hx
    obtain ⟨y, hy, rfl⟩ := Option.map_eq_some_iff.mp hx
    refine ⟨by show 2 ≤ sizeLine; decide, fun t ht => ?_⟩
    have s2 := same_new (o := .tup [V.str "at", V.str y]) ht
    exact q _ t (.at y) (show (upd H2 t (.tup [V.str "at", V.str y])) t = some (.tup [V.str "at", V.str y]) from upd_same) (List.mem_of_getElem? hy) ((hp2.stay s2).mono (by omega)) ((u1.trans u2).thn s2)
  refine iteF' (decide_eq_false fun z => by injection z with z; exact c z) ?_
  have wyp := hp.nrefs h3 (by omega)
  have h31 := u1 _ _ wyp h3
  refine ⟨_, rfl, _, rfl, d, _, rfl, dget_of h11 valV_ways, p, wy, k + 1, ws.map V.ref, rfl, hp1, by omega, h31, wyp, by rw [List.length_map]; omega, by rw [List.length_map]; omega, fun H2 i x hx hp2 u2 => ?_⟩
  rw [List.getElem?_map] at hx
  obtain ⟨t, ht, rfl⟩ := Option.map_eq_some_iff.mp hx
  obtain ⟨wI, hwI, tw⟩ := paired_get h3b ht
  rw [List.getElem?_map] at hwI
  obtain ⟨wn, hwn, rfl⟩ := Option.map_eq_some_iff.mp hwI
  have tw0 : H t = some (.tup [.str wn.1, .str wn.2.1, .int (wn.2.2 : Int)]) := tw
  have tp := hp.nref tw0
  have tw2 := u2 _ _ tp (u1 _ _ tp tw0)
  have hwm := List.mem_of_getElem? hwn
  refine ⟨t, _, rfl, SqT.of tw2, rfl, _, _, rfl, _, _, rfl, _, _, rfl, rfl, ?_⟩
  refine ⟨_, rfl, p, 2, k + 2, rfl, hp2, by omega, by omega, by omega, fun H3 d3 g0 g1 hp3 u3 => ⟨rfl, _, rfl, ?_⟩⟩
  have u03 := (u1.trans u2).trans u3
  by_cases c3 : d3 = 0
  · refine iteT' (by rw [c3]; rfl) ?_
    refine ⟨_, rfl, _, rfl, by show 2 ≤ sizeLine; decide, fun en hen => ?_⟩
    have s3 := same_new (o := .tup [V.str wn.1, V.str wn.2.1]) hen
    have en3 : (upd H3 en (.tup [V.str wn.1, V.str wn.2.1])) en = some (.tup [V.str wn.1, V.str wn.2.1]) := upd_same
    have hp4 := hp3.stay s3
    have u04 := u03.thn s3
    generalize upd H3 en (.tup [V.str wn.1, V.str wn.2.1]) = H4 at s3 en3 hp4 u04
    refine ⟨by show 1 ≤ sizeLine; decide, fun t1 ht1 => ?_⟩
    have s4 := same_new (o := .tup [V.str "on"]) ht1
    have t14 : (upd H4 t1 (.tup [V.str "on"])) t1 = some (.tup [V.str "on"]) := upd_same
    refine ⟨_, rfl, t1, en, _, _, rfl, rfl, SqT.of t14, SqT.of (s4 _ _ en3), by simp, by show 3 ≤ sizeLine; decide, (fun z => (nomatch z)), fun _ t2 ht2 => ?_⟩
    have s5 := same_new (o := .tup [V.str "on", V.str wn.1, V.str wn.2.1]) ht2
    have t25 : (upd (upd H4 t1 (.tup [V.str "on"])) t2 (.tup [V.str "on", V.str wn.1, V.str wn.2.1])) t2 = some (.tup [V.str "on", V.str wn.1, V.str wn.2.1]) := upd_same
    have hp6 := (hp4.stay s4).stay s5
    have u06 := (u04.thn s4).thn s5
    refine ⟨_, rfl, ?_⟩
    refine lst_ps (by decide) fun H6 l ts s6 hl0 hl r6 => ?_
    have tl6 : ts.length = 6 := Paired.length r6
    have hp7 := hp6.stay s6
    have lp := (ne_new hp6.some hl0).symm
    refine ⟨p, l, k + 3, ts.map V.ref, rfl, hp7, by omega, hl, lp, by rw [List.length_map, tl6]; decide, by rw [List.length_map, tl6]; decide, fun H7 i7 x7 hx7 hp8 u7 => ?_⟩
    rw [List.getElem?_map] at hx7
    obtain ⟨t7, ht7, rfl⟩ := Option.map_eq_some_iff.mp hx7
    obtain ⟨fr, hfr, et⟩ := paired_get r6 ht7
    have et7 := u7 _ _ (hp7.nref et) et
    have t27 := u7 _ _ (hp7.nref (s6 _ _ t25)) (s6 _ _ t25)
    refine ⟨by show 1 ≤ sizeLine; decide, fun t8 ht8 => ?_⟩
    have s8 := same_new (o := .tup [V.ref t7]) ht8
    refine ⟨t2, t8, _, _, rfl, rfl, SqT.of (s8 _ _ t27), SqT.of upd_same, by simp, by show 4 ≤ sizeLine; decide, (fun z => (nomatch z)), fun _ t9 ht9 => ?_⟩
    have s9 := same_new (o := .tup [V.str "on", V.str wn.1, V.str wn.2.1, V.ref t7]) ht9
    exact q _ t9 (.on wn.1 wn.2.1 fr) ⟨t7, upd_same, s9 _ _ (s8 _ _ et7)⟩ ⟨List.mem_of_getElem? hfr, mem_keys.mpr ⟨wn, hwm, .inl rfl⟩⟩ ((hp8.stay s8).stay s9) ((((u06.thn s6).trans u7).thn s8).thn s9)
  · refine iteF' (decide_eq_false fun z => by injection z with z; exact c3 z) ?_
    refine ⟨_, rfl, _, rfl, by show 2 ≤ sizeLine; decide, fun en hen => ?_⟩
    have s3 := same_new (o := .tup [V.str wn.2.1, V.str wn.1]) hen
    have en3 : (upd H3 en (.tup [V.str wn.2.1, V.str wn.1])) en = some (.tup [V.str wn.2.1, V.str wn.1]) := upd_same
    have hp4 := hp3.stay s3
    have u04 := u03.thn s3
    generalize upd H3 en (.tup [V.str wn.2.1, V.str wn.1]) = H4 at s3 en3 hp4 u04
    refine ⟨by show 1 ≤ sizeLine; decide, fun t1 ht1 => ?_⟩
    have s4 := same_new (o := .tup [V.str "on"]) ht1
    have t14 : (upd H4 t1 (.tup [V.str "on"])) t1 = some (.tup [V.str "on"]) := upd_same
    refine ⟨_, rfl, t1, en, _, _, rfl, rfl, SqT.of t14, SqT.of (s4 _ _ en3), by simp, by show 3 ≤ sizeLine; decide, (fun z => (nomatch z)), fun _ t2 ht2 => ?_⟩
    have s5 := same_new (o := .tup [V.str "on", V.str wn.2.1, V.str wn.1]) ht2
    have t25 : (upd (upd H4 t1 (.tup [V.str "on"])) t2 (.tup [V.str "on", V.str wn.2.1, V.str wn.1])) t2 = some (.tup [V.str "on", V.str wn.2.1, V.str wn.1]) := upd_same
    have hp6 := (hp4.stay s4).stay s5
    have u06 := (u04.thn s4).thn s5
    refine ⟨_, rfl, ?_⟩
    refine lst_ps (by decide) fun H6 l ts s6 hl0 hl r6 => ?_
    have tl6 : ts.length = 6 := Paired.length r6
    have hp7 := hp6.stay s6
    have lp := (ne_new hp6.some hl0).symm
    refine ⟨p, l, k + 3, ts.map V.ref, rfl, hp7, by omega, hl, lp, by rw [List.length_map, tl6]; decide, by rw [List.length_map, tl6]; decide, fun H7 i7 x7 hx7 hp8 u7 => ?_⟩
    rw [List.getElem?_map] at hx7
    obtain ⟨t7, ht7, rfl⟩ := Option.map_eq_some_iff.mp hx7
    obtain ⟨fr, hfr, et⟩ := paired_get r6 ht7
    have et7 := u7 _ _ (hp7.nref et) et
    have t27 := u7 _ _ (hp7.nref (s6 _ _ t25)) (s6 _ _ t25)
    refine ⟨by show 1 ≤ sizeLine; decide, fun t8 ht8 => ?_⟩
    have s8 := same_new (o := .tup [V.ref t7]) ht8
    refine ⟨t2, t8, _, _, rfl, rfl, SqT.of (s8 _ _ t27), SqT.of upd_same, by simp, by show 4 ≤ sizeLine; decide, (fun z => (nomatch z)), fun _ t9 ht9 => ?_⟩
    have s9 := same_new (o := .tup [V.str "on", V.str wn.2.1, V.str wn.1, V.ref t7]) ht9
    exact q _ t9 (.on wn.2.1 wn.1 fr) ⟨t7, upd_same, s9 _ _ (s8 _ _ et7)⟩ ⟨List.mem_of_getElem? hfr, mem_keys.mpr ⟨wn, hwm, .inr rfl⟩⟩ ((hp8.stay s8).stay s9) ((((u06.thn s6).trans u7).thn s8).thn s9)
end
end G

/-! V6 -/
namespace G
open PySem PySem.Spec PyProof.Rows L2
def rDictP (K : PySem.W.Frag) : List V → Hp → VK → Prop := fun xs H Q => ∃ (a : Addr) (ps : List Addr) (kvs : List (L2.Key × V)), xs = [.ref a] ∧ SqL K H a (ps.map V.ref) ∧ Paired (fun p kv => SqT K H p [kV kv.1, kv.2]) ps kvs ∧ ∀ p, H p = none → Q (.ref p) (upd H p (.dK (mergeK [] kvs)))
theorem t_dictOf (K : PySem.W.Frag) {X : Cx} {a : Expr} {es : List Expr} {t : TA} {p pos : Pos} (hc : X.calm = true) (B : Blt X.mg) (ha : PA X (a :: es) t) (hK : X.K = K := by rfl) (g : Gl X "dict" := by rfl) (he : starEach (a :: es) X.env = (false, eval a X.env) :: starEach es X.env := by rfl) (hpl : (backTo pos (starEach es X.env)).any (·.1) = false := by rfl) :
    PE X (.Call (.Name "dict" p) (a :: es) [] pos) (tCB (rDictP K) t) := by subst hK; exact pe_callTy (call_dictP hc) g B.dict (by decide +kernel) ha (he := he) (hpl := hpl)
section
variable {P : Program} {w : World} {K : PySem.W.Frag} {mg : Str → Option Value} {base : Heap}
def sp_due : Sp := fun vs H Q _ => ∃ (d v s : Addr) (o : OwnD) (ts : List Addr) (fs : List (Int × Int)) (sd : SpotD), vs = [.ref d, .ref v, .ref s] ∧ OwnAt H d o ∧ H v = some (.tup (ts.map V.ref)) ∧ Paired (FrAt H) ts fs ∧ fs.length = o.places.length ∧ o.places.Nodup ∧ SpAt H s sd ∧ match sd with
  | .at x => x ∈ o.places ∧ ∀ (i : Nat) (t : Addr) (H' : Hp), o.places[i]? = some x → ts[i]? = some t → Same H H' → Q (.ref t) H'
  | .on x y q => x ∈ o.places ∧ y ∈ o.places ∧ ∀ (i j : Nat) (a b : Int × Int), o.places[i]? = some x → o.places[j]? = some y → fs[i]? = some a → fs[j]? = some b → lerpB a b q = true ∧ ∀ (r : Addr) (H' : Hp), Same H H' → FrAt H' r (lerp a b q) → Q (.ref r) H'
theorem c_due (B : Blt mg) (D : DefB K mg "_law_due" s_law_due ["own", "field", "seen"]) (CP : C8.Cal P w K mg base 3 "_law_frac_plus" (sp_fop K numP) []) (CM : C8.Cal P w K mg base 3 "_law_frac_less" (sp_fop K numM) []) (CX : C8.Cal P w K mg base 3 "_law_frac_times" (sp_fop K numX) []) : C8.Cal P w K mg base 4 "_law_due" sp_due [] := by
  have S : C8.scC ["own", "field", "seen", "late", "more"] ["own", "field", "seen"] (C8.fnScope s_law_due) = true := by decide +kernel
  have nd := (C8.fnScope_by S).nd
  refine calB D S (fun vs H Q E h => ?_) (fun f cdv A outer s H vs Q E hr h => ?_)
  · obtain ⟨_, _, _, _, _, _, _, rfl, _⟩ := h
    rfl
  have hu := hu_of hr
  obtain ⟨d, v, sp, o, ts, fs, sd, rfl, oa, hv, pr, hl, pnd, sa, q⟩ := h
  obtain ⟨pl, wy, dl, st, sl, sh, ps, bl, ws, ys, bs, h1, h2, _⟩ := oa.ex
  have tl : ts.length = fs.length := Paired.length pr
  have nt : o.places.length = ts.length := by omega
  refine ⟨_, pss_cons (ps_set (i := 3) nd rfl (.inl rfl) (t_dictOf K rfl B (pa_cons (pe_listZip K rfl (pa_cons (pe_dget hu (pv 0) pe_str (by exact fun _ _ => rfl)) (pa_cons (pv 1) pa_nil)) (by rfl) B.lst (by rfl) B.zip) pa_nil)))
    (pss_cons (ps_if (pt_cmpR op_eq (t_it K (pv 2) pe_int) pe_str (nomark _)) (pss_one (ps_ret (pe_dget hu (pv 3) (t_it K (pv 2) pe_int) (by exact fun _ _ => rfl)))) pss_nil)
    (pss_cons (ps_set (i := 4) nd rfl (.inl rfl) (C8.pe_c CX hr (by decide) rfl (pa_cons (t_it K (pv 2) pe_int) (pa_cons (C8.pe_c CM hr (by decide) rfl (pa_cons (pe_dget hu (pv 3) (t_it K (pv 2) pe_int) (by exact fun _ _ => rfl)) (pa_cons (pe_dget hu (pv 3) (t_it K (pv 2) pe_int) (by exact fun _ _ => rfl)) pa_nil))) pa_nil))))
    (pss_one (ps_ret (C8.pe_c CP hr (by decide) rfl (pa_cons (pe_dget hu (pv 3) (t_it K (pv 2) pe_int) (by exact fun _ _ => rfl)) (pa_cons (pv 4) pa_nil))))))), ?_⟩
  refine ⟨_, rfl, d, _, rfl, dget_of h1 valV_places, _, rfl, pl, v, o.places.map V.str, ts.map V.ref, rfl, .inr (.inl ⟨SqL.of h2, SqT.of hv⟩), fun H1 L us k1 k2 k3 k4 k5 => ?_⟩
  have kk : Paired (fun (t : Addr) (kv : L2.Key × V) => SqT K H1 t [kV kv.1, kv.2]) us (plK o.places ts) := by
    have go : ∀ {us : List Addr} {ns : List Str} {ts : List Addr}, ns.length = ts.length → Paired (fun (t : Addr) (q : V × V) => H1 t = some (.tup [q.1, q.2])) us ((ns.map V.str).zip (ts.map V.ref)) → Paired (fun (t : Addr) (kv : L2.Key × V) => SqT K H1 t [kV kv.1, kv.2]) us (plK ns ts) := by
      intro us ns
      induction ns generalizing us with
      | nil =>
        intro ts h r
        rw [List.map_nil, List.zip_nil_left] at r
        cases r
        exact .nil
      | cons x ns ih =>
        intro ts h r
        match ts, h, r with
        | t :: ts, h, r =>
          rw [List.map_cons, List.map_cons, List.zip_cons_cons] at r
          cases r with
          | cons e r => exact .cons (SqT.of e) (ih (by simpa using h) r)
    exact go nt k5
  refine ⟨L, us, plK o.places ts, rfl, SqL.of k4, kk, fun dc hdc => ?_⟩
  rw [plK_merge nt pnd]
  have s3 := same_new (o := .dK (plK o.places ts)) hdc
  have hd3 : (upd H1 dc (.dK (plK o.places ts))) dc = some (.dK (plK o.places ts)) := upd_same
  generalize upd H1 dc (.dK (plK o.places ts)) = H3 at s3 hd3
  have s03 : Same H H3 := fun x u e => s3 _ _ (k1 x u e)
  have pr3 : Paired (FrAt H3) ts fs := Paired.mapP pr fun a q z => s03 _ _ z
  have dg : ∀ {Hx : Hp} {i : Nat} {x : Str} {t : Addr}, Same H3 Hx → o.places[i]? = some x → ts[i]? = some t → DGet Hx dc (.str x) (some (.ref t)) := fun {Hx i x t} s hx ht => dget_of (s _ _ hd3) (plK_val nt pnd hx ht)
  cases sd with
  | «at» x =>
    have sa3 : H3 sp = some (.tup [.str "at", .str x]) := s03 _ _ sa
    refine ⟨_, rfl, sp, _, 0, _, rfl, rfl, SqT.of sa3, atI_0 (n := 0) rfl, rfl, _, rfl, iteT' (by rfl) ?_⟩
    obtain ⟨px, q⟩ := q
    obtain ⟨i, hx⟩ := List.mem_iff_getElem?.mp px
    have hi : i < ts.length := by have := (List.getElem?_eq_some_iff.mp hx).1; omega
    have ht : ts[i]? = some ts[i] := List.getElem?_eq_getElem hi
    exact ⟨_, rfl, _, rfl, sp, _, 1, _, rfl, rfl, SqT.of sa3, atI_0 (n := 1) rfl, dc, _, rfl, dg (Same.refl _) hx ht, q i _ _ hx ht s03⟩
  | on x y fr =>
    obtain ⟨t, e1, e2⟩ := sa
    have sa3 := s03 _ _ e1
    have ft3 : H3 t = some (.tup [.int fr.1, .int fr.2]) := s03 _ _ e2
    obtain ⟨px, py, q⟩ := q
    obtain ⟨i, hx⟩ := List.mem_iff_getElem?.mp px
    obtain ⟨j, hy⟩ := List.mem_iff_getElem?.mp py
    have hi : i < ts.length := by have := (List.getElem?_eq_some_iff.mp hx).1; omega
    have hj : j < ts.length := by have := (List.getElem?_eq_some_iff.mp hy).1; omega
    have hti : ts[i]? = some ts[i] := List.getElem?_eq_getElem hi
    have htj : ts[j]? = some ts[j] := List.getElem?_eq_getElem hj
    obtain ⟨a, ha, ta⟩ := paired_get pr3 hti
    obtain ⟨b, hb, tb2⟩ := paired_get pr3 htj
    obtain ⟨lb, q⟩ := q i j a b hx hy ha hb
    obtain ⟨b1, b2, b3, b4, b5⟩ := lerpB_ok lb
    obtain ⟨c1, c2, c3, c4, c5, c6, c7⟩ := fopB_ok b1
    obtain ⟨e1', e2', e3, e4, e5, e6, e7⟩ := fopB_ok b2
    obtain ⟨g1, g2, g3, g4, g5, g6, g7⟩ := fopB_ok b3
    refine ⟨_, rfl, sp, _, 0, _, rfl, rfl, SqT.of sa3, atI_0 (n := 0) rfl, rfl, _, rfl, iteF' (by rfl) ?_⟩
    refine ⟨_, rfl, sp, _, 3, _, rfl, rfl, SqT.of sa3, atI_0 (n := 3) rfl, _, rfl, _, rfl, sp, _, 2, _, rfl, rfl, SqT.of sa3, atI_0 (n := 2) rfl, dc, _, rfl, dg (Same.refl _) hy htj, _, rfl, _, rfl, sp, _, 1, _, rfl, rfl, SqT.of sa3, atI_0 (n := 1) rfl, dc, _, rfl, dg (Same.refl _) hx hti, ?_⟩
    refine ⟨ts[j], ts[i], b.1, b.2, a.1, a.2, rfl, SqT.of tb2, SqT.of ta, c1, c2, c3, c4, c5, c6, c7, fun p1 hp1 => ?_⟩
    have s4 := same_new (o := .tup [.int (fopM b a).1, .int (fopM b a).2]) hp1
    have m4 : (upd H3 p1 (.tup [.int (fopM b a).1, .int (fopM b a).2])) p1 = some (.tup [.int (fopM b a).1, .int (fopM b a).2]) := upd_same
    refine ⟨t, p1, fr.1, fr.2, (fopM b a).1, (fopM b a).2, rfl, SqT.of (s4 _ _ ft3), SqT.of m4, e1', e2', e3, e4, e5, e6, e7, fun p2 hp2 => ?_⟩
    have s5 := same_new (o := .tup [.int (fopX fr (fopM b a)).1, .int (fopX fr (fopM b a)).2]) hp2
    have m5 : (upd (upd H3 p1 (.tup [.int (fopM b a).1, .int (fopM b a).2])) p2 (.tup [.int (fopX fr (fopM b a)).1, .int (fopX fr (fopM b a)).2])) p2 = some (.tup [.int (fopX fr (fopM b a)).1, .int (fopX fr (fopM b a)).2]) := upd_same
    have sa5 := s5 _ _ (s4 _ _ sa3)
    refine ⟨_, rfl, _, rfl, sp, _, 1, _, rfl, rfl, SqT.of sa5, atI_0 (n := 1) rfl, dc, _, rfl, dg (s4.trans s5) hx hti, _, rfl, ?_⟩
    refine ⟨ts[i], p2, a.1, a.2, (fopX fr (fopM b a)).1, (fopX fr (fopM b a)).2, rfl, SqT.of (s5 _ _ (s4 _ _ ta)), SqT.of m5, g1, g2, g3, g4, g5, g6, g7, fun p3 hp3 => ?_⟩
    have s6 := same_new (o := .tup [.int (lerp a b fr).1, .int (lerp a b fr).2]) hp3
    exact q p3 _ (((s03.trans s4).trans s5).trans s6) upd_same
end
end G

/-! V7 -/
namespace G
open PySem PySem.Spec PyProof.Rows L2
theorem PotN.nins {H : Hp} {p t : Addr} {n : Nat} {C dx : Addr} {fs : List (Str × V)} (h : PotN H p n) (e : H t = Option.some (HO.ins C dx fs)) : t ≠ p := fun z => by
  obtain ⟨a, b, c, e2, _⟩ := h
  rw [z, e2] at e
  cases e
theorem CourtX.up {H H' : Hp} {CC c p : Addr} {n : Nat} {z : Str} {dd : DraftD} (h : CourtX H CC c z dd) (hp : PotN H p n) (u : Up p H H') : CourtX H' CC c z dd := by
  obtain ⟨dx, A, tp, tw, ty, te, tb, tx, sv, ws, ys, es, bs, h1, h2, h3, ⟨h4, h4b⟩, ⟨h5, h5b⟩, ⟨h6, h6b⟩, ⟨h7, h7b⟩, ⟨kvs, h8, h8b⟩, h9, h10, h11, h12, h13⟩ := h.ex
  have t : ∀ {b : Addr} {vs : List V}, H b = some (.tup vs) → H' b = some (.tup vs) := fun {b vs} e => u _ _ (hp.nref e) e
  exact ⟨dx, A, tp, tw, ty, te, tb, tx, sv, ws, ys, es, bs, u _ _ (hp.nins h1) h1, h2.stay fun _ _ e => t e, t h3, ⟨t h4, Paired.mapP h4b fun _ _ z => t z⟩, ⟨t h5, Paired.mapP h5b fun _ _ ⟨v, z1, z2⟩ => ⟨v, t z1, t z2⟩⟩, ⟨t h6, Paired.mapP h6b fun _ _ z => t z⟩, ⟨t h7, Paired.mapP h7b fun _ _ z => t z⟩,
    ⟨kvs, u _ _ (hp.ndk h8) h8, h8b.imp fun _ _ ⟨x, e, w⟩ => ⟨x, e, t w⟩⟩, u _ _ (hp.ndk h9) h9, u _ _ (hp.ndk h10) h10, u _ _ (hp.ndt h11) h11, u _ _ (hp.ndt h12) h12, u _ _ (hp.ndt h13) h13⟩
section
variable {P : Program} {w : World} {K : PySem.W.Frag} {mg : Str → Option Value} {base : Heap}
abbrev riN : List Str := ["pot", "own", "court", "field", "place", "lap", "seen", "other"]
def sp_right28 : Sp := fun vs H Q _ => ∃ p, vs = [.ref p] ∧ PotN H p 0 ∧ ∀ H', Q (.bl true) H'
theorem c_right28 {CC : Addr} (B : Blt mg) (D : DefB K mg "_law_right" s_law_right ["pot"]) (CT : C8.Cal P w K mg base 1 "_law_take" sp_law_take []) (CO : C8.Cal P w K mg base 2 "_law_of" (sp_law_of K) []) (CDr : C8.Cal P w K mg base 4 "_law_court_drawn" sp_drawn [])
    (CTx : C8.Cal P w K mg base 2 "_law_court_text" sp_court_text []) (MK : C8.Mak P w K mg base 7 "Court" CC (sp_court_init CC stepsAll) []) (CM : C8.Cal P w K mg base 3 "_law_mine_spot" sp_mine_spot []) (CDu : C8.Cal P w K mg base 4 "_law_due" sp_due []) (CSa : C8.Cal P w K mg base 3 "_law_frac_same" sp_frac_same [])
    (CLe : C8.Cal P w K mg base 3 "_law_frac_less" (sp_fop K numM) []) (CF : C8.Cal P w K mg base 6 "field_on" (sp_field_on CC) []) (CFK : CalK P w K mg base 6 "field_on" (sp_field_on CC) ["court", "field", "spot"]) : C8.Cal P w K mg base 9 "_law_right" sp_right28 [] := by
  have S : C8.scC riN ["pot"] (C8.fnScope s_law_right) = true := by decide +kernel
  have nd := (C8.fnScope_by S).nd
  refine calB D S (fun vs H Q E h => ?_) (fun f cdv A outer s H vs Q E hr h => ?_)
  · obtain ⟨_, rfl, _⟩ := h
    rfl
  have hu := hu_of hr
  obtain ⟨p, rfl, hp, q⟩ := h
  refine ⟨_, pss_cons (ps_set (i := 1) nd rfl (.inl rfl) (C8.pe_c CDr hr (by decide) rfl (pa_cons (pv 0) (pa_cons (pe_op op_add pe_int (C8.pe_c CT hr (by decide) rfl (pa_cons (pv 0) (pa_cons pe_int pa_nil)))) (pa_cons pe_int (pa_cons pe_int pa_nil))))))
    (pss_cons (ps_set (i := 2) nd rfl (.inl rfl) (C8.pe_mk MK hr (by decide) (by rfl) (pa_cons (C8.pe_c CTx hr (by decide) rfl (pa_cons (pv 1) pa_nil)) pa_nil)))
    (pss_cons (ps_set (i := 3) nd rfl (.inl rfl) (pe_tupleOf (by rfl) B.tup (pe_lc (own := [("place", 4)]) (g := gName 4) (tt := tYes) rfl nd (pi_list (pe_dget hu (pv 1) pe_str (by exact fun _ _ => rfl))) (blkOk_by (N := riN) (sc := C8.fnScope s_law_right) (by decide +kernel)) (fun _ _ _ _ _ => by exact pg_name (i := 4) nd rfl (.inl rfl)) (fun _ _ _ _ _ => pts_nil)
      (fun _ _ _ _ _ => by exact C8.pe_c CO hr (by decide) rfl (pa_cons (pv 0) (pa_cons (pe_lst (pa_as (t' := tPs fieldsL) (pa_cons (pe_tup (pa_cons pe_int (pa_cons pe_int pa_nil))) (pa_cons (pe_tup (pa_cons pe_int (pa_cons pe_int pa_nil))) (pa_cons (pe_tup (pa_cons pe_int (pa_cons pe_int pa_nil))) (pa_cons (pe_tup (pa_cons pe_int (pa_cons pe_int pa_nil))) (pa_cons (pe_tup (pa_cons pe_int (pa_cons pe_int pa_nil))) (pa_cons (pe_tup (pa_cons pe_int (pa_cons pe_int pa_nil))) pa_nil)))))) (by rfl))) pa_nil))))))
    (pss_cons (ps_for PassesOwn.never rfl (pi_range1 (by rfl) B.rng (pa_cons pe_int pa_nil)) (pg_name (i := 5) nd rfl (.inl rfl))
      (pss_cons (ps_set (i := 6) nd rfl (.inl rfl) (C8.pe_c CM hr (by decide) rfl (pa_cons (pv 0) (pa_cons (pv 1) pa_nil))))
      (pss_cons (ps_if (pt_not (pt_val (C8.pe_c CSa hr (by decide) rfl (pa_cons (pe_cK CFK hr (by decide) rfl (pk_cons (pv 2) (pk_cons (pv 3) (pk_cons (pv 6) pk_nil)))) (pa_cons (C8.pe_c CDu hr (by decide) rfl (pa_cons (pv 1) (pa_cons (pv 3) (pa_cons (pv 6) pa_nil)))) pa_nil))))) (pss_one (ps_ret pe_bl)) pss_nil)
      (pss_one (ps_if (pt_cmpR op_eq (t_it K (pv 6) pe_int) pe_str (nomark _))
        (pss_cons (ps_set (i := 7) nd rfl (.inl rfl) (pe_tup (pa_cons pe_str (pa_cons (t_it K (pv 6) pe_int) (pa_cons (t_it K (pv 6) pe_int) (pa_cons (C8.pe_c CLe hr (by decide) rfl (pa_cons (pe_tup (pa_cons pe_int (pa_cons pe_int pa_nil))) (pa_cons (t_it K (pv 6) pe_int) pa_nil))) pa_nil))))))
        (pss_one (ps_if (pt_not (pt_val (C8.pe_c CSa hr (by decide) rfl (pa_cons (C8.pe_c CF hr (by decide) rfl (pa_cons (pv 2) (pa_cons (pv 3) (pa_cons (pv 7) pa_nil)))) (pa_cons (C8.pe_c CDu hr (by decide) rfl (pa_cons (pv 1) (pa_cons (pv 3) (pa_cons (pv 6) pa_nil)))) pa_nil))))) (pss_one (ps_ret pe_bl)) pss_nil))) pss_nil)))))
    (pss_one (ps_ret pe_bl))))), ?_⟩
  refine ⟨_, rfl, _, rfl, p, 5, 0, rfl, hp, by omega, by omega, by omega, fun H1 d1 e0 e1 hp1 u1 => ⟨_, _, rfl, rfl, ?_⟩⟩
  obtain ⟨k, rfl⟩ : ∃ k : Nat, d1 = k := ⟨d1.toNat, by omega⟩
  refine ⟨p, 1, 2 + k, 2, 1, by show [V.ref p, V.int (2 + (k : Int)), V.int 2, V.int 1] = _; rw [show (2 : Int) + (k : Int) = ((2 + k : Nat) : Int) by omega]; rfl, hp1, by omega, by omega, by omega, by omega, by omega, by omega, by omega, by omega, fun H2 d o oa ok ol om ob hp2 u2 => ?_⟩
  obtain ⟨dd, rd, sz, T⟩ := own_reads ok
  -- the court
  refine ⟨_, rfl, d, o, rfl, oa, ok, fun H3 s3 c dx hc0 hdx0 hne => ?_⟩
  have sx := same_new (o := .own c) hdx0
  have hcx : (upd H3 dx (.own c)) c = none := by rw [upd_ne hne.symm]; exact hc0
  refine ⟨upd H3 dx (.own c), c, dx, ownText o, dd, rfl, same_new hcx, hcx, upd_same, rd, sz, fun H4 s4 cx4 => ⟨rfl, ?_⟩⟩
  have s24 : Same H2 H4 := (s3.trans sx).trans s4
  have hp4 := hp2.stay s24
  have oa4 := oa.stay s24
  clear s3 sx hcx s4
  -- the field
  obtain ⟨pl, wy, dl, st, sl, sh, ps, bl, ws, ys, bs, h1, h2, _⟩ := oa4.ex
  have p2 := ok.p2
  have p12 := ok.p12
  have plp := hp4.nstrs h2 (by omega)
  have dp := hp4.ndk h1
  refine ⟨_, rfl, d, _, rfl, dget_of h1 valV_places, pl, rfl, ⟨_, SqL.of h2⟩, fun D1 hD1 => ?_⟩
  have D1p : D1 ≠ p := (ne_new hp4.some hD1).symm
  refine lc_it (walk_list (K := K) (a := pl) (xs := o.places.map V.str)) (fun i Hx => ∃ (ts : List Addr) (fs : List (Int × Int)), PotN Hx p (1 + 120 + i) ∧ UpM [p] H4 Hx ∧ Hx D1 = some (.lst (ts.map V.ref)) ∧ Paired (FrAt Hx) ts fs ∧ fs.length = i ∧ ∀ q ∈ fs, q ∈ fieldsL)
    ⟨[], [], hp4.upd D1p, UpM.same (UpM.refl _ _) (same_new hD1), upd_same, .nil, rfl, fun q h => (nomatch h)⟩ (fun i Hx _ ⟨_, _, _, u, _⟩ => SqL.of (u _ _ (by simpa using plp) h2)) ?_ ?_
  · rintro i x Hx Hx2 hi ⟨ts, fs, hpx, ux, hDx, prx, fl, fk⟩ ⟨rfl, hx⟩
    have hi : i < o.places.length := by simpa using hi
    refine ⟨rfl, yes_if ⟨_, rfl, ?_⟩⟩
    refine lst_ps (by decide) fun H6 l us s6 hl0 hl r6 => ?_
    have ul : us.length = 6 := Paired.length r6
    have hp6 := hpx.stay s6
    have lp := (ne_new hpx.some hl0).symm
    have hD6 := s6 _ _ hDx
    refine ⟨p, l, 1 + 120 + i, us.map V.ref, rfl, hp6, by omega, hl, lp, by rw [List.length_map, ul]; decide, by rw [List.length_map, ul]; decide, fun H7 j x7 hx7 hp7 u7 => ?_⟩
    rw [List.getElem?_map] at hx7
    obtain ⟨t, ht, rfl⟩ := Option.map_eq_some_iff.mp hx7
    obtain ⟨fr, hfr, et⟩ := paired_get r6 ht
    have et7 : H7 t = some (.tup [.int fr.1, .int fr.2]) := u7 _ _ (hp6.nref et) et
    have hD7 := u7 _ _ D1p hD6
    have tD : t ≠ D1 := fun z => by rw [z, hD7] at et7; cases et7
    have tl : ts.length = i := by have := Paired.length prx; omega
    refine ⟨ts.map V.ref, hD7, by rw [List.length_map, sizeLine_eq]; omega, ts ++ [t], fs ++ [fr], (hp7.upd D1p).mono (by omega), ?_, by rw [upd_same, List.map_append]; rfl, ?_, by rw [List.length_append, fl]; rfl, fun q hq => ?_⟩
    · intro x u n1 e
      have n2 : x ≠ D1 := ne_of_none e hD1
      rw [upd_ne n2]
      exact u7 _ _ (by simpa using n1) (s6 _ _ (ux _ _ n1 e))
    · refine paired_app (Paired.mapP prx fun a q z => ?_) (.cons ?_ .nil)
      · have z2 : Hx2 a = some (.tup [.int q.1, .int q.2]) := z
        have aD : a ≠ D1 := fun y => by rw [y, hDx] at z2; cases z2
        show upd _ D1 _ a = _
        rw [upd_ne aD]
        exact u7 _ _ (hp6.nref (s6 _ _ z2)) (s6 _ _ z2)
      · show upd _ D1 _ t = _
        rw [upd_ne tD]
        exact et7
    · rcases List.mem_append.mp hq with hq | hq
      · exact fk q hq
      · rw [List.mem_singleton.mp hq]
        exact List.mem_of_getElem? hfr
  rintro H5 ⟨ts, fs, hp5, u5, hD5, pr5, fl, fk⟩
  rw [List.length_map] at fl hp5
  have upp : Up p H4 H5 := fun x u n e => u5 _ _ (by simpa using n) e
  have oa5 := oa4.up ok hp4 upp
  have cx5 := cx4.up hp4 upp
  refine .inl ⟨D1, _, rfl, SqL.of hD5, fun v hv0 => ?_⟩
  have s6 := same_new (o := .tup (ts.map V.ref)) hv0
  have hv : (upd H5 v (.tup (ts.map V.ref))) v = some (.tup (ts.map V.ref)) := upd_same
  have hp6 : PotN (upd H5 v (.tup (ts.map V.ref))) p 140 := (hp5.stay s6).mono (by omega)
  have oa6 := oa5.stay s6
  have cx6 := cx5.stay s6
  have pr6 : Paired (FrAt (upd H5 v (.tup (ts.map V.ref)))) ts fs := Paired.mapP pr5 fun a q z => s6 _ _ z
  generalize upd H5 v (.tup (ts.map V.ref)) = H6 at s6 hv hp6 oa6 cx6 pr6
  have tl : ts.length = fs.length := Paired.length pr6
  refine ⟨8, rfl, by decide, by decide, ?_⟩
  refine for_range (lo := 0) (n := 8) (fun i σ Hx => ∃ v5 v6 v7 : Option V, σ = [some (.ref p), some (.ref d), some (.ref c), some (.ref v), none, v5, v6, v7] ∧ PotN Hx p (140 + 4 * i) ∧ OwnAt Hx d o ∧ CourtX Hx CC c (ownText o) dd ∧ Hx v = some (.tup (ts.map V.ref)) ∧ Paired (FrAt Hx) ts fs)
    ⟨none, none, none, rfl, hp6, oa6, cx6, hv, pr6⟩ ?_ ?_
  · rintro i σ Hx hi ⟨v5, v6, v7, rfl, hpx, oax, cxx, hvx, prx⟩
    have fld : ∀ q ∈ fs, FldOk q := fun q hq => ⟨(fields_ok q (fk q hq)).1, (fields_ok q (fk q hq)).2.1⟩
    have fdd : fs.length = dd.places.length := by rw [T.pl]; exact fl
    have f1000 : fs.length ≤ 1000 := by omega
    have dnd : dd.places.Nodup := by rw [T.pl]; exact ok.pn
    refine ⟨_, rfl, _, rfl, p, d, 140 + 4 * i, o, rfl, hpx, by omega, oax, ok, fun H1 sp sd sa mo hp1 u1 => ?_⟩
    have oa1 := oax.up ok hpx u1
    have cx1 := cxx.up hpx u1
    have hv1 := u1 _ _ (hpx.nref hvx) hvx
    have pr1 : Paired (FrAt H1) ts fs := Paired.mapP prx fun a q z => u1 _ _ (hpx.nref z) z
    have inv : ∀ {Hz : Hp} {w7 : Option V}, Same H1 Hz → ∃ v5 v6 v7 : Option V, [some (V.ref p), some (.ref d), some (.ref c), some (.ref v), none, some (.int (0 + (i : Int))), some (.ref sp), w7] = [some (.ref p), some (.ref d), some (.ref c), some (.ref v), none, v5, v6, v7] ∧ PotN Hz p (140 + 4 * (i + 1)) ∧ OwnAt Hz d o ∧ CourtX Hz CC c (ownText o) dd ∧ Hz v = some (.tup (ts.map V.ref)) ∧ Paired (FrAt Hz) ts fs := fun {Hz w7} s =>
      ⟨_, _, _, rfl, (hp1.stay s).mono (by omega), oa1.stay s, cx1.stay s, s _ _ hv1, Paired.mapP pr1 fun a q z => s _ _ z⟩
    cases sd with
    | «at» x =>
      have sa : H1 sp = some (.tup [.str "at", .str x]) := sa
      have mo : x ∈ o.places := mo
      refine ⟨_, rfl, _, rfl, _, rfl, rfl, c, v, sp, _, dd, ts, fs, .at x, rfl, cx1, hv1, pr1, fld, fdd, f1000, dnd, sa, (show x ∈ dd.places by rw [T.pl]; exact mo), fun i1 t1 H2 hx1 ht1 s2 => ?_⟩
      refine ⟨_, rfl, _, rfl, _, rfl, d, v, sp, o, ts, fs, .at x, rfl, oa1.stay s2, s2 _ _ hv1, Paired.mapP pr1 fun a q z => s2 _ _ z, fl, ok.pn, s2 _ _ sa, mo, fun i2 t2 H3 hx2 ht2 s3 => ?_⟩
      rw [T.pl] at hx1
      have := nodup_ix ok.pn hx1 hx2
      subst this
      rw [ht1] at ht2
      cases ht2
      obtain ⟨a, ha, ta⟩ := paired_get pr1 ht1
      obtain ⟨g1, g2, g3, g4⟩ := fields_ok a (fk a (List.mem_of_getElem? ha))
      have s13 : Same H1 H3 := fun x u e => s3 _ _ (s2 _ _ e)
      refine ⟨t1, t1, a.1, a.2, rfl, s13 _ _ ta, s13 _ _ ta, g3, g4, fun H4 s4 => ⟨true, rfl, iteF' rfl ?_⟩⟩
      have s14 : Same H1 H4 := fun x u e => s4 _ _ (s13 _ _ e)
      have sa4 := s14 _ _ sa
      refine ⟨_, rfl, sp, _, 0, _, rfl, rfl, SqT.of sa4, atI_0 (n := 0) rfl, rfl, _, rfl, iteF' (by rfl) ?_⟩
      exact inv s14
    | on x y fr =>
      obtain ⟨t, sa, ft⟩ : ∃ t, H1 sp = some (.tup [.str "on", .str x, .str y, .ref t]) ∧ FrAt H1 t fr := sa
      obtain ⟨hfr, key⟩ := mo
      have key2 : (y, x) ∈ (lensOf o.ways).map (·.1) := by
        obtain ⟨w, hw, e⟩ := mem_keys.mp key
        rcases e with e | e
        · obtain ⟨rfl, rfl⟩ := Prod.mk.inj e
          exact mem_keys.mpr ⟨w, hw, .inr rfl⟩
        · obtain ⟨rfl, rfl⟩ := Prod.mk.inj e
          exact mem_keys.mpr ⟨w, hw, .inl rfl⟩
      have pxy : x ∈ o.places ∧ y ∈ o.places := by
        obtain ⟨w, hw, e⟩ := mem_keys.mp key
        have k := ok.wk w hw
        rcases e with e | e
        · obtain ⟨rfl, rfl⟩ := Prod.mk.inj e
          exact ⟨k.1, k.2.1⟩
        · obtain ⟨rfl, rfl⟩ := Prod.mk.inj e
          exact ⟨k.2.1, k.1⟩
      obtain ⟨q1, q2, q3, q4, q5, q6, q7⟩ := parts_ok fr hfr
      have so : SpOk dd (.on x y fr) := ⟨by rw [T.pl]; exact pxy.1, by rw [T.pl]; exact pxy.2, by rw [T.ln]; exact lookup_some_of key, q1, q2, q3⟩
      have so2 : SpOk dd (.on y x (fopM (1, 1) fr)) := ⟨by rw [T.pl]; exact pxy.2, by rw [T.pl]; exact pxy.1, by rw [T.ln]; exact lookup_some_of key2, q5, q6, q7⟩
      refine ⟨_, rfl, _, rfl, _, rfl, rfl, c, v, sp, _, dd, ts, fs, .on x y fr, rfl, cx1, hv1, pr1, fld, fdd, f1000, dnd, ⟨t, sa, ft⟩, so, fun i1 j1 a b hx1 hy1 ha1 hb1 => ⟨(lerp_ok a (fk a (List.mem_of_getElem? ha1)) b (fk b (List.mem_of_getElem? hb1)) fr hfr).1, fun r H2 s2 hr2 => ?_⟩⟩
      rw [T.pl] at hx1 hy1
      have L := lerp_ok a (fk a (List.mem_of_getElem? ha1)) b (fk b (List.mem_of_getElem? hb1)) fr hfr
      obtain ⟨_, _, _, g3, g4⟩ := lerpB_ok L.1
      refine ⟨_, rfl, _, rfl, _, rfl, d, v, sp, o, ts, fs, .on x y fr, rfl, oa1.stay s2, s2 _ _ hv1, Paired.mapP pr1 fun a q z => s2 _ _ z, fl, ok.pn, ⟨t, s2 _ _ sa, s2 _ _ ft⟩, pxy.1, pxy.2, fun i2 j2 a2 b2 hx2 hy2 ha2 hb2 => ?_⟩
      have := nodup_ix ok.pn hx1 hx2
      subst this
      have := nodup_ix ok.pn hy1 hy2
      subst this
      rw [ha1] at ha2
      cases ha2
      rw [hb1] at hb2
      cases hb2
      refine ⟨L.1, fun r3 H3 s3 hr3 => ?_⟩
      have s13 : Same H1 H3 := fun x u e => s3 _ _ (s2 _ _ e)
      refine ⟨r, r3, (lerp a b fr).1, (lerp a b fr).2, rfl, s3 _ _ hr2, hr3, g3, g4, fun H4 s4 => ⟨true, rfl, iteF' rfl ?_⟩⟩
      have s14 : Same H1 H4 := fun x u e => s4 _ _ (s13 _ _ e)
      have sa4 := s14 _ _ sa
      refine ⟨_, rfl, sp, _, 0, _, rfl, rfl, SqT.of sa4, atI_0 (n := 0) rfl, rfl, _, rfl, iteT' (by rfl) ?_⟩
      have ft4 := s14 _ _ ft
      obtain ⟨m1, m2, m3, m4, m5, m6, m7⟩ := fopB_ok q4
      refine ⟨_, rfl, sp, _, 2, _, rfl, rfl, SqT.of sa4, atI_0 (n := 2) rfl, _, rfl, sp, _, 1, _, rfl, rfl, SqT.of sa4, atI_0 (n := 1) rfl, by show 2 ≤ sizeLine; decide, fun o1 ho1 => ?_⟩
      have s5 := same_new (o := .tup [V.int 1, V.int 1]) ho1
      have o15 : (upd H4 o1 (.tup [V.int 1, V.int 1])) o1 = some (.tup [V.int 1, V.int 1]) := upd_same
      refine ⟨_, rfl, sp, _, 3, _, rfl, rfl, SqT.of (s5 _ _ sa4), atI_0 (n := 3) rfl, o1, t, 1, 1, fr.1, fr.2, rfl, SqT.of o15, SqT.of (s5 _ _ ft4), m1, m2, m3, m4, m5, m6, m7, fun p2 hp2 => ?_⟩
      have s6 := same_new (o := .tup [.int (fopM (1, 1) fr).1, .int (fopM (1, 1) fr).2]) hp2
      have p26 : (upd (upd H4 o1 (.tup [V.int 1, V.int 1])) p2 (.tup [.int (fopM (1, 1) fr).1, .int (fopM (1, 1) fr).2])) p2 = some (.tup [.int (fopM (1, 1) fr).1, .int (fopM (1, 1) fr).2]) := upd_same
      refine ⟨by show 4 ≤ sizeLine; decide, fun os hos => ?_⟩
      have s7 := same_new (o := .tup [V.str "on", V.str y, V.str x, V.ref p2]) hos
      have os7 : (upd (upd (upd H4 o1 (.tup [V.int 1, V.int 1])) p2 (.tup [.int (fopM (1, 1) fr).1, .int (fopM (1, 1) fr).2])) os (.tup [V.str "on", V.str y, V.str x, V.ref p2])) os = some (.tup [V.str "on", V.str y, V.str x, V.ref p2]) := upd_same
      have p27 := s7 _ _ p26
      have s47 : Same H4 (upd (upd (upd H4 o1 (.tup [V.int 1, V.int 1])) p2 (.tup [.int (fopM (1, 1) fr).1, .int (fopM (1, 1) fr).2])) os (.tup [V.str "on", V.str y, V.str x, V.ref p2])) := (s5.trans s6).trans s7
      have s17 := s14.trans s47
      refine ⟨_, rfl, _, rfl, _, rfl, c, v, os, _, dd, ts, fs, .on y x (fopM (1, 1) fr), rfl, cx1.stay s17, s17 _ _ hv1, Paired.mapP pr1 fun a q z => s17 _ _ z, fld, fdd, f1000, dnd, ⟨p2, os7, p27⟩, so2, fun i3 j3 a3 b3 hx3 hy3 ha3 hb3 => ⟨(lerp_ok b3 (fk b3 (List.mem_of_getElem? hb3)) a3 (fk a3 (List.mem_of_getElem? ha3)) fr hfr).2.1, fun r5 H8 s8 hr5 => ?_⟩⟩
      rw [T.pl] at hx3 hy3
      have := nodup_ix ok.pn hx1 hy3
      subst this
      have := nodup_ix ok.pn hy1 hx3
      subst this
      rw [ha1] at hb3
      cases hb3
      rw [hb1] at ha3
      cases ha3
      have s18 : Same H1 H8 := fun x u e => s8 _ _ (s17 _ _ e)
      refine ⟨_, rfl, _, rfl, _, rfl, d, v, sp, o, ts, fs, .on x y fr, rfl, oa1.stay s18, s18 _ _ hv1, Paired.mapP pr1 fun a q z => s18 _ _ z, fl, ok.pn, ⟨t, s18 _ _ sa, s18 _ _ ft⟩, pxy.1, pxy.2, fun i6 j6 a6 b6 hx6 hy6 ha6 hb6 => ?_⟩
      have := nodup_ix ok.pn hx1 hx6
      subst this
      have := nodup_ix ok.pn hy1 hy6
      subst this
      rw [ha1] at ha6
      cases ha6
      rw [hb1] at hb6
      cases hb6
      refine ⟨L.1, fun r7 H9 s9 hr7 => ?_⟩
      have s19 : Same H1 H9 := fun x u e => s9 _ _ (s18 _ _ e)
      have hr5' : H8 r5 = some (.tup [.int (lerp a b fr).1, .int (lerp a b fr).2]) := by rw [← L.2.2]; exact hr5
      exact ⟨r5, r7, (lerp a b fr).1, (lerp a b fr).2, rfl, s9 _ _ hr5', hr7, g3, g4, fun H10 s10 => ⟨true, rfl, iteF' rfl (inv fun x u e => s10 _ _ (s19 _ _ e))⟩⟩
  · rintro σ Hx ⟨v5, v6, v7, rfl, _⟩
    exact q Hx
end
end G

/-! V8 -/
namespace G
open PySem PySem.Spec PyProof.Rows L2
section
variable {P : Program} {w : World} {K : PySem.W.Frag} {mg : Str → Option Value} {base : Heap}
def sp_law28 (K : PySem.W.Frag) : Sp := fun vs H Q _ => ∃ (s : Addr) (ns : List Int), vs = [.ref s] ∧ SqL K H s (ns.map V.int) ∧ ns.length < 1000 ∧ ∀ H', Q (.bl true) H'
theorem law_ok28 {f : Addr} {fd : FuncData} (F : C8.Def K mg "law" s_law f fd) (b : Binds K fd ["script"] []) (C1 : C8.Cal P w K mg base 9 "_law_right" sp_right28 []) (C2 : C8.Cal P w K mg base 1 "_law_pot" (sp_pot K) []) : FnOk P w K mg base C8.CX0 10 f fd ["script"] (sp_law28 K) := by
  have S : C8.scC ["script"] ["script"] (C8.fnScope s_law) = true := by decide +kernel
  refine C8.fn0 F.fn (C8.fnScope_by S) (fun vs H Q E h => ?_) (fun cdv A outer s H vs Q E hr h => ?_)
  · obtain ⟨_, _, rfl, _⟩ := h
    rfl
  obtain ⟨sa, ns, rfl, hs, hn, q⟩ := h
  refine ⟨_, pss_one (ps_ret (C8.pe_c C1 hr (by decide) rfl (pa_cons (C8.pe_c C2 hr (by decide) rfl (pa_cons (pv 0) (pa_cons pe_int pa_nil))) pa_nil))), ?_⟩
  refine ⟨_, rfl, sa, ns, 0, rfl, hs, by decide, hn, fun H1 p s1 hp0 ⟨x, y, e, a0, a1, b0, b1⟩ => ?_⟩
  exact ⟨p, rfl, ⟨x, y, 0, e, a0, a1, b0, b1, Int.le_refl _, Int.le_refl _⟩, fun H' => q H'⟩
end
end G

/-! E3f -/
namespace G
open PySem PySem.Spec PyProof.Rows L2
section
variable {P : Program} {w : World} {K : PySem.W.Frag} {mg : Str → Option Value} {base : Heap} {h : Heap}
theorem kdct_of (c : SaysX fa fn ts ex w K) {z x : Str} (hq : (z, He.Dv.glo x) ∈ tkV) : KDct K w (He.ga K "TAKERS") z (.ref (He.ga K x)) := by
  obtain ⟨es, n, D⟩ := c.t.tab 0 (t := (fun K => He.ga K "TAKERS", kindsL)) rfl
  obtain ⟨u, e, r⟩ := He.valsB_ok (tk_vals c) hq
  exact ⟨es, n, u, D.at_, D.lit, e, r⟩
theorem facts {f0 : Addr} (X : K.In h) (G : h.Ns mainGlobals mg) (c : SaysX fa fn ts ex w K) (hfa : mg "law" = some (.ref f0)) : ∃ fd : FuncData, (∀ (s : Shared) (v : Value), BindsTo s fd ⟨[v], []⟩ [("script", v)]) ∧ ∀ base : Heap, K.In base → base.Ns mainGlobals mg → FnOk P w K mg base C8.CX0 10 f0 fd ["script"] (sp_law28 K) := by
  obtain ⟨fd, FL⟩ := f_law c
  have e := hfa.symm.trans (m_law X G c)
  cases e
  have b := FL.bindsA (ps := ["script"]) fun _ _ _ _ _ _ us hl => match us, hl with | [_], _ => rfl
  refine ⟨fd, fun s v => b s [v] rfl, fun base _ _ => ?_⟩
  have bn : Binds K fd ["script"] [] := FL.bindsN fun _ _ _ _ _ _ us hl => match us, hl with | [_], _ => rfl
  have LF : C8.Def K mg "law" s_law (He.ga K "law") fd := by
    obtain ⟨oc, od, dV, kV, doc, pm, an, cdv, ct, osl, e, lk, hcd, _, _⟩ := FL.ex
    exact ⟨⟨oc, od, dV, kV, doc, pm, an, cdv, ct, osl, e, lk, hcd⟩, hfa, FL.kp⟩
  have B := blt X G c
  have FD := f_Draft c
  have FC := f_Court c
  have q1 := c_fraction (P := P) (w := w) (base := base) B (d_fraction X G c)
  have q2 := c_is_at_most (P := P) (w := w) (base := base) B (d_is_at_most X G c)
  have q3 := c_is_integer (P := P) (w := w) (base := base) B (d_is_integer X G c)
  have q4 := c_is_integer_from (P := P) (w := w) (base := base) B (d_is_integer_from X G c) q3
  have q6 := c_is_pair (P := P) (w := w) (base := base) B (d_is_pair X G c)
  have q7 := c_is_fraction (P := P) (w := w) (base := base) B (d_is_fraction X G c) q6 q3
  have q8 := c_is_stretch (P := P) (w := w) (base := base) B (d_is_stretch X G c) q7 q2
  have q9 := c_is_name (P := P) (w := w) (base := base) B (letters X G c) (d_is_name X G c)
  have q10 := c_read_integer (P := P) (w := w) (base := base) B (d_read_integer X G c)
  have q11 := c_read_fraction (P := P) (w := w) (base := base) B (d_read_fraction X G c) q10 q7
  have t1 := k_draft (P := P) (w := w) (base := base) B FD (g_KINDS X G c) (d_Draft X G c)
  have t2 := c_is_turn (P := P) (w := w) (base := base) B FD (g_MOST X G c) (g_LEAST X G c) (d_is_turn X G c)
  have t3 := c_take_court (P := P) (w := w) (base := base) (CD := He.ga K "Draft") B (d_take_court X G c)
  have t4 := c_take_stretch (P := P) (w := w) (base := base) B FD (d_take_stretch X G c) q11 q8
  have t5 := c_take_place (P := P) (w := w) (base := base) B FD (d_take_place X G c) q9
  have t6 := c_take_way (P := P) (w := w) (base := base) B FD (d_take_way X G c) q10 q4
  have t7 := c_take_player (P := P) (w := w) (base := base) B FD (d_take_player X G c) q9
  have t7d := c_take_delay (P := P) (w := w) (base := base) B FD (d_take_delay X G c) q10 q4
  have t8 := c_take_ball (P := P) (w := w) (base := base) B FD (d_take_ball X G c) q9
  have TK : Takers P w K mg base (He.ga K "Draft") stepsAll := by
    refine ⟨He.ga K "TAKERS", m_TAKERS X G c, fun k z step hz hs => ?_⟩
    match k, hz, hs with
    | 0, hz, hs => cases hz; cases hs; exact ⟨_, kdct_of c (x := "take_court") (by unfold tkV; simp), held_of t3 (by decide) (m_take_court X G c)⟩
    | 1, hz, hs => cases hz; cases hs; exact ⟨_, kdct_of c (x := "take_stretch") (by unfold tkV; simp), held_of t4 (by decide) (m_take_stretch X G c)⟩
    | 2, hz, hs => cases hz; cases hs; exact ⟨_, kdct_of c (x := "take_place") (by unfold tkV; simp), held_of t5 (by decide) (m_take_place X G c)⟩
    | 3, hz, hs => cases hz; cases hs; exact ⟨_, kdct_of c (x := "take_way") (by unfold tkV; simp), held_of t6 (by decide) (m_take_way X G c)⟩
    | 4, hz, hs => cases hz; cases hs; exact ⟨_, kdct_of c (x := "take_player") (by unfold tkV; simp), held_of t7 (by decide) (m_take_player X G c)⟩
    | 5, hz, hs => cases hz; cases hs; exact ⟨_, kdct_of c (x := "take_delay") (by unfold tkV; simp), held_of t7d (by decide) (m_take_delay X G c)⟩
    | 6, hz, hs => cases hz; cases hs; exact ⟨_, kdct_of c (x := "take_ball") (by unfold tkV; simp), held_of t8 (by decide) (m_take_ball X G c)⟩
    | k + 7, hz, hs => cases hs
  have t9 := c_take_line (P := P) (w := w) (base := base) B FD (g_KINDS X G c) TK (d_take_line X G c) t2
  have t10 := c_hangs (P := P) (w := w) (base := base) B FD (d_hangs_together X G c)
  have t11 := c_read_court (P := P) (w := w) (base := base) B FD (d_read_court X G c) t1 t9 t10
  have t12 := c_all_dist (P := P) (w := w) (base := base) B (d_all_distances X G c)
  have t13 := c_all_delays (P := P) (w := w) (base := base) B (d_all_delays X G c)
  have t14 := k_court (P := P) (w := w) (base := base) B FC FD (d_Court X G c) t11 t13 t12
  have x1 := c_plus (P := P) (w := w) (base := base) (d_plus X G c) q1
  have x2 := c_minus (P := P) (w := w) (base := base) (d_minus X G c) q1
  have x3 := c_times (P := P) (w := w) (base := base) (d_times X G c) q1
  have x4 := c_is_time (P := P) (w := w) (base := base) B (d_is_time X G c) q7
  have x5 := c_is_row (P := P) (w := w) (base := base) B (d_is_row X G c) x4
  have x6 := c_check_field (P := P) (w := w) (base := base) B FC (d_check_field X G c) x5
  have x7 := c_is_known (P := P) (w := w) (base := base) B (d_is_known X G c)
  have x8 := c_is_spot (P := P) (w := w) (base := base) B FC (d_is_spot X G c) x7 q7
  have x9 := c_field_on (P := P) (w := w) (base := base) B FC (d_field_on X G c) x6 x8 x1 x2 x3
  have l1 := c_pot (P := P) (w := w) (base := base) B (d_law_pot X G c)
  have l2 := c_law_take (P := P) (w := w) (base := base) B (d_law_take X G c)
  have l3 := c_law_of (P := P) (w := w) (base := base) B (d_law_of X G c) l2
  have l4 := c_law_some (P := P) (w := w) (base := base) B (d_law_some X G c) l2
  have f1 := c_common (P := P) (w := w) (base := base) B (d_law_frac_common X G c)
  have f2 := c_frac (P := P) (w := w) (base := base) B (d_law_frac X G c) f1
  have f3 := c_frac_plus (P := P) (w := w) (base := base) (d_law_frac_plus X G c) f2
  have f4 := c_frac_less (P := P) (w := w) (base := base) (d_law_frac_less X G c) f2
  have f5 := c_frac_times (P := P) (w := w) (base := base) (d_law_frac_times X G c) f2
  have f6 := c_frac_is (P := P) (w := w) (base := base) B (d_law_frac_is X G c) f1
  have f7 := c_frac_same (P := P) (w := w) (base := base) B (d_law_frac_same X G c) f6
  have f8 := c_frac_text (P := P) (w := w) (base := base) B (d_law_frac_text X G c)
  have o1 := c_court_text (P := P) (w := w) (base := base) B (d_law_court_text X G c) f8
  have o2 := c_stretch_drawn (P := P) (w := w) (base := base) B (d_law_court_stretch_drawn X G c) l3
  have o3 := c_drawn (P := P) (w := w) (base := base) B (d_law_court_drawn X G c) l2 l3 l4 o2
  have o4 := c_mine_spot (P := P) (w := w) (base := base) B (d_law_mine_spot X G c) l2 l3
  have o5 := c_due (P := P) (w := w) (base := base) B (d_law_due X G c) f3 f4 f5
  have o6 := c_right28 (P := P) (w := w) (base := base) B (d_law_right X G c) l2 l3 o3 o1 t14 o4 o5 f7 f4 x9.1 x9.2
  exact law_ok28 LF bn o6 l1
end
end G
open PySem PySem.W PySem.Calls PyProof.Rows
theorem PySem.Challenge.cw_nevertakenback_k28_whole_fields_on_ways_holds : PySem.Challenge.rw_nevertakenback_k28_whole_fields_on_ways.Holds := by
  w_on; o_law
  refine HandSHeadRun.head_imp (r := OpenLaw.row PySem.Challenge.rw_nevertakenback_k28_whole_fields_on_ways) (q := view (OpenLaw.row PySem.Challenge.rw_nevertakenback_k28_whole_fields_on_ways).prog [0, 70]) (H := G.hk) (ob := G.ob) (M := 6000) (loose := G.loose) (d := HandSHeadRun.topDef (OpenLaw.row PySem.Challenge.rw_nevertakenback_k28_whole_fields_on_ways).prog 70) (kwd := []) G.ob_eq
    G.run (by kernel_rfl) (by kernel_rfl) (by kernel_rfl) (by rfl) (by first | assumption | decide +kernel) (by decide +kernel) ⟨rfl, rfl, rfl, rfl, rfl, by decide +kernel⟩ ?hw ?hc
  case hw => w_witness2
  case hc =>
    refine L2.walk_ofE (l := PySem.Challenge.rw_nevertakenback_k28_whole_fields_on_ways) (n := 63) (k := 10) (x := "script") (CX := C8.CX0) rfl (by decide) (by kernel_rfl) ⟨rfl, by decide, by decide⟩ ?F (fun _ _ _ _ z => z)
    intro w mg fa h Y GG hmg0
    obtain ⟨K, KX, c⟩ := Y
    have hmg : mg ("law" : PySem.Str) = some (.ref fa) := by
      have e : (HandSHeadRun.topDef (OpenLaw.row PySem.Challenge.rw_nevertakenback_k28_whole_fields_on_ways).prog 70).name = ("law" : PySem.Str) := by kernel_rfl
      rw [← e]
      exact hmg0
    obtain ⟨fd, hb, hF⟩ := G.facts (P := (PySem.Challenge.rw_nevertakenback_k28_whole_fields_on_ways).prog) (w := w) KX GG c hmg
    exact ⟨K, fd, G.sp_law28 K, KX, hb, fun H a ns hl _ hS => ⟨a, ns, rfl, hS, by omega, fun _ => rfl⟩, hF⟩

