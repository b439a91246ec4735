import PyProof.Rows.All
import Wide.All
import OpenK.AllK
import Wide.FinOn
import HandS.ForMost
import HandS.OwnEq
import HandS.IsInst
import HandS.Codes
import HandS.Wide
import HandS.Replace
import HandS.NoneIn
import HandS.Flow
import HandS.Style
import KE.GoesZip
import KE.GoesMore
import KE.GoesEnum
import HandS.Walk
import HandS.RaiseMore
import KE.KDictZip
import HandS.DictComp
import HandS.Strs
import HandS.CallLocal
import HandS.NestedK
import HandS.StrMore
import HandS.FStr
import KE.KExcInit
import HandS.ExcInit
import HandS.ExcIs
import HandS.ExcField
import HandS.MakeKw
import PyProof.ExcBaseAll.LookupError
import HandS.TryMany
import HandS.CallSlots
import HandS.Deep
import HandS.Star
import HandS.ClsMeth
import KE.KCallOwn
import KE.KExcLine
import PySem.Challenge.RW_allrows_k13_texts_of_readers
set_option Elab.async false
set_option linter.all false
set_option maxRecDepth 100000
namespace LX
open PySem PySem.Spec PyProof.Rows L2 C8 SX
section
variable {X : Cx}
theorem call_list_str (hc : X.calm = true) : CallR X (.type "list") (fun (xs : List V) (H : Hp) (Q : VK) => ∃ l : List Nat, xs = [V.str (S l)] ∧ l.length ≤ sizeLine ∧ ∀ p, H p = none → Q (.ref p) (upd H p (.lst (l.map fun c => V.str (S [c]))))) := by
  intro pins s σ H xs us Q I r h
  obtain ⟨l, rfl, hl, q⟩ := h
  obtain ⟨u, rfl, ru⟩ := vals1 r
  obtain ⟨t, rfl⟩ := ru
  refine PySem.call_list_str (I.ok.hd hc) (S l) t (fun h' tk acc' c' hk hS hacc => ?_) (by simpa [S] using hl)
  have hv : Vals (l.map fun c => V.str (S [c])) acc'.toList := by
    obtain ⟨hsz, hit⟩ := hacc
    have hsz' : acc'.toList.length = l.length := by simpa using hsz
    have gen : ∀ (m : List Nat) (as : List Value), as.length = m.length → (∀ (j : Nat) (v : Value), as[j]? = some v → ∃ (c : Nat) (u : Tok), m[j]? = some c ∧ v = Value.str ⟨#[c]⟩ u) → Vals (m.map fun c => V.str (S [c])) as := by
      intro m
      induction m with
      | nil => intro as ha _; cases as with
        | nil => exact .nil
        | cons a as => cases ha
      | cons c m ih => intro as ha hh; cases as with
        | nil => cases ha
        | cons a as =>
          obtain ⟨c', u, e1, e2⟩ := hh 0 a rfl
          have : c = c' := Option.some.inj e1
          subst this
          exact .cons ⟨u, e2⟩ (ih as (Nat.succ.inj ha) fun j v e => hh (j + 1) v e)
    refine gen l acc'.toList hsz' fun j v e => ?_
    obtain ⟨c, u, e1, e2⟩ := hit j v (by simpa using e)
    exact ⟨c, u, by simpa [S] using e1, e2⟩
  refine ⟨.ref _, _, I.laid (t' := tk) (o := .lst (l.map fun c => V.str (S [c]))) hk (Nat.le_refl _) ⟨by simpa using hl, acc'.toList, c', hv, by simpa using hS⟩, rfl, q _ (I.hok.fresh (Nat.le_refl _))⟩
theorem op_mul_si : OpR X (binaryOp .Mult) (fun x y H Q => ∃ (z : Str) (k : Int), x = .str z ∧ y = .int k ∧ (k = 0 ∨ k = 1) ∧ Q (.str (if k = 0 then S [] else z)) H) := by
  intro pins s σ H x y v u Q I rx ry h
  obtain ⟨z, k, rfl, rfl, hk, q⟩ := h
  obtain ⟨t, rfl⟩ := rx
  obtain ⟨t', rfl⟩ := ry
  rcases hk with rfl | rfl
  · exact PySem.P.mul_str_none (by decide) (by decide) ⟨.str (S []), H, I.tok _, ⟨_, rfl⟩, q⟩
  · refine PySem.P.mul_str (by decide) (fun _ h => by simp at h) (fun _ h => by simp at h) ?_
    rw [if_neg (by decide), if_pos (by simp)]
    exact ⟨.str z, H, I, ⟨t, rfl⟩, q⟩
def tRevS (te ts : TE) : TE := fun σ H Q => te σ H fun x H1 => ts σ H1 fun y H2 => ∃ i, y = .int i ∧ (some i = some (-1) ∧ ∃ l : List Nat, x = .str (S l) ∧ l.length ≤ sizeLine ∧ Q (.str (S l.reverse)) H2)
theorem rev_indices (z : Str) : (Builtin.Str.strSliceIndices none none (-1) z.length).filterMap (z.cps[·]?) = z.cps.toList.reverse := by
  have e : Builtin.Str.strSliceIndices none none (-1) z.length = (List.range z.length).reverse := by
    show sliceRange ((z.length : Int) - 1) (-1) (-1) = _
    rw [PySem.W.krv_sliceRange]
    exact PySem.W.krv_range _
  rw [e, List.filterMap_reverse]
  exact congrArg List.reverse (PySem.W.krv_all z.cps)
theorem pe_revS {e st : Expr} {te ts : TE} {p3 pos : Pos} (he : PE X e te) (hs : PE X st ts) : PE X (.Subscript e (.Slice none none (some st) p3) pos) (tRevS te ts) := by
  refine ⟨fun pins s σ H Q I h => ?_⟩
  refine Subscript_ (thn (he.run pins s σ H _ I h) fun v s1 ⟨x, H1, I1, r1, q1⟩ => ?_)
  have hst : PO X (some st) (tPart ts) := po_some hs
  refine wpAny_Slice (thn (po_none.run pins s1 σ H1 (fun o H2 => o = none ∧ H2 = H1) I1 ⟨rfl, rfl⟩) fun vl s2 ⟨l, H2, I2, pl, el, e2⟩ => ?_)
  subst el e2
  refine thn (po_none.run pins s2 σ H2 (fun o H3 => o = none ∧ H3 = H2) I2 ⟨rfl, rfl⟩) fun vu s3 ⟨u, H3, I3, pu, eu, e3⟩ => ?_
  subst eu e3
  refine thn (hst.run pins s3 σ H3 (fun o H4 => o = some (-1) ∧ ∃ l : List Nat, x = .str (S l) ∧ l.length ≤ sizeLine ∧ Q (.str (S l.reverse)) H4) I3 q1) fun vs s4 ⟨o, H4, I4, ps, eo, l, ex, hl, q⟩ => ?_
  subst eo ex
  obtain ⟨t, rfl⟩ := r1
  have I5 : Inv X pins σ H4 { s4 with heap := s4.heap.push { cls := .type "slice", data := .fields #[vl, vu, vs] } } := I4.kept (t' := s4.toks) fun b ob q => Heap.get?_push_of_some _ q
  show wpAny (model X.prog X.w) X.A (subscriptTail e (.Slice none none (some st) p3) (.str (S l) t) (.ref s4.heap.objs.size)) (EP X pins σ Q) X.xe { s4 with heap := s4.heap.push { cls := .type "slice", data := .fields #[vl, vu, vs] } }
  obtain ⟨l', el, el2⟩ := IsPart.raw pl
  obtain ⟨u', eu, eu2⟩ := IsPart.raw pu
  obtain ⟨s', es, es2⟩ := IsPart.raw ps
  refine tail_any (ops := [.ref s4.heap.objs.size, .str (S l) t]) (typeIs_str _ _ _) F.slot_str_getitem.lookup ?_ (by with_unfolding_all rfl)
  refine wpAny_getItem_str_slice (l := l') (u := u') (st := s') ?_ (by rw [es2]; rfl) ?_
  · rw [el, eu, es]
    exact Heap.IsSliceOf.new ..
  · unfold sliceMade slicePicked
    rw [el2, eu2, es2]
    show Made.post (if ((-1 : Int) == 1 && (Builtin.Str.strSliceIndices none none (-1) (S l).length).length == (S l).length) = true then Made.val (.str (S l) t)
      else Made.str ⟨((Builtin.Str.strSliceIndices none none (-1) (S l).length).filterMap ((S l).cps[·]?)).toArray⟩) (EP X pins σ Q) _
    rw [if_neg (by simp), rev_indices]
    exact ⟨by simpa [Str.length] using hl, .str _, H4, I5.tok _, ⟨_, rfl⟩, q⟩
end
end LX
namespace LX
open PySem PySem.Spec PyProof.Rows L2 C8 SX
inductive Sr where
  | txt (x : Str) | lst (a : Addr) | tup (a : Addr)
def Sr.fp : Sr → List Addr
  | .txt _ => [] | .lst a => [a] | .tup a => [a]
def Sr.has (K : PySem.W.Frag) : Sr → Nat → Hp → Prop
  | .txt x, i, _ => i < x.cps.size
  | .lst a, i, H => ∃ xs, SqL K H a xs ∧ i < xs.length
  | .tup a, i, H => ∃ xs, SqT K H a xs ∧ i < xs.length
def Sr.val (K : PySem.W.Frag) : Sr → Nat → Hp → V → Prop
  | .txt x, i, _, v => ∃ c, x.cps[i]? = some c ∧ v = .str ⟨#[c]⟩
  | .lst a, i, H, v => ∀ xs, SqL K H a xs → xs[i]? = some v
  | .tup a, i, H, v => ∀ xs, SqT K H a xs → xs[i]? = some v
def Sr.upto (K : PySem.W.Frag) : Sr → Nat → Hp → Prop
  | .txt x, i, _ => i ≤ x.cps.size
  | .lst a, i, H => ∃ xs, SqL K H a xs ∧ i ≤ xs.length
  | .tup a, i, H => ∃ xs, SqT K H a xs ∧ i ≤ xs.length
def Sr.ends (K : PySem.W.Frag) : Sr → Nat → Hp → Prop
  | .txt x, i, _ => i = x.cps.size
  | .lst a, i, H => ∃ xs, SqL K H a xs ∧ i = xs.length
  | .tup a, i, H => ∃ xs, SqT K H a xs ∧ i = xs.length
def Sr.tn : Sr → Addr → Nat → Heap → Prop
  | .txt x, it, i, h => ∃ t, h.IsStrIter it (strIterType x) x t i
  | .lst a, it, i, h => h.IsListIter it a i
  | .tup a, it, i, h => h.IsTupleIter it a i
theorem Sr.tn_obj : ∀ {S : Sr} {it : Addr} {i : Nat} {h : Heap}, S.tn it i h → ∃ o, h.get? it = some o ∧ ∀ v, o.data ≠ .cell v
  | .txt _, _, _, _, ⟨_, o, e, _, d⟩ => ⟨o, e, fun v q => by rw [d] at q; cases q⟩
  | .lst _, _, _, _, h => let ⟨o, e, _, d⟩ := h; ⟨o, e, fun v q => by rw [d] at q; cases q⟩
  | .tup _, _, _, _, ⟨o, e, _, d⟩ => ⟨o, e, fun v q => by rw [d] at q; cases q⟩
theorem Sr.tn_keep : ∀ {S : Sr} {it : Addr} {i : Nat} {h h' : Heap}, S.tn it i h → (∀ o, h.get? it = some o → h'.get? it = some o) → S.tn it i h'
  | .txt _, _, _, _, _, ⟨t, o, e, r⟩, k => ⟨t, o, k o e, r⟩
  | .lst _, _, _, _, _, h, k => h.at k
  | .tup _, _, _, _, _, h, k => h.at k
section
variable {X : Cx} {pins : List (Addr × Obj)} {σ : L2.St} {H : Hp} {s : Shared}
structure DrawsAt (X : Cx) (S : Sr) (H : Hp) (s : Shared) (it : Addr) (i : Nat) (n : Nat) : Prop where
  ex : ∃ (Pp : Nat → Value → Prop) (St : Nat → Heap → Prop), (∀ A : Around, A.handled = none → Draws X.prog X.w A it (it :: S.fp) n Pp St) ∧ St i s.heap ∧
    (∀ u, Pp i u → ∃ v, S.val X.K i H v ∧ RelV v u) ∧ ∀ j h', St j h' → S.tn it j h'
theorem Sr.draws (S : Sr) {it : Addr} {i : Nat} (I : Inv X pins σ H s) (hit : ∀ a ∈ S.fp, a ≠ it) (st : S.tn it i s.heap) (hu : S.upto X.K i H) : ∃ n, DrawsAt X S H s it i n ∧ i ≤ n ∧ (S.has X.K i H → i < n) ∧ (S.ends X.K i H → i = n) := by
  cases S with
  | txt x =>
    obtain ⟨t, st⟩ := st
    refine ⟨x.cps.size, ⟨_, _, fun A hh => Draws.text hh it x t, st, fun u ⟨c, u', e, eu⟩ => ?_, fun j h' q => ⟨t, q⟩⟩, hu, fun h => h, fun h => h⟩
    exact ⟨.str ⟨#[c]⟩, ⟨c, e, rfl⟩, ⟨u', eu⟩⟩
  | lst a =>
    obtain ⟨xs, hx, hu⟩ := hu
    obtain ⟨its, rv, p, _⟩ := I.list hx
    have hl := rv.length
    refine ⟨its.toArray.size, ⟨_, _, fun A hh => Draws.list hh it a (hit a (List.mem_singleton.mpr rfl)) its.toArray, ⟨st, p.isList⟩, fun u hq => ?_, fun j h' q => q.1⟩, by simp; omega, fun ⟨ys, hy, h⟩ => ?_, fun ⟨ys, hy, h⟩ => ?_⟩
    · have hq' : its[i]? = some u := by simpa using hq
      have hlt : i < xs.length := by rw [hl]; exact (List.getElem?_eq_some_iff.mp hq').1
      obtain ⟨u', e, r⟩ := rv.get (List.getElem?_eq_getElem hlt)
      rw [hq'] at e
      rw [Option.some.inj e]
      exact ⟨xs[i], fun zs hz => by rw [I.list_inj hz hx]; exact List.getElem?_eq_getElem hlt, r⟩
    · rw [I.list_inj hy hx] at h; simp; omega
    · rw [I.list_inj hy hx] at h; simp; omega
  | tup a =>
    obtain ⟨xs, hx, hu⟩ := hu
    obtain ⟨its, rv, p, _⟩ := I.tuple hx
    have hl := rv.length
    refine ⟨its.toArray.size, ⟨_, _, fun A hh => Draws.tuple hh it a (hit a (List.mem_singleton.mpr rfl)) its.toArray, ⟨st, p⟩, fun u hq => ?_, fun j h' q => q.1⟩, by simp; omega, fun ⟨ys, hy, h⟩ => ?_, fun ⟨ys, hy, h⟩ => ?_⟩
    · have hq' : its[i]? = some u := by simpa using hq
      have hlt : i < xs.length := by rw [hl]; exact (List.getElem?_eq_some_iff.mp hq').1
      obtain ⟨u', e, r⟩ := rv.get (List.getElem?_eq_getElem hlt)
      rw [hq'] at e
      rw [Option.some.inj e]
      exact ⟨xs[i], fun zs hz => by rw [I.tuple_inj hz hx]; exact List.getElem?_eq_getElem hlt, r⟩
    · rw [I.tuple_inj hy hx] at h; simp; omega
    · rw [I.tuple_inj hy hx] at h; simp; omega
end
def ItzX (K : PySem.W.Frag) (S1 S2 : Sr) : It :=
  ⟨fun i H => S1.has K i H ∧ S2.has K i H,
    fun i H v H' => ∃ T x y, v = .ref T ∧ H T = none ∧ H' = upd H T (.tup [x, y]) ∧ S1.val K i H x ∧ S2.val K i H y,
    fun i H => S1.upto K i H ∧ S2.upto K i H ∧ (S1.ends K i H ∨ S2.ends K i H)⟩
theorem Sr.has_upto {K : PySem.W.Frag} : ∀ {S : Sr} {i : Nat} {H : Hp}, S.has K i H → S.upto K i H
  | .txt _, _, _, h => Nat.le_of_lt h
  | .lst _, _, _, ⟨xs, hx, h⟩ => ⟨xs, hx, Nat.le_of_lt h⟩
  | .tup _, _, _, ⟨xs, hx, h⟩ => ⟨xs, hx, Nat.le_of_lt h⟩
theorem turn_zipX {P : Program} {w : World} {K : PySem.W.Frag} {elts : List Expr} {kk : Nat} {tpos : Pos} {z TI TO i1 i2 : Addr} (S1 S2 : Sr) (D : ZipSep2 z TI TO i1 i2 (i1 :: S1.fp) (i2 :: S2.fp)) (n1 : ∀ a ∈ S1.fp, a ≠ i1) (n2 : ∀ a ∈ S2.fp, a ≠ i2) :
    Turn P w K (.Tuple elts kk tpos) (ItzX K S1 S2) [z, TI, TO, i1, i2] z (fun i h => IsZip h z TI TO .none ∧ IsTupOf2 h TI (.ref i1) (.ref i2) ∧ (∃ x y, IsTupOf2 h TO x y) ∧ S1.tn i1 i h ∧ S2.tn i2 i h) where
  mem := by simp
  obj := fun i h st c hc => by
    obtain ⟨hz, hTI, ⟨x, y, hTO⟩, h1, h2⟩ := st
    have e' : c = z ∨ c = TI ∨ c = TO ∨ c = i1 ∨ c = i2 := by simpa using hc
    rcases e' with q | q | q | q | q
    · rw [q]; exact ⟨_, hz, fun v q => nomatch q⟩
    · rw [q]; exact ⟨_, hTI, fun v q => nomatch q⟩
    · rw [q]; exact ⟨_, hTO, fun v q => nomatch q⟩
    · rw [q]; exact Sr.tn_obj h1
    · rw [q]; exact Sr.tn_obj h2
  keep := fun i h h' st k => by
    obtain ⟨hz, hTI, ⟨x, y, hTO⟩, h1, h2⟩ := st
    exact ⟨k z (by simp) _ hz, k TI (by simp) _ hTI, ⟨x, y, k TO (by simp) _ hTO⟩, Sr.tn_keep h1 fun o q => k i1 (by simp) o q, Sr.tn_keep h2 fun o q => k i2 (by simp) o q⟩
  item := by
    intro X hP hw hK hc i pins s σ H E I hf st hg
    subst hP hw hK
    obtain ⟨hz, hTI, ⟨x0, y0, hTO⟩, h1, h2⟩ := st
    obtain ⟨g1, g2⟩ := hg
    obtain ⟨m1, ⟨P1, St1, D1, st1, v1, t1⟩, _, lt1, _⟩ := S1.draws I n1 h1 (Sr.has_upto g1)
    obtain ⟨m2, ⟨P2, St2, D2, st2, v2, t2⟩, _, lt2, _⟩ := S2.draws I n2 h2 (Sr.has_upto g2)
    have hzl : z < s.heap.objs.size := Heap.lt_size hz
    refine wpAny_pyNext_zipD2_item D (D1 _ (I.ok.hd hc)) (D2 _ (I.ok.hd hc)) hz hTI hTO st1 st2 (lt1 g1) (lt2 g2) fun u1 u2 h' tk p1 p2 z' TO' st1' st2' hT hsz hk => ?_
    obtain ⟨x, hx, rx⟩ := v1 u1 p1
    obtain ⟨y, hy, ry⟩ := v2 u2 p2
    refine ⟨_, rfl, wpAny_letOwnedTupleGo_zip (s := { s with heap := h', toks := tk }) z' fun h'' z'' sb => ?_⟩
    have hT2 : h''.get? s.heap.objs.size = some { cls := .type "tuple", data := .seq #[u1, u2] } := (sb.2 _ (Nat.ne_of_gt hzl)).trans hT
    have new : ObjOk X.prog X.w (upd H s.heap.objs.size (.tup [x, y])) h'' s.heap.objs.size (.tup [x, y]) :=
      ⟨by show 2 ≤ sizeLine; decide, [u1, u2], .cons rx (.cons ry .nil), ⟨_, hT2, rfl, _, rfl⟩⟩
    have I1 : Inv X pins σ (upd H s.heap.objs.size (.tup [x, y])) { s with heap := h'', toks := tk } :=
      I.turnedNew (t' := tk) (ch := [z, TI, TO, i1, i2]) (fun c o hb q => (sb.2 c (fun q' => hb (by simp [q']))).trans (hk c o (fun q' => hb (by simp [q'])) (fun q' => hb (by simp [q'])) (fun q' => hb (by simp [q'])) (fun q' => hb (by simp [q'])) q)) hf (Nat.le_refl _) new
    refine ⟨.ref s.heap.objs.size, _, I1, rfl, ⟨_, x, y, rfl, I.hok.fresh (Nat.le_refl _), rfl, hx, hy⟩, ⟨z'', ?_, ⟨u1, u2, ?_⟩, ?_, ?_⟩, fun c hcm => ?_⟩
    · exact (sb.2 _ D.TIz).trans (hk _ _ D.TIz D.TITO D.TIi1 D.TIi2 hTI)
    · exact (sb.2 _ D.TOz).trans TO'
    · exact Sr.tn_keep (t1 _ _ st1') fun o q => (sb.2 _ D.zi1.symm).trans q
    · exact Sr.tn_keep (t2 _ _ st2') fun o q => (sb.2 _ D.zi2.symm).trans q
    · have hlt : c < s.heap.objs.size := by
        have e' : c = z ∨ c = TI ∨ c = TO ∨ c = i1 ∨ c = i2 := by simpa using hcm
        rcases e' with q | q | q | q | q
        · rw [q]; exact hzl
        · rw [q]; exact Heap.lt_size hTI
        · rw [q]; exact Heap.lt_size hTO
        · rw [q]; obtain ⟨_, e1, _⟩ := Sr.tn_obj h1; exact Heap.lt_size e1
        · rw [q]; obtain ⟨_, e2, _⟩ := Sr.tn_obj h2; exact Heap.lt_size e2
      rw [upd_ne (Nat.ne_of_lt hlt)]
      exact (hf c hcm).1
  done := by
    intro X hP hw hK hc i pins s σ H E I hf st hg
    subst hP hw hK
    obtain ⟨hz, hTI, ⟨x0, y0, hTO⟩, h1, h2⟩ := st
    obtain ⟨g1, g2, ge⟩ := hg
    obtain ⟨m1, ⟨P1, St1, D1, st1, v1, t1⟩, le1, _, eq1⟩ := S1.draws I n1 h1 g1
    obtain ⟨m2, ⟨P2, St2, D2, st2, v2, t2⟩, le2, _, eq2⟩ := S2.draws I n2 h2 g2
    exact wpAny_pyNext_zipD2_end D (D1 _ (I.ok.hd hc)) (D2 _ (I.ok.hd hc)) hz hTI hTO st1 st2 le1 le2 (ge.elim (fun q => .inl (eq1 q)) fun q => .inr (eq2 q)) fun h' tk hk => ⟨rfl, I.turnedL (t' := tk) (ch := [z, TI, TO, i1, i2]) (fun c o hb q =>
      hk c o (fun q' => hb (by simp [q'])) (fun q' => hb (by simp [q'])) (fun q' => hb (by simp [q'])) (fun q' => hb (by simp [q'])) q) hf⟩
  self := fun A i s Q E st h => wpAny_pyIter_zip st.1 h
def Sr.of : V → Sr → Prop
  | .str x, .txt y => x = y
  | .ref a, .lst b => a = b
  | .ref a, .tup b => a = b
  | _, _ => False
def Sr.there (K : PySem.W.Frag) (H : Hp) : Sr → Prop
  | .txt _ => True
  | .lst a => ∃ xs, SqL K H a xs
  | .tup a => ∃ xs, SqT K H a xs
theorem Sr.begins {X : Cx} {pins : List (Addr × Obj)} {σ : L2.St} {H : Hp} {s : Shared} (I : Inv X pins σ H s) {v : V} {u : Value} (r : RelV v u) : ∀ {S : Sr}, S.of v → S.there X.K H → ∃ (o : Obj) (HH : Heap → Prop), Begins u o HH ∧ HH s.heap ∧ (∀ a ∈ S.fp, a < s.heap.objs.size) ∧ ∀ (h : Heap) (it : Addr), h.get? it = some o → S.tn it 0 h
  | .txt y, e, _ => by
    cases v with
    | str x =>
      have e' : x = y := e
      subst e'
      obtain ⟨t, rfl⟩ := r
      exact ⟨_, _, begins_text x t, trivial, (fun _ h => nomatch h), fun h it q => ⟨t, _, q, rfl, rfl⟩⟩
    | _ => exact e.elim
  | .lst b, e, ⟨xs, hx⟩ => by
    cases v with
    | ref a =>
      have e' : a = b := e
      subst e'
      cases r
      obtain ⟨its, rv, p, _⟩ := I.list hx
      refine ⟨_, _, begins_list a its.toArray, p.isList, fun c h => ?_, fun h it q => ⟨_, q, rfl, rfl⟩⟩
      rw [List.mem_singleton.mp h]; exact p.lt
    | _ => exact e.elim
  | .tup b, e, ⟨xs, hx⟩ => by
    cases v with
    | ref a =>
      have e' : a = b := e
      subst e'
      cases r
      obtain ⟨its, rv, p, _⟩ := I.tuple hx
      refine ⟨_, _, begins_tuple a its.toArray, p, fun c h => ?_, fun h it q => ⟨_, q, rfl, rfl⟩⟩
      rw [List.mem_singleton.mp h]; exact p.lt
    | _ => exact e.elim
def iZipX (K : PySem.W.Frag) (ta : TA) : TI := fun σ H R => ta σ H fun vs H1 => ∃ (x y : V) (S1 S2 : Sr), vs = [x, y] ∧ S1.of x ∧ S2.of y ∧ S1.there K H1 ∧ S2.there K H1 ∧ R (ItzX K S1 S2) H1
theorem pi_zipX {X : Cx} {e e2 : Expr} {ta : TA} {p pos tpos : Pos} {elts : List Expr} {kk : Nat} (hg : Gl X "zip") (hm : X.mg "zip" = none) (ha : PA X [e, e2] ta)
    (hs : starEach [e, e2] X.env = (false, eval e X.env) :: starEach [e2] X.env := by rfl) (hpl : (backTo pos (starEach [e2] X.env)).any (·.1) = false := by rfl) :
    PI X (.Tuple elts kk tpos) (.Call (.Name "zip" p) [e, e2] [] pos) (iZipX X.K ta) := by
  refine ⟨fun pins s σ H R I h => ?_⟩
  refine Call_ (ld_blt I hg hm PyProof.Rows.boot_zip (PyProof.Rows.callWith_type1 (thn (ha.run pos pins s σ H _ I h) fun us s1 ⟨vs, H1, I1, r1, q1⟩ => ?_) hs hpl))
  obtain ⟨x, y, S1, S2, ex, e1, e2, th1, th2, q⟩ := q1
  subst ex
  obtain ⟨u, u', rfl, r, r'⟩ := vals2 r1
  obtain ⟨o1, HH1, B1, b1, f1, t1⟩ := Sr.begins I1 r e1 th1
  obtain ⟨o2, HH2, B2, b2, f2, t2⟩ := Sr.begins I1 r' e2 th2
  have fresh5 : ∀ c, c ∈ [s1.heap.objs.size + 4, s1.heap.objs.size + 2, s1.heap.objs.size + 3, s1.heap.objs.size, s1.heap.objs.size + 1] → FpOk X pins H1 c := fun c hcm => by
    have e' : c = s1.heap.objs.size + 4 ∨ c = s1.heap.objs.size + 2 ∨ c = s1.heap.objs.size + 3 ∨ c = s1.heap.objs.size ∨ c = s1.heap.objs.size + 1 := by simpa using hcm
    have hle : s1.heap.objs.size ≤ c := by
      rcases e' with z | z | z | z | z
      · rw [z]; exact Nat.le_add_right _ _
      · rw [z]; exact Nat.le_add_right _ _
      · rw [z]; exact Nat.le_add_right _ _
      · rw [z]; exact Nat.le_refl _
      · rw [z]; exact Nat.le_add_right _ _
    exact I1.fpOk hle (I1.hok.fresh hle)
  refine zip_begins2 B1 B2 b1 b2 fun h' hz hTI hTO h1 h2 hsz hk => wpAny_pyIter_zip hz ?_
  have I2 : Inv X pins σ H1 { s1 with heap := h' } := I1.kept (t' := s1.toks) hk
  exact ⟨s1.heap.objs.size + 4, [s1.heap.objs.size + 4, s1.heap.objs.size + 2, s1.heap.objs.size + 3, s1.heap.objs.size, s1.heap.objs.size + 1], _, _, H1, rfl, I2,
    turn_zipX S1 S2 (PySem.zip_sep2 f1 f2) (fun a ha => Nat.ne_of_lt (f1 a ha)) (fun a ha => Nat.ne_of_lt (Nat.lt_succ_of_lt (f2 a ha))), ⟨hz, hTI, ⟨_, _, hTO⟩, t1 _ _ h1, t2 _ _ h2⟩, fresh5, q⟩
end LX
namespace LX
open PySem PySem.Spec PyProof.Rows L2 C8 SX
section
variable {prog : Program} {w : World} {A : Around} {E : Value → Shared → Prop} {s : Shared} {K : PySem.W.Frag} {x y C L f : Addr} {h₀ : Heap} {m : Str → Option Value} {ox : Obj} {od : Option Obj}
theorem objNe_own (X : K.In s.heap) (I : PySem.W.InstAt s.heap x ox C od) (hs : PySem.W.findIn K (.ref C) "__eq__" = some (some (.ref f))) (hf : PySem.W.isFn K (.ref f) = true) (hu : A.units < cLine) {Q : Fin → Shared → Prop}
    (hcall : wpAny (model prog w) A (call (.ref f) [.ref x, .ref y]) (fun v s' => ∃ b, v = .bool b ∧ Q (.done (.ret (.bool (!b)))) s') E s) :
    wpAny (model prog w) A (Builtin.«object.__ne__» ⟨[.ref x, .ref y], []⟩) Q E s := by
  unfold Builtin.«object.__ne__»
  repeat (first
    | with_reducible refine wpAny_cRoomFor hu ?_
    | (refine wpAny_bind (m := callSpecialIfBound? (.ref x) (Str.ofString "__eq__") [.ref y])
        (PySem.W.ifBound_K X I hs hf (wpAny_mono hcall (fun r s' hr => by
          obtain ⟨b, rfl, hq⟩ := hr
          repeat (first | exact hq | exact wpAny_pure hq | exact wpAny_truthy_bool hq | (refine wpAny_bind (m := truthy (.bool _)) (wpAny_truthy_bool ?_)) | wp_step)) fun _ _ e => e)))
    | wp_step)
theorem ifBound_ne {M : Model} {args : List Value} {Q : Option Value → Shared → Prop} (X : K.In s.heap) (I : PySem.W.InstAt s.heap x ox C od) (hs : PySem.W.findIn K (.ref C) "__ne__" = some (some (.builtin "object.__ne__")))
    (h : wpAny M A (call (.builtin "object.__ne__") (.ref x :: args)) (fun v => Q (some v)) E s) : wpAny M A (callSpecialIfBound? (.ref x) "__ne__" args) Q E s := by
  simp only [callSpecialIfBound?, bindSpecialIfBound?]
  refine wpAny_holding (wpAny_bind (wpAny_bind (wpAny_bind (I.type.here ((PySem.W.looks_findIn X hs).here ?_)))))
  simp only [F.cmp_object.ne.bind]
  refine wpAny_bind (wpAny_askSetting (wpAny_ite ?_))
  have fin : wpAny M A (call (.builtin "object.__ne__") ([.ref x] ++ args) >>= fun v => pure (some v)) Q E s := wpAny_bind (wpAny_mono h (fun v s' h' => wpAny_pure h') fun _ _ h' => h')
  split
  · exact wpAny_bind (wpAny_pure (wpAny_pure fin))
  · exact wpAny_tryCatch (wpAny_bind (wpAny_pure (wpAny_pure fin)))
theorem check_ne {M : Model} {Q : Unit → Shared → Prop} (X : K.In s.heap) (I : PySem.W.InstAt s.heap x ox C od) (hm : PySem.W.mroIn K C (.type "object") = some true) (hq : Q () s) :
    wpAny M A (checkBuiltinCall "object.__ne__" ⟨[.ref x, .ref y], []⟩) Q E s := by
  have L0 := I.type (M := M)
  have L1 := PySem.W.looks_mroIn (M := M) X hm
  simp only [checkBuiltinCall, F.cmpKind_ne, F.cmpSplit_ne]
  have ha := F.cmpArgs_ne (.ref x) (.ref y)
  refine wpAny_bind ?_
  unfold isInstance
  repeat lk
  exact hq
theorem rcNe_own (hu : A.units + 1 < cLine) (FF : Fr h₀ L s.heap m) (X₀ : K.In h₀) (I : PySem.W.InstAt s.heap x ox C od) (hb : PySem.W.Looks (model prog w) s.heap (typeOf (.ref y)) (.ref C))
    (hs : PySem.W.findIn K (.ref C) "__eq__" = some (some (.ref f))) (hf : PySem.W.isFn K (.ref f) = true) (hn : PySem.W.findIn K (.ref C) "__ne__" = some (some (.builtin "object.__ne__"))) (hm : PySem.W.mroIn K C (.type "object") = some true)
    {Q : Value → Shared → Prop} (hcall : wpAny (model prog w) A.in1 (call (.ref f) [.ref x, .ref y]) (fun v s' => ∃ b, v = .bool b ∧ Q (.bool (!b)) s') E s) :
    wpAny (model prog w) A (richCompare .NotEq (.ref x) (.ref y)) Q E s := by
  have X := X₀.keeps FF.keep
  have one : wpAny (model prog w) A (tryCompare (.ref x) (cmpInfo .NotEq).2.1 (.ref y)) (fun r s' => ∃ v, r = some v ∧ Q v s') E s := by
    show wpAny (model prog w) A (tryCompare (.ref x) "__ne__" (.ref y)) (fun r s' => ∃ v, r = some v ∧ Q v s') E s
    unfold tryCompare
    refine wpAny_bind (ifBound_ne X I hn (wpAny_call (codeAny_call_builtin F.cmp_object.ne.plain F.cmpEntry_ne (check_ne X I hm (objNe_own (A := A.in1) X I hs hf (by show A.units + 1 < cLine; exact hu) (wpAny_mono hcall (fun v s' hv => ?_) fun _ _ e => e))))))
    obtain ⟨b, rfl, hq⟩ := hv
    first | exact ⟨b, rfl, wpAny_pure ⟨_, rfl, hq⟩⟩ | exact ⟨b, rfl, wpAny_pure (wpAny_pure ⟨_, rfl, hq⟩)⟩ | exact ⟨b, rfl, ⟨_, rfl, hq⟩⟩
  unfold richCompare
  simp only [oneThing_ref]
  refine wpAny_holding (wpAny_bind (wpAny_cRoomFor (by omega) ?_))
  refine wpAny_bind (I.type.here (wpAny_bind (hb.here ?_)))
  rw [show (Value.ref C != Value.ref C) = false from by simp]
  simp only [Bool.false_eq_true, if_false]
  refine wpAny_bind (wpAny_pure ?_)
  simp only [Bool.false_eq_true, if_false]
  refine wpAny_bind (wpAny_mono one (fun r s' z => ?_) fun _ _ e => e)
  obtain ⟨v, rfl, hq⟩ := z
  first | exact wpAny_pure hq | exact hq
end
section
variable {X : Cx} {k j : Nat} {C : Addr} {sp : Sp}
theorem met_run {mth : Str} {pins : List (Addr × Obj)} {σ : L2.St} {H : Hp} {s : Shared} {A : Around} {a b : Addr} {Q : Value → Shared → Prop} (c : Met X.prog X.w X.K X.mg X.base k C mth sp []) (hr : Room k A) (hfr : A.frames = X.A.frames) (I : Inv X pins σ H s)
    {R : VK} (hsp : sp [.ref a, .ref b] H R C8.E0) (hQ : ∀ v z H' s', Inv X pins σ H' s' → RelV z v → R z H' → Q v s') :
    ∃ f, PySem.W.findIn X.K (.ref C) mth = some (some (.ref f)) ∧ PySem.W.isFn X.K (.ref f) = true ∧ wpAny (model X.prog X.w) A (call (.ref f) [.ref a, .ref b]) Q X.xe s := by
  obtain ⟨f, fd, ps, ds, hc, hm, F, hb, hd⟩ := c.ex
  refine ⟨f, hm.at_, hm.fn, ?_⟩
  have e0 : Env0 X.prog X.w X.K X.mg X.base A X.stack s H := by
    have e := I.env0
    exact ⟨by rw [hfr]; exact e.frames, e.mod, e.bs, e.bsz, e.funs, e.frf, e.hok, e.bare⟩
  have hds : ds = [] := by cases hd; rfl
  subst hds
  have hl := F.len _ _ _ _ hsp
  have r2 : Vals [V.ref a, V.ref b] [Value.ref a, Value.ref b] := .cons rfl (.cons rfl .nil)
  refine wpAny_call (codeAny_mono (F.run A X.stack s H ⟨[.ref a, .ref b], []⟩ [.ref a, .ref b] [.ref a, .ref b] _ C8.E0 hr e0 (by
    have := hb s [.ref a, .ref b] I.kIn (by simpa using hl)
    simpa using this) r2 hsp) fun r s' hq => ?_)
  cases r with
  | error e => exact C8.pass0 (E := C8.E0) pins σ H s e s' I hq
  | ok fl =>
    cases fl with
    | ret w =>
      obtain ⟨z, H', I', rz, q⟩ := I.after hq
      exact hQ w z H' s' I' rz q
    | next => exact False.elim hq
    | brk => exact False.elim hq
    | cont => exact False.elim hq
structure NeC (K : PySem.W.Frag) (C : Addr) : Prop where
  ne : PySem.W.findIn K (.ref C) "__ne__" = some (some (.builtin "object.__ne__"))
  ob : PySem.W.mroIn K C (.type "object") = some true
  sf : PySem.W.selfFirst K C = true
def rEqI (C : Addr) (sp : Sp) : R2 := fun x y H Q => ∃ a b dx dy fs gs, x = .ref a ∧ y = .ref b ∧ H a = some (.ins C dx fs) ∧ H b = some (.ins C dy gs) ∧ sp [.ref a, .ref b] H (fun v H' => ∃ r, v = .bl r ∧ Q (.bl r) H') C8.E0
def rNeI (C : Addr) (sp : Sp) : R2 := fun x y H Q => ∃ a b dx dy fs gs, x = .ref a ∧ y = .ref b ∧ H a = some (.ins C dx fs) ∧ H b = some (.ins C dy gs) ∧ sp [.ref a, .ref b] H (fun v H' => ∃ r, v = .bl r ∧ Q (.bl (!r)) H') C8.E0
def rOpI (C : Addr) (sp : Sp) : R2 := fun x y H Q => ∃ a b dx dy fs gs, x = .ref a ∧ y = .ref b ∧ H a = some (.ins C dx fs) ∧ H b = some (.ins C dy gs) ∧ sp [.ref a, .ref b] H (fun v H' => ∃ p, v = .ref p ∧ Q (.ref p) H') C8.E0
theorem op_eqI (c : Met X.prog X.w X.K X.mg X.base k C "__eq__" sp []) (hr : Room j X.A) (hk : k ≤ j) : OpR X (compareOp .Eq) (rEqI C sp) := by
  intro pins s σ H x y v u Q I rx ry h
  obtain ⟨a, b, dx, dy, fs, gs, rfl, rfl, ha, hb, hsp⟩ := h
  cases rx
  cases ry
  obtain ⟨mA, J, _⟩ := ins_get I.hok ha
  obtain ⟨mB, J', _⟩ := ins_get I.hok hb
  obtain ⟨od, J, _⟩ := J.look
  obtain ⟨od', J', _⟩ := J'.look
  obtain ⟨m, hF⟩ := I.fr
  obtain ⟨f, hs, hf, hw⟩ := met_run (Q := PySem.W.CmpBack (EP X pins σ Q)) c (hr.mono hk) rfl I hsp (fun v z H' s' I' rz q => by
    obtain ⟨r, rfl, q⟩ := q
    cases rz
    exact ⟨.bl r, H', I', rfl, q⟩)
  exact PySem.W.cmp_K (op := .Eq) (tb := .ref C) hr.units0 hF I.ok.mod.kin J J'.type (by simp [PySem.W.notFirst]) hs hf hw
theorem op_neI (n : NeC X.K C) (c : Met X.prog X.w X.K X.mg X.base k C "__eq__" sp []) (hr : Room j X.A) (hk : k + 1 ≤ j) : OpR X (compareOp .NotEq) (rNeI C sp) := by
  intro pins s σ H x y v u Q I rx ry h
  obtain ⟨a, b, dx, dy, fs, gs, rfl, rfl, ha, hb, hsp⟩ := h
  cases rx
  cases ry
  obtain ⟨mA, J, _⟩ := ins_get I.hok ha
  obtain ⟨mB, J', _⟩ := ins_get I.hok hb
  obtain ⟨od, J, _⟩ := J.look
  obtain ⟨od', J', _⟩ := J'.look
  obtain ⟨m, hF⟩ := I.fr
  obtain ⟨f, hs, hf, hw⟩ := met_run (Q := fun v s' => ∃ b, v = .bool b ∧ EP X pins σ Q (.bool (!b)) s') c (hr.mono hk).in1 rfl I hsp (fun v z H' s' I' rz q => by
    obtain ⟨r, rfl, q⟩ := q
    cases rz
    exact ⟨r, rfl, .bl (!r), H', I', rfl, q⟩)
  exact rcNe_own (hu_of hr) hF I.ok.mod.kin J J'.type hs hf n.ne n.ob hw
theorem op_mulI (n : NeC X.K C) (c : Met X.prog X.w X.K X.mg X.base k C "__mul__" sp []) (hr : Room j X.A) (hk : k ≤ j) : OpR X (binaryOp .Mult) (rOpI C sp) := by
  intro pins s σ H x y v u Q I rx ry h
  obtain ⟨a, b, dx, dy, fs, gs, rfl, rfl, ha, hb, hsp⟩ := h
  cases rx
  cases ry
  obtain ⟨mA, J, _⟩ := ins_get I.hok ha
  obtain ⟨mB, J', _⟩ := ins_get I.hok hb
  obtain ⟨od, J, _⟩ := J.look
  obtain ⟨od', J', _⟩ := J'.look
  obtain ⟨m, hF⟩ := I.fr
  obtain ⟨f, hs, hf, hw⟩ := met_run (Q := PySem.W.CmpBack (EP X pins σ Q)) c (hr.mono hk) rfl I hsp (fun v z H' s' I' rz q => by
    obtain ⟨p, rfl, q⟩ := q
    cases rz
    exact ⟨.ref p, H', I', rfl, q⟩)
  exact PySem.W.binop_K (op := .Mult) hF I.ok.mod.kin J J'.type n.sf hs hf hw
theorem op_addI (n : NeC X.K C) (c : Met X.prog X.w X.K X.mg X.base k C "__add__" sp []) (hr : Room j X.A) (hk : k ≤ j) : OpR X (binaryOp .Add) (rOpI C sp) := by
  intro pins s σ H x y v u Q I rx ry h
  obtain ⟨a, b, dx, dy, fs, gs, rfl, rfl, ha, hb, hsp⟩ := h
  cases rx
  cases ry
  obtain ⟨mA, J, _⟩ := ins_get I.hok ha
  obtain ⟨mB, J', _⟩ := ins_get I.hok hb
  obtain ⟨od, J, _⟩ := J.look
  obtain ⟨od', J', _⟩ := J'.look
  obtain ⟨m, hF⟩ := I.fr
  obtain ⟨f, hs, hf, hw⟩ := met_run (Q := PySem.W.CmpBack (EP X pins σ Q)) c (hr.mono hk) rfl I hsp (fun v z H' s' I' rz q => by
    obtain ⟨p, rfl, q⟩ := q
    cases rz
    exact ⟨.ref p, H', I', rfl, q⟩)
  exact PySem.W.binop_K (op := .Add) hF I.ok.mod.kin J J'.type n.sf hs hf hw
end
end LX
namespace LX
open PySem PySem.Spec PyProof.Rows L2 C8 SX
section
variable {X : Cx} {K : PySem.W.Frag} {H : Hp}
def txs (xs : List (List Nat)) : List V := xs.map fun l => V.str (S l)
theorem txs_len (xs : List (List Nat)) : (txs xs).length = xs.length := List.length_map ..
theorem dp_strs : ∀ xs : List (List Nat), DpAll K H (txs xs) (xs.map fun l => PyData.str (S l))
  | [] => .nil
  | x :: xs => .cons (.str _) (dp_strs xs)
theorem eqv_strs : ∀ xs ys : List (List Nat), PyData.eqvAll (xs.map fun l => PyData.str (S l)) (ys.map fun l => PyData.str (S l)) = decide (xs = ys)
  | [], [] => rfl
  | [], _ :: _ => rfl
  | _ :: _, [] => rfl
  | x :: xs, y :: ys => by
    show (S x == S y && PyData.eqvAll (xs.map fun l => PyData.str (S l)) (ys.map fun l => PyData.str (S l))) = _
    rw [S_beq_eq, eqv_strs xs ys, ← Bool.decide_and]
    exact decide_eq_decide.mpr (by rw [List.cons.injEq])
def Small (xs : List (List Nat)) : Prop := ∀ l ∈ xs, ∀ c ∈ l, c < 1114112
theorem lay_strs : ∀ {xs : List (List Nat)}, Small xs → PyData.canLayAll0 (xs.map fun l => PyData.str (S l)) = true ∧ PyData.depthAll (xs.map fun l => PyData.str (S l)) ≤ 1
  | [], _ => ⟨rfl, Nat.zero_le _⟩
  | x :: xs, h => by
    obtain ⟨h1, h2⟩ := lay_strs (xs := xs) fun l hl => h l (List.mem_cons_of_mem _ hl)
    refine ⟨?_, ?_⟩
    · show (PyData.canLay0 (.str (S x)) && PyData.canLayAll0 (xs.map fun l => PyData.str (S l))) = true
      rw [h1, Bool.and_true]
      show (S x).cps.all (· < 0x110000) = true
      rw [← Array.all_toList, List.all_eq_true]
      exact fun c hc => decide_eq_true (h x List.mem_cons_self c hc)
    · show max (PyData.depth (.str (S x))) (PyData.depthAll (xs.map fun l => PyData.str (S l))) ≤ 1
      have e : PyData.depth (.str (S x)) ≤ 1 := Nat.zero_le _
      omega
theorem shaped_lst {xs : List (List Nat)} (h : Small xs) : SeqAt.shaped (.list (xs.map fun l => PyData.str (S l))) = true := by
  obtain ⟨h1, h2⟩ := lay_strs h
  show (PyData.canLayAll0 _ && decide (PyData.depthAll _ + 1 ≤ 64)) = true
  rw [h1, Bool.true_and, decide_eq_true_eq]; omega
theorem shaped_tup {xs : List (List Nat)} (h : Small xs) : SeqAt.shaped (.tuple (xs.map fun l => PyData.str (S l))) = true := by
  obtain ⟨h1, h2⟩ := lay_strs h
  show (PyData.canLayAll0 _ && decide (PyData.depthAll _ + 1 ≤ 64)) = true
  rw [h1, Bool.true_and, decide_eq_true_eq]; omega
def rSs (K : PySem.W.Frag) (f : Bool → Bool) : R2 := fun x y H Q => ∃ (a b : Addr) (xs ys : List (List Nat)), x = .ref a ∧ y = .ref b ∧ ((SqL K H a (txs xs) ∧ SqL K H b (txs ys)) ∨ (SqT K H a (txs xs) ∧ SqT K H b (txs ys))) ∧ Small xs ∧ Small ys ∧ Q (.bl (f (decide (xs = ys)))) H
theorem op_eqSs {k : Nat} (hr : Room k X.A) : OpR X (compareOp .Eq) (rSs X.K fun b => b) := by
  intro pins s σ H x y v u Q I rx ry h
  obtain ⟨a, b, xs, ys, rfl, rfl, hh, hx, hy, q⟩ := h
  rcases hh with ⟨h1, h2⟩ | ⟨h1, h2⟩
  · exact op_eqD hr.units pins s σ H _ _ v u Q I rx ry ⟨_, _, .lst h1 (dp_strs xs), .lst h2 (dp_strs ys), shaped_lst hx, shaped_lst hy, by rw [show PyData.eqv (.list (xs.map fun l => PyData.str (S l))) (.list (ys.map fun l => PyData.str (S l))) = _ from eqv_strs xs ys]; exact q⟩
  · exact op_eqD hr.units pins s σ H _ _ v u Q I rx ry ⟨_, _, .tup h1 (dp_strs xs), .tup h2 (dp_strs ys), shaped_tup hx, shaped_tup hy, by rw [show PyData.eqv (.tuple (xs.map fun l => PyData.str (S l))) (.tuple (ys.map fun l => PyData.str (S l))) = _ from eqv_strs xs ys]; exact q⟩
theorem op_neSs {k : Nat} (hr : Room k X.A) : OpR X (compareOp .NotEq) (rSs X.K fun b => !b) := by
  intro pins s σ H x y v u Q I rx ry h
  obtain ⟨a, b, xs, ys, rfl, rfl, hh, hx, hy, q⟩ := h
  rcases hh with ⟨h1, h2⟩ | ⟨h1, h2⟩
  · exact op_neD hr.units pins s σ H _ _ v u Q I rx ry ⟨_, _, .lst h1 (dp_strs xs), .lst h2 (dp_strs ys), shaped_lst hx, shaped_lst hy, by rw [show PyData.eqv (.list (xs.map fun l => PyData.str (S l))) (.list (ys.map fun l => PyData.str (S l))) = _ from eqv_strs xs ys]; exact q⟩
  · exact op_neD hr.units pins s σ H _ _ v u Q I rx ry ⟨_, _, .tup h1 (dp_strs xs), .tup h2 (dp_strs ys), shaped_tup hx, shaped_tup hy, by rw [show PyData.eqv (.tuple (xs.map fun l => PyData.str (S l))) (.tuple (ys.map fun l => PyData.str (S l))) = _ from eqv_strs xs ys]; exact q⟩
end
theorem occ_idx {l : List Nat} {c : Nat} (h : c ∈ l) : ∃ r, Builtin.Str.occurrences (S l) (S [c]) 0 (S l).length 1 = l.idxOf c :: r := by
  have hlt := List.idxOf_lt_length_of_mem h
  have hat : StrLaws.At (S l) (S [c]) (S l).length (l.idxOf c) := (StrLaws.subAt_one (S l) c _).mpr (by show l[l.idxOf c]? = some c; rw [List.getElem?_eq_getElem hlt, List.getElem_idxOf hlt])
  rcases StrLaws.occ_head (S l) (S [c]) 1 (Nat.le_refl _) with ⟨_, hn⟩ | ⟨i, r, e, ha, hn⟩
  · exact absurd hat (hn _)
  · refine ⟨r, ?_⟩
    have hi : l[i]? = some c := (StrLaws.subAt_one (S l) c i).mp ha
    have h1 : ¬ l.idxOf c < i := fun z => hn _ z hat
    have h2 : ¬ i < l.idxOf c := fun z => by
      obtain ⟨hl, e⟩ := List.getElem?_eq_some_iff.mp hi
      have q := List.not_of_lt_findIdx (p := (· == c)) (xs := l) z
      simp [e] at q
    have : i = l.idxOf c := by omega
    rw [e, this]
structure Keep (Rel : Hp → Hp → Prop) (H1 : Hp) : Prop where
  refl : Rel H1 H1
  trans : ∀ H H', Rel H1 H → Rel H H' → Rel H1 H'
  put : ∀ H D o, Rel H1 H → H1 D = none → Rel H1 (upd H D o)
  get : ∀ H H' D o, Rel H H' → H1 D = none → Rel H1 H → H D = some o → H' D = some o
theorem keep_same {H1 : Hp} : Keep Same H1 where
  refl := Same.refl _
  trans := fun _ _ a b => a.trans b
  put := fun H D o s hD b u e => by rw [upd_ne (ne_of_none e hD)]; exact s b u e
  get := fun H H' D o s _ _ e => s _ _ e
def Bk (Pb : HO → Prop) (b : Addr) (H H' : Hp) : Prop := (∀ a o, a ≠ b → H a = some o → H' a = some o) ∧ ∃ o, H' b = some o ∧ Pb o
theorem keep_bk {Pb : HO → Prop} {b : Addr} {H1 : Hp} (h : ∃ o, H1 b = some o ∧ Pb o) : Keep (Bk Pb b) H1 where
  refl := ⟨fun _ _ _ e => e, h⟩
  trans := fun _ _ p q => ⟨fun a o n e => q.1 a o n (p.1 a o n e), q.2⟩
  put := fun H D o s hD => by
    obtain ⟨o1, e1, _⟩ := h
    refine ⟨fun a u n e => by rw [upd_ne (ne_of_none e hD)]; exact s.1 a u n e, ?_⟩
    rw [upd_ne (ne_of_none e1 hD)]
    exact s.2
  get := fun H H' D o s hD _ e => by
    obtain ⟨o1, e1, _⟩ := h
    exact s.1 D o (ne_of_none e1 hD).symm e
theorem bk_same {Pb : HO → Prop} {b : Addr} {H H' : Hp} (s : Same H H') (h : ∃ o, H b = some o ∧ Pb o) : Bk Pb b H H' := ⟨fun a o _ e => s a o e, let ⟨o, e, p⟩ := h; ⟨o, s b o e, p⟩⟩
theorem sm_put {H H' : Hp} {p : Addr} {o : HO} (s : Same H H') (h : H p = none) : Same H (upd H' p o) := fun b u e => by rw [upd_ne (ne_of_none e h)]; exact s b u e
theorem sm_put' {H H' : Hp} {p : Addr} {o : HO} (s : Same H H') (h : H' p = none) : Same H (upd H' p o) := sm_put s (s.free h)
theorem sm_new {H : Hp} {p : Addr} {o : HO} (h : H p = none) : Same H (upd H p o) := sm_put (Same.refl H) h
theorem sm_seqT {K : PySem.W.Frag} {H H' : Hp} {a : Addr} {xs : List V} (e : Same H H') (h : SqT K H a xs) : SqT K H' a xs :=
  h.elim (fun h => .inl (h.elim (fun h => .inl (e _ _ h)) fun ⟨o, h⟩ => .inr ⟨o, e _ _ h⟩)) fun h => .inr h
theorem bk_seq {Pb : HO → Prop} {K : PySem.W.Frag} {b : Addr} {H H' : Hp} {a : Addr} {xs : List V} (e : Bk Pb b H H') (n : a ≠ b) (h : SqL K H a xs) : SqL K H' a xs := by
  rcases h with (h | ⟨o, h⟩) | h
  · exact .inl (.inl (e.1 _ _ n h))
  · exact .inl (.inr ⟨o, e.1 _ _ n h⟩)
  · exact .inr h
theorem lc_keep {Rel : Hp → Hp → Prop} {J : It} {n : Nat} {G : Hp → Prop} {Y : Nat → Hp → V → Hp → Prop} {H1 : Hp} (kp : Keep Rel H1) (w : Walk J n G Y) {g : TG} {te : TE} {vs : List Nat} {σ : L2.St} {D : Addr} {Qd : Hp → Prop} (hD : H1 D = none) (hn : n < sizeLine)
    (Good : Nat → V → Prop) (hG : ∀ H, Rel H1 H → G H)
    (hs : ∀ i x H H' (R : V → Hp → Prop), i < n → Rel H1 H → Y i H x H' → (∀ y H4, Rel H H4 → Good i y → R y H4) → g x (wipe σ vs) H' fun σ2 H2 => wipe σ2 vs = wipe σ vs ∧ te σ2 H2 R)
    (hd : ∀ ys H, ys.length = n → (∀ (j : Nat) y, ys[j]? = some y → Good j y) → Rel H1 H → H D = some (.lst ys) → Qd H) :
    ∃ W : Nat → Nat → Hp → Prop, (∃ m, W 0 m (upd H1 D (.lst []))) ∧ ∀ i m H, W i m H →
      (J.stop i H ∧ Qd H) ∨ (J.go i H ∧ ∃ Nx : Hp → Prop, (∀ H', Nx H' → ∃ m', m' < m ∧ W (i + 1) m' H') ∧ ∀ x H', J.yld i H x H' → g x (wipe σ vs) H' fun σ2 H2 => wipe σ2 vs = wipe σ vs ∧ tYes σ2 H2 fun b H3 =>
        if b = true then te σ2 H3 fun y H4 => ∃ acc, H4 D = some (.lst acc) ∧ acc.length < sizeLine ∧ Nx (upd H4 D (.lst (acc ++ [y]))) else Nx H3) := by
  refine lc_it w (fun i H => ∃ acc, acc.length = i ∧ H D = some (.lst acc) ∧ Rel H1 H ∧ ∀ (j : Nat) y, acc[j]? = some y → Good j y) ⟨[], rfl, upd_same, kp.put _ _ _ kp.refl hD, fun j y e => by simp at e⟩ (fun i H _ ⟨_, _, _, r, _⟩ => hG H r) (fun i x H H' hi ⟨acc, hl, hDa, r, hg⟩ hy => ?_) (fun H ⟨acc, hl, hDa, r, hg⟩ => hd acc H hl hg r hDa)
  refine hs i x H H' _ hi r hy fun y H4 r4 gy => ?_
  refine ⟨acc, kp.get _ _ _ _ r4 hD r hDa, by omega, acc ++ [y], by simp [hl], upd_same, kp.put _ _ _ (kp.trans _ _ r r4) hD, fun j z e => ?_⟩
  rcases Nat.lt_or_ge j acc.length with h | h
  · rw [List.getElem?_append_left h] at e
    exact hg j z e
  · rw [List.getElem?_append_right h] at e
    have hj : j - acc.length = 0 := by
      rcases Nat.lt_or_ge (j - acc.length) 1 with z | z
      · omega
      · rw [List.getElem?_eq_none (by simpa using z)] at e; cases e
    rw [hj] at e
    have : y = z := Option.some.inj e
    subst this
    have : j = i := by omega
    subst this
    exact gy
theorem list_of {α : Type} {ys : List α} {n : Nat} {f : Nat → α} (hl : ys.length = n) (h : ∀ (j : Nat) y, ys[j]? = some y → y = f j) : ys = (List.range n).map f := by
  apply List.ext_getElem
  · simp [hl]
  · intro i h1 h2
    rw [List.getElem_map, List.getElem_range]
    exact h i _ (List.getElem?_eq_getElem h1)
theorem list_map {α β : Type} {ys : List β} {xs : List α} {f : α → β} (hl : ys.length = xs.length) (h : ∀ (j : Nat) y x, ys[j]? = some y → xs[j]? = some x → y = f x) : ys = xs.map f := by
  apply List.ext_getElem
  · simp [hl]
  · intro i h1 h2
    rw [List.getElem_map]
    exact h i _ _ (List.getElem?_eq_getElem h1) (List.getElem?_eq_getElem (by omega))
end LX
namespace LX
open PySem PySem.Spec PyProof.Rows L2 C8 SX
section
variable {X : Cx}
theorem ixl (K : PySem.W.Frag) (h : X.K = K := by rfl) : IxR X (rIxL K) := by subst h; exact ix_list
theorem ixt (K : PySem.W.Frag) (h : X.K = K := by rfl) : IxR X (rIxT K) := by subst h; exact ix_tup
theorem lenK (K : PySem.W.Frag) (h : X.K = K := by rfl) : CallR X (.builtin "len") (fun xs H Q => ∃ p ys, xs = [.ref p] ∧ (SqL K H p ys ∨ SqT K H p ys) ∧ Q (.int ys.length) H) := by subst h; exact call_len_seq
theorem listK (K : PySem.W.Frag) (h : X.K = K := by rfl) : CallR X (.type "list") (fun xs H Q => ∃ p ys, xs = [.ref p] ∧ (SqL K H p ys ∨ SqT K H p ys) ∧ ∀ l, H l = none → Q (.ref l) (upd H l (.lst ys))) := by subst h; exact call_list_of
theorem tupleK (K : PySem.W.Frag) (h : X.K = K := by rfl) : CallR X (.type "tuple") (fun xs H Q => ∃ p ys, xs = [.ref p] ∧ ((SqL K H p ys ∧ ∀ l, H l = none → Q (.ref l) (upd H l (.tup ys))) ∨ (SqT K H p ys ∧ Q (.ref p) H))) := by subst h; exact call_tuple_of
theorem isiK (K : PySem.W.Frag) (h : X.K = K := by rfl) : CallR X (.builtin "isinstance") (rIsi K) := by subst h; exact call_isi
theorem isiTK (K : PySem.W.Frag) (h : X.K = K := by rfl) : CallR X (.builtin "isinstance") (rIsiT K) := by subst h; exact call_isiT
theorem fldK (K : PySem.W.Frag) {o : Expr} {f : Str} {pos : Pos} {ta : TE} (ha : PE X o ta) (hb : attributeBase o f X.env (eval o X.env) = eval o X.env) (h : X.K = K := by rfl) : PE X (.Attribute o f pos) (tFld K ta f) := by subst h; exact pe_fld ha hb
theorem tupK (K : PySem.W.Frag) {es : List Expr} {k : Nat} {pos : Pos} {t : TGs} (n : Nat) (h : PGs X es t) (hc : X.calm = true := by rfl)
    (hn : (assignEach es X.env).length = n := by rfl) (hst : (assignEach es X.env).findIdx? (·.1) = none := by rfl) (hK : X.K = K := by rfl) : PG X (.Tuple es k pos) (gTup K n t) := by subst hK; exact pg_tup hc h hn hst
theorem unlK (K : PySem.W.Frag) {es : List Expr} {k : Nat} {pos : Pos} {t : TGs} (n : Nat) (h : PGs X es t) (hc : X.calm = true := by rfl)
    (hn : (assignEach es X.env).length = n := by rfl) (hst : (assignEach es X.env).findIdx? (·.1) = none := by rfl) (hK : X.K = K := by rfl) : PG X (.Tuple es k pos) (gUnl K n t) := by subst hK; exact pg_unl hc h hn hst
end
def Sr.is (K : PySem.W.Frag) (H : Hp) (xs : List V) : Sr → Prop
  | .txt x => xs = x.cps.toList.map fun c => V.str ⟨#[c]⟩
  | .lst a => SqL K H a xs
  | .tup a => SqT K H a xs
theorem Sr.is_there {K : PySem.W.Frag} {H : Hp} {xs : List V} : ∀ {S : Sr}, S.is K H xs → S.there K H
  | .txt _, _ => trivial
  | .lst _, h => ⟨xs, h⟩
  | .tup _, h => ⟨xs, h⟩
theorem Sr.is_has {K : PySem.W.Frag} {H : Hp} {xs : List V} {i : Nat} (hi : i < xs.length) : ∀ {S : Sr}, S.is K H xs → S.has K i H
  | .txt x, h => by
    have h' : xs = x.cps.toList.map fun c => V.str ⟨#[c]⟩ := h
    rw [h', List.length_map] at hi
    show i < x.cps.size; simpa using hi
  | .lst _, h => ⟨xs, h, hi⟩
  | .tup _, h => ⟨xs, h, hi⟩
theorem Sr.is_upto {K : PySem.W.Frag} {H : Hp} {xs : List V} {i : Nat} (hi : i ≤ xs.length) : ∀ {S : Sr}, S.is K H xs → S.upto K i H
  | .txt x, h => by
    have h' : xs = x.cps.toList.map fun c => V.str ⟨#[c]⟩ := h
    rw [h', List.length_map] at hi
    show i ≤ x.cps.size; simpa using hi
  | .lst _, h => ⟨xs, h, hi⟩
  | .tup _, h => ⟨xs, h, hi⟩
theorem Sr.is_ends {K : PySem.W.Frag} {H : Hp} {xs : List V} {i : Nat} (hi : i = xs.length) : ∀ {S : Sr}, S.is K H xs → S.ends K i H
  | .txt x, h => by
    have h' : xs = x.cps.toList.map fun c => V.str ⟨#[c]⟩ := h
    rw [h', List.length_map] at hi
    show i = x.cps.size; simpa using hi
  | .lst _, h => ⟨xs, h, hi⟩
  | .tup _, h => ⟨xs, h, hi⟩
theorem Sr.is_val {K : PySem.W.Frag} {H : Hp} {xs : List V} {i : Nat} {v : V} : ∀ {S : Sr}, S.is K H xs → S.val K i H v → xs[i]? = some v
  | .txt x, h, ⟨c, e, ev⟩ => by
    have h' : xs = x.cps.toList.map fun c => V.str ⟨#[c]⟩ := h
    have e' : x.cps.toList[i]? = some c := by simpa using e
    rw [h', List.getElem?_map, e', ev]; rfl
  | .lst _, h, e => e xs h
  | .tup _, h, e => e xs h
theorem walk_zipX {K : PySem.W.Frag} {S1 S2 : Sr} {xs ys : List V} : Walk (ItzX K S1 S2) (min xs.length ys.length) (fun H => S1.is K H xs ∧ S2.is K H ys) (YPair (fun i => xs[i]?) (fun i => ys[i]?)) := by
  refine ⟨fun i _ hi q => ⟨Sr.is_has (by omega) q.1, Sr.is_has (by omega) q.2⟩, fun _ q => ⟨Sr.is_upto (by omega) q.1, Sr.is_upto (by omega) q.2, ?_⟩, fun i H v H' _ q y => ?_⟩
  · rcases Nat.le_total xs.length ys.length with h | h
    · exact .inl (Sr.is_ends (by omega) q.1)
    · exact .inr (Sr.is_ends (by omega) q.2)
  · obtain ⟨T, x, z, h1, h2, h3, h4, h5⟩ := y
    exact ⟨T, x, z, h1, h2, h3, Sr.is_val q.1 h4, Sr.is_val q.2 h5⟩
end LX
namespace LX
open PySem PySem.Spec PyProof.Rows L2 C8 SX
theorem lc_keepH {Rel : Hp → Hp → Prop} {J : It} {n : Nat} {G : Hp → Prop} {Y : Nat → Hp → V → Hp → Prop} {H1 : Hp} (kp : Keep Rel H1) (w : Walk J n G Y) {g : TG} {te : TE} {vs : List Nat} {σ : L2.St} {D : Addr} {Qd : Hp → Prop} (hD : H1 D = none) (hn : n < sizeLine)
    (Good : Nat → V → Hp → Prop) (hG : ∀ H, Rel H1 H → G H)
    (st : ∀ i y H H', Rel H1 H → Rel H H' → Good i y H → Good i y H') (pt : ∀ i y H acc o, Rel H1 H → H D = some (.lst acc) → Good i y H → Good i y (upd H D o))
    (hs : ∀ i x H H' acc (R : V → Hp → Prop), i < n → Rel H1 H → H D = some (.lst acc) → Y i H x H' → (∀ y H4, Rel H H4 → Good i y H4 → R y H4) → g x (wipe σ vs) H' fun σ2 H2 => wipe σ2 vs = wipe σ vs ∧ te σ2 H2 R)
    (hd : ∀ ys H, ys.length = n → (∀ (j : Nat) y, ys[j]? = some y → Good j y H) → Rel H1 H → H D = some (.lst ys) → Qd H) :
    ∃ W : Nat → Nat → Hp → Prop, (∃ m, W 0 m (upd H1 D (.lst []))) ∧ ∀ i m H, W i m H →
      (J.stop i H ∧ Qd H) ∨ (J.go i H ∧ ∃ Nx : Hp → Prop, (∀ H', Nx H' → ∃ m', m' < m ∧ W (i + 1) m' H') ∧ ∀ x H', J.yld i H x H' → g x (wipe σ vs) H' fun σ2 H2 => wipe σ2 vs = wipe σ vs ∧ tYes σ2 H2 fun b H3 =>
        if b = true then te σ2 H3 fun y H4 => ∃ acc, H4 D = some (.lst acc) ∧ acc.length < sizeLine ∧ Nx (upd H4 D (.lst (acc ++ [y]))) else Nx H3) := by
  refine lc_it w (fun i H => ∃ acc, acc.length = i ∧ H D = some (.lst acc) ∧ Rel H1 H ∧ ∀ (j : Nat) y, acc[j]? = some y → Good j y H) ⟨[], rfl, upd_same, kp.put _ _ _ kp.refl hD, fun j y e => by simp at e⟩ (fun i H _ ⟨_, _, _, r, _⟩ => hG H r) (fun i x H H' hi ⟨acc, hl, hDa, r, hg⟩ hy => ?_) (fun H ⟨acc, hl, hDa, r, hg⟩ => hd acc H hl hg r hDa)
  refine hs i x H H' acc _ hi r hDa hy fun y H4 r4 gy => ?_
  have hD4 := kp.get _ _ _ _ r4 hD r hDa
  have r5 := kp.trans _ _ r r4
  refine ⟨acc, hD4, by omega, acc ++ [y], by simp [hl], upd_same, kp.put _ _ _ r5 hD, fun j z e => ?_⟩
  rcases Nat.lt_or_ge j acc.length with h | h
  · rw [List.getElem?_append_left h] at e
    exact pt _ _ _ _ _ r5 hD4 (st _ _ _ _ r r4 (hg j z e))
  · rw [List.getElem?_append_right h] at e
    have hj : j - acc.length = 0 := by
      rcases Nat.lt_or_ge (j - acc.length) 1 with z | z
      · omega
      · rw [List.getElem?_eq_none (by simpa using z)] at e; cases e
    rw [hj] at e
    have : y = z := Option.some.inj e
    subst this
    have : j = i := by omega
    subst this
    exact pt _ _ _ _ _ r5 hD4 gy
end LX
namespace LX
open PySem PySem.Spec PyProof.Rows L2 C8 SX
def bx (x y z : Int) : HO := .lst [.int x, .int y, .int z]
def isBx (o : HO) : Prop := ∃ x y z : Int, o = bx x y z
def BoxAt (b : Addr) (H : Hp) : Prop := ∃ o, H b = some o ∧ isBx o
abbrev Bx (b : Addr) : Hp → Hp → Prop := Bk isBx b
theorem Bx.box {b : Addr} {H H' : Hp} (h : Bx b H H') : BoxAt b H' := h.2
theorem BoxAt.of {b : Addr} {H : Hp} {x y z : Int} (h : H b = some (bx x y z)) : BoxAt b H := ⟨_, h, _, _, _, rfl⟩
theorem Bx.mk {b : Addr} {H : Hp} (x y z : Int) : Bx b H (upd H b (bx x y z)) := ⟨fun a o n e => by rw [upd_ne n]; exact e, _, upd_same, _, _, _, rfl⟩
theorem Bx.trans {b : Addr} {H H1 H2 : Hp} (p : Bx b H H1) (q : Bx b H1 H2) : Bx b H H2 := ⟨fun a o n e => q.1 a o n (p.1 a o n e), q.2⟩
theorem box_ne {b p : Addr} {H : Hp} (h : BoxAt b H) (n : H p = none) : p ≠ b := by
  obtain ⟨o, e, _⟩ := h
  exact (ne_of_none e n).symm
theorem Bx.put {b p : Addr} {H H1 : Hp} {o : HO} (s : Bx b H H1) (h : BoxAt b H) (n : H p = none) : Bx b H (upd H1 p o) := (keep_bk h).put _ _ _ s n
theorem Bx.free {b p : Addr} {H H1 : Hp} (s : Bx b H H1) (n : H1 p = none) : H p = none := by
  cases q : H p with
  | none => rfl
  | some o =>
    by_cases e : p = b
    · subst e; obtain ⟨u, z, _⟩ := s.2; rw [n] at z; cases z
    · rw [s.1 p o e q] at n; cases n
theorem nil1 {σ : L2.St} {H : Hp} {R : List V → Hp → Prop} (h : R [] H) : tNil σ H R := h
theorem consc {v : V} {σ : L2.St} {H : Hp} {R : List V → Hp → Prop} (h : R [v] H) : tCons (tC v) tNil σ H R := h
theorem tc1 {v : V} {σ : L2.St} {H : Hp} {Q : VK} (h : Q v H) : tC v σ H Q := h
theorem ne_str {l r : Str} {H : Hp} {R : VK} (e : l = r) (h : R (.bl false) H) : rNe (.str l) (.str r) H R := ⟨rfl, by rw [decide_eq_true (by rw [e])]; exact h⟩
theorem bl_f {p : Bool → Prop} (h : p false) : ∃ k, V.bl false = V.bl k ∧ p k := ⟨false, rfl, h⟩
theorem if_f {p q : Prop} (h : q) : if false = true then p else q := h
theorem iteB {c : Bool} {A B : Prop} (hc : c = true) (h : A) : if c = true then A else B := by rw [if_pos hc]; exact h
theorem iteN {c : Bool} {A B : Prop} (hc : c = false) (h : B) : if c = true then A else B := by rw [hc]; exact iteF h
theorem perm_at {α : Type} : ∀ {xs : List α} {i : Nat} (h : i < xs.length), (xs[i] :: xs.eraseIdx i).Perm xs
  | x :: xs, 0, _ => List.Perm.refl _
  | x :: xs, i + 1, h => (List.Perm.swap x _ _).trans ((perm_at (xs := xs) (i := i) (Nat.lt_of_succ_lt_succ h)).cons x)
theorem eraseIdx_map' {α β : Type} (f : α → β) : ∀ (xs : List α) (i : Nat), (xs.map f).eraseIdx i = (xs.eraseIdx i).map f
  | [], i => by cases i <;> rfl
  | x :: xs, 0 => rfl
  | x :: xs, i + 1 => congrArg (f x :: ·) (eraseIdx_map' f xs i)
theorem perm_map_inv {α β : Type} {f : α → β} {g : β → α} (hg : ∀ a, g (f a) = a) {ys : List β} {xs : List α} (h : ys.Perm (xs.map f)) : ∃ zs : List α, ys = zs.map f ∧ zs.Perm xs := by
  refine ⟨ys.map g, ?_, ?_⟩
  · rw [List.map_map]
    have : ys.map (f ∘ g) = ys.map id := List.map_congr_left fun y hy => by
      obtain ⟨a, _, rfl⟩ := List.mem_map.mp (h.subset hy)
      show f (g (f a)) = f a
      rw [hg]
    rw [this, List.map_id]
  · have e := h.map g
    rw [List.map_map] at e
    have : xs.map (g ∘ f) = xs.map id := List.map_congr_left fun a _ => hg a
    rw [this, List.map_id] at e
    exact e
theorem sums_singles : ∀ l : List Nat, ((l.map fun c => S [c]).map (·.length)).sum = l.length
  | [] => rfl
  | c :: l => by simp only [List.map_cons, List.sum_cons, sums_singles l, List.length_cons]; rw [S_len]; simp; omega
theorem join_nil : ∀ ys : List (List Nat), TL.joinL [] ys = ys.flatten
  | [] => rfl
  | [y] => by simp [TL.joinL]
  | y :: z :: ys => by
    have ih := join_nil (z :: ys)
    simp [TL.joinL] at ih ⊢
    exact ih
theorem join_txs (ys : List (List Nat)) : Txt.join (S []) (ys.map S) = S ys.flatten := by rw [join_S, join_nil]
theorem flat_singles : ∀ l : List Nat, (l.map fun c => [c]).flatten = l
  | [] => rfl
  | c :: l => by rw [List.map_cons, List.flatten_cons, flat_singles l]; rfl
theorem join_singles (l : List Nat) : Txt.join (S []) (l.map fun c => S [c]) = S l := by
  have e1 : (l.map fun c => S [c]) = (l.map fun c => [c]).map S := by rw [List.map_map]; rfl
  rw [e1, join_txs, flat_singles]
theorem rising_singles : ∀ (ds : List Nat) (c : Nat), risingS (S [c]) (ds.map fun d => S [d]) = true → (∀ d ∈ ds, c ≤ d) ∧ ds.Pairwise (· ≤ ·)
  | [], _, _ => ⟨fun _ h => (nomatch h), .nil⟩
  | d :: ds, c, h => by
    have h' : (!ltCps [d] [c] && risingS (S [d]) (ds.map fun d => S [d])) = true := h
    rw [Bool.and_eq_true, Bool.not_eq_true'] at h'
    obtain ⟨h1, h2⟩ := h'
    obtain ⟨i1, i2⟩ := rising_singles ds d h2
    have hcd : c ≤ d := by
      rcases Nat.lt_or_ge d c with q | q
      · simp [ltCps, q] at h1
      · exact q
    refine ⟨fun e he => ?_, List.pairwise_cons.mpr ⟨i1, i2⟩⟩
    rcases List.mem_cons.mp he with rfl | he
    · exact hcd
    · exact Nat.le_trans hcd (i1 e he)
theorem sorted_singles {ds : List Nat} (h : sortedS (ds.map fun d => S [d]) = true) : ds.Pairwise (· ≤ ·) := by
  cases ds with
  | nil => exact .nil
  | cons d ds =>
    obtain ⟨i1, i2⟩ := rising_singles ds d h
    exact List.pairwise_cons.mpr ⟨i1, i2⟩
theorem strict_of {ds : List Nat} (h : ds.Pairwise (· ≤ ·)) (n : ds.Nodup) : ds.Pairwise (· < ·) :=
  (h.and n).imp fun ⟨a, b⟩ => Nat.lt_of_le_of_ne a b
open Classical in
theorem fun_of {α γ : Type} [DecidableEq α] [Inhabited γ] {sg : List α} (n : sg.Nodup) {P : Nat → α → γ → Prop} (h : ∀ j c, sg[j]? = some c → ∃ v, P j c v) : ∃ g : α → γ, ∀ j c, sg[j]? = some c → P j c (g c) := by
  refine ⟨fun c => if q : ∃ v, P (sg.idxOf c) c v then q.choose else default, fun j c e => ?_⟩
  have hj : j = sg.idxOf c := by
    obtain ⟨hl, e2⟩ := List.getElem?_eq_some_iff.mp e
    subst e2
    exact (n.idxOf_getElem j hl).symm
  have q : ∃ v, P (sg.idxOf c) c v := hj ▸ h j c e
  show P j c (dite _ _ _)
  rw [dif_pos q, hj]
  exact q.choose_spec
theorem paired_map {α β γ : Type} {R : α → β → Prop} {f : γ → α} {g : γ → β} : ∀ {l : List γ}, (∀ c ∈ l, R (f c) (g c)) → Paired R (l.map f) (l.map g)
  | [], _ => .nil
  | c :: l, h => .cons (h c List.mem_cons_self) (paired_map fun d hd => h d (List.mem_cons_of_mem _ hd))
abbrev tk (l : List Nat) : Key := Sum.inr (S l)
theorem tk_inj {l r : List Nat} (h : tk l = tk r) : l = r := by
  have e : S l = S r := Sum.inr.inj h
  have : (S l).cps.toList = (S r).cps.toList := by rw [e]
  simpa [S] using this
theorem valV_none {kvs : List (Key × V)} {k : Key} (h : ∀ p ∈ kvs, p.1 ≠ k) : valV kvs k = none := by
  unfold valV
  rw [List.find?_eq_none.mpr fun p hp => by simpa using h p hp]
  rfl
theorem valV_map' {α : Type} [DecidableEq α] {key : α → Key} (inj : ∀ a b, key a = key b → a = b) {f : α → V} : ∀ {l : List α} {c : α}, c ∈ l → valV (l.map fun a => (key a, f a)) (key c) = some (f c)
  | a :: l, c, h => by
    by_cases e : a = c
    · subst e; exact valV_pos rfl
    · rw [List.map_cons, valV_neg (fun q => e (inj _ _ q))]
      refine valV_map' inj ?_
      rcases List.mem_cons.mp h with q | q
      · exact absurd q.symm e
      · exact q
theorem merge_new : ∀ {more kvs : List (Key × V)}, (∀ p ∈ more, ∀ q ∈ kvs, q.1 ≠ p.1) → (more.map (·.1)).Nodup → mergeK kvs more = kvs ++ more
  | [], kvs, _, _ => by rw [List.append_nil]; rfl
  | p :: more, kvs, h, n => by
    have e : putK kvs p.1 p.2 = kvs ++ [p] := putK_new _ (valV_none fun q hq => h p List.mem_cons_self q hq)
    show mergeK (putK kvs p.1 p.2) more = _
    rw [List.map_cons, List.nodup_cons] at n
    rw [e, merge_new (fun r hr q hq => ?_) n.2, List.append_assoc]
    · rfl
    · rcases List.mem_append.mp hq with hq | hq
      · exact h r (List.mem_cons_of_mem _ hr) q hq
      · rw [List.mem_singleton] at hq
        subst hq
        exact fun e => n.1 (e ▸ List.mem_map_of_mem hr)
theorem merge_nil {more : List (Key × V)} (n : (more.map (·.1)).Nodup) : mergeK [] more = more := by
  rw [merge_new (fun _ _ q h => absurd h List.not_mem_nil) n]; rfl
theorem nodup_keys {α : Type} {key : α → Key} (inj : ∀ a b, key a = key b → a = b) {f : α → V} {l : List α} (n : l.Nodup) : ((l.map fun a => (key a, f a)).map (·.1)).Nodup := by
  rw [List.map_map]
  exact List.pairwise_map.mpr (n.imp fun h e => h (inj _ _ e))
theorem cut_to (ys : List (List Nat)) (k : Nat) : cutV (txs ys) none (some (k : Int)) = txs (ys.take k) := by
  unfold cutV
  rw [HT.sIx_none, HT.sIx_nat, List.drop_zero, Nat.sub_zero, txs_len]
  unfold txs
  rw [← List.map_take]
  rcases Nat.le_total k ys.length with h | h
  · rw [Nat.min_eq_left h]
  · rw [Nat.min_eq_right h, List.take_length, List.take_of_length_le h]
theorem tup_ne_box {H : Hp} {t b : Addr} {xs : List V} (hb : BoxAt b H) (ht : H t = some (.tup xs)) : t ≠ b := by
  obtain ⟨o, e, x, y, z, rfl⟩ := hb
  exact ne_of ht e (by intro h; cases h)
theorem dict_ne_box {H : Hp} {t b : Addr} {xs : List (Key × V)} (hb : BoxAt b H) (ht : H t = some (.dK xs)) : t ≠ b := by
  obtain ⟨o, e, x, y, z, rfl⟩ := hb
  exact ne_of ht e (by intro h; cases h)
theorem not_in_take {α : Type} [DecidableEq α] {ms : List α} {i : Nat} {m : α} (n : ms.Nodup) (h : ms[i]? = some m) : m ∉ ms.take i := fun hm => by
  obtain ⟨j, hj⟩ := List.getElem?_of_mem hm
  have hji : j < i := by
    have := (List.getElem?_eq_some_iff.mp hj).1
    rw [List.length_take] at this; omega
  rw [List.getElem?_take_of_lt hji] at hj
  have h1 := (List.getElem?_eq_some_iff.mp h)
  have h2 := (List.getElem?_eq_some_iff.mp hj)
  obtain ⟨a1, a2⟩ := h1
  obtain ⟨b1, b2⟩ := h2
  have e1 : ms.idxOf m = i := by subst a2; exact n.idxOf_getElem i a1
  have e2 : ms.idxOf m = j := by subst b2; exact n.idxOf_getElem j b1
  omega
theorem take_more {α : Type} {ms : List α} {i : Nat} {m : α} (h : ms[i]? = some m) : ms.take (i + 1) = ms.take i ++ [m] := by
  rw [List.take_succ, h]; rfl
theorem sz {n m : Nat} (h : n ≤ m) (hm : m ≤ 1000) : n ≤ sizeLine := Nat.le_trans (Nat.le_trans h hm) (show 1000 ≤ sizeLine by decide)
end LX
set_option maxHeartbeats 1000000
namespace Toy
open PySem L2 C8 SX LX
def top (i : Nat) : Stmt := PySem.Challenge.pw_allrows_k13_texts_of_readers.main.body.getD i (.Pass ⟨0, 0, 0, 0⟩)
structure BT (mg : Str → Option Value) : Prop where
  m_int : mg "int" = none
  m_len : mg "len" = none
  m_abs : mg "abs" = none
  m_str : mg "str" = none
  m_list : mg "list" = none
  m_tuple : mg "tuple" = none
  m_dict : mg "dict" = none
  m_set : mg "set" = none
  m_isinstance : mg "isinstance" = none
  m_all : mg "all" = none
  m_zip : mg "zip" = none
  m_enumerate : mg "enumerate" = none
  m_range : mg "range" = none
  m_max : mg "max" = none
  m_min : mg "min" = none
  m_sorted : mg "sorted" = none
  m_repr : mg "repr" = none
local macro_rules | `(tactic| walk_at "c") => `(tactic| refine And.intro (by first | (show (0 : Int) < _; omega) | exact Or.inr ⟨by decide, by decide⟩ | exact Or.inl ⟨by decide, by decide⟩ | (exact ⟨by omega, by omega⟩)) ?_)
local macro_rules | `(tactic| walk_at "s1") => `(tactic| first | refine ⟨_, rfl, ?_⟩ | refine ⟨_, _, rfl, rfl, ?_⟩ | refine .inl ⟨_, rfl, ?_⟩ | walk_at "c")
local macro_rules | `(tactic| walk_at "ix") => `(tactic| refine ⟨_, _, _, _, rfl, rfl, SqL.of (by first | assumption | exact upd_same), rfl, ?_⟩)
local macro_rules | `(tactic| walk_at "s") => `(tactic| repeat (walk_at "s1"))
section
variable {P : Program} {w : World} {K : PySem.W.Frag} {mg : Str → Option Value} {base : Heap}
abbrev s_take : Stmt := top 32
abbrev n_take : List Str := ["box", "many", "digit"]
theorem sc_take : FnScope n_take ["box", "many"] (fnScope s_take) := fnScope_by (by decide +kernel)
def spTake : Sp := fun vs H Q _ => ∃ (b : Addr) (n : Int), vs = [.ref b, .int n] ∧ BoxAt b H ∧ 0 < n ∧ n < 1073741824 ∧
  ∀ (d : Int) (H' : Hp), 0 ≤ d → d < n → Bx b H H' → Q (.int d) H'
theorem ok_take (T : BT mg) {f : Addr} {fd : FuncData} (F : Def K mg "_law_take" s_take f fd) (b : Binds K fd ["box", "many"] []) : Cal P w K mg base 1 "_law_take" spTake [] := by
  refine cal0 F b .nil sc_take (fun vs H Q E h => ?_) (fun cdv A outer s H vs Q E hr h => ?_)
  · obtain ⟨b, n, rfl, _⟩ := h; rfl
  · obtain ⟨b, n, rfl, ⟨o, hb, x, y, z, rfl⟩, n0, n1, k⟩ := h
    refine ⟨_, (pss_cons (ps_if (pt_cmpR op_gt (pe_ix (ixl K) (pv 0) pe_int (fun _ _ => rfl)) pe_int (nomark _)) 
        (pss_cons (ps_set (i := 2) sc_take.nd rfl (.inl rfl) (pe_op op_mod (pe_callTy call_int1 (by rfl) T.m_int PyProof.Rows.boot_int (pa_cons (pe_ix (ixl K) (pv 0) pe_int (fun _ _ => rfl)) pa_nil)) (pv 1)))
        (pss_cons (ps_asg (pe_op op_fdiv (pe_ix (ixl K) (pv 0) pe_int (fun _ _ => rfl)) (pv 1)) (pg_sub (pv 0) pe_int set_list))
        (pss_one (ps_ret (pv 2))
        )))
       pss_nil)
      (pss_cons (ps_asg (pe_op op_add (pe_ix (ixl K) (pv 0) pe_int (fun _ _ => rfl)) pe_int) (pg_sub (pv 0) pe_int set_list))
      (pss_cons (ps_asg (pe_op op_mod (pe_callTy call_int1 (by rfl) T.m_int PyProof.Rows.boot_int (pa_cons (pe_op op_add (pe_op op_mul (pe_ix (ixl K) (pv 0) pe_int (fun _ _ => rfl)) pe_int) (pe_op op_mul pe_int (pe_ix (ixl K) (pv 0) pe_int (fun _ _ => rfl)))) pa_nil)) pe_int) (pg_sub (pv 0) pe_int set_list))
      (pss_one (ps_ret (pe_op op_mod (pe_callTy call_int1 (by rfl) T.m_int PyProof.Rows.boot_int (pa_cons (pe_op op_fdiv (pe_ix (ixl K) (pv 0) pe_int (fun _ _ => rfl)) pe_int) pa_nil)) (pv 1)))
      )))), ?_⟩
    walk_at "s"
    walk_at "ix"
    walk_at "s"
    refine ite2 (fun _ => ?_) (fun _ => ?_)
    · walk_at "s"
      walk_at "ix"
      walk_at "s"
      walk_at "ix"
      walk_at "s"
      refine ⟨_, _, _, _, rfl, rfl, hb, rfl, ?_⟩
      walk_at "s"
      exact k _ _ (Int.emod_nonneg _ (by omega)) (Int.emod_lt_of_pos _ n0) (Bx.mk _ _ _)
    · walk_at "s"
      walk_at "ix"
      walk_at "s"
      refine ⟨_, _, _, _, rfl, rfl, hb, rfl, ?_⟩
      walk_at "s"
      walk_at "ix"
      walk_at "s"
      walk_at "ix"
      walk_at "s"
      refine ⟨_, _, _, _, rfl, rfl, upd_same, rfl, ?_⟩
      walk_at "s"
      walk_at "ix"
      walk_at "s"
      exact k _ _ (Int.emod_nonneg _ (by omega)) (Int.emod_lt_of_pos _ n0) ((Bx.mk (x := x) (y := y) (z := z + 1)).trans (Bx.mk _ _ _))
abbrev s_pick : Stmt := top 33
abbrev n_pick : List Str := ["box", "some"]
theorem sc_pick : FnScope n_pick ["box", "some"] (fnScope s_pick) := fnScope_by (by decide +kernel)
def spPick : PySem.W.Frag → Sp := fun K vs H Q _ => ∃ (b l : Addr) (xs : List V), vs = [.ref b, .ref l] ∧ BoxAt b H ∧ l ≠ b ∧ SqL K H l xs ∧ 0 < xs.length ∧ xs.length < 1000 ∧
  ∀ (v : V) (H' : Hp), v ∈ xs → Bx b H H' → Q v H'
theorem ok_pick (T : BT mg) (c_take : Cal P w K mg base 1 "_law_take" spTake []) {f : Addr} {fd : FuncData} (F : Def K mg "_law_pick" s_pick f fd) (b : Binds K fd ["box", "some"] []) : Cal P w K mg base 2 "_law_pick" (spPick K) [] := by
  refine cal0 F b .nil sc_pick (fun vs H Q E h => ?_) (fun cdv A outer s H vs Q E hr h => ?_)
  · obtain ⟨b, l, xs, rfl, _⟩ := h; rfl
  · obtain ⟨b, l, xs, rfl, hb, hlb, hl, h0, h1, k⟩ := h
    refine ⟨_, (pss_one (ps_ret (pe_ix (ixl K) (pv 1) (pe_c c_take hr (by first | decide | omega) (by rfl) (pa_cons (pv 0) (pa_cons (pe_callB (lenK K) (by rfl) T.m_len PySem.boot_len (pa_cons (pv 1) pa_nil)) pa_nil))) (fun _ _ => rfl)))
      ), ?_⟩
    walk_at "s"
    refine ⟨_, _, rfl, .inl hl, ?_⟩
    refine ⟨b, (xs.length : Int), rfl, hb, by omega, by omega, fun d H' d0 d1 hB => ?_⟩
    have hd : d.toNat < xs.length := by omega
    refine ⟨_, _, _, xs[d.toNat], rfl, rfl, bk_seq hB hlb hl, ?_, ?_⟩
    · exact at_of (by omega) (List.getElem?_eq_getElem hd)
    · exact k _ _ (List.getElem_mem hd) hB
abbrev s_mixed : Stmt := top 34
abbrev n_mixed : List Str := ["box", "some", "rest", "found"]
theorem sc_mixed : FnScope n_mixed ["box", "some"] (fnScope s_mixed) := fnScope_by (by decide +kernel)
def spMixed : PySem.W.Frag → Sp := fun K vs H Q _ => ∃ (b l : Addr) (xs : List (List Nat)), vs = [.ref b, .ref l] ∧ BoxAt b H ∧ l ≠ b ∧ SqL K H l (txs xs) ∧ Small xs ∧ xs.length < 1000 ∧
  ∀ (ys : List (List Nat)) (p : Addr) (H' : Hp), ys.Perm xs → H p = none → Bx b H H' → H' p = some (.lst (txs ys)) → Q (.ref p) H'
theorem ok_mixed (T : BT mg) (c_take : Cal P w K mg base 1 "_law_take" spTake []) {f : Addr} {fd : FuncData} (F : Def K mg "_law_mixed" s_mixed f fd) (b : Binds K fd ["box", "some"] []) : Cal P w K mg base 2 "_law_mixed" (spMixed K) [] := by
  refine cal0 F b .nil sc_mixed (fun vs H Q E h => ?_) (fun cdv A outer s H vs Q E hr h => ?_)
  · obtain ⟨b, l, xs, rfl, _⟩ := h; rfl
  · obtain ⟨b, l, xs, rfl, hb, hlb, hl, hs, h1, k⟩ := h
    refine ⟨_, (pss_cons (ps_par (i := 2) (j := 3) rfl sc_mixed.nd rfl rfl (by decide) rfl rfl (pa_cons (pe_callTy (listK K) (by rfl) T.m_list PyProof.Rows.boot_list (pa_cons (pv 1) pa_nil)) (pa_cons (pe_lst pa_nil) pa_nil)) rfl)
      (pss_cons (ps_while PassesOwn.never (pt_cmpR (op_neSs hr) (pv 2) (pe_lst pa_nil) (nomark _)) 
        (pss_one (ps_expr (pe_bm PySem.F.plainAttrs_list PySem.F.slot_list_append PySem.F.type_list_append mt_append (pv 3) (pa_cons (pe_bm PySem.F.plainAttrs_list PySem.F.slot_list_pop PySem.F.type_list_pop mt_popAt (pv 2) (pa_cons (pe_c c_take hr (by first | decide | omega) (by rfl) (pa_cons (pv 0) (pa_cons (pe_callB (lenK K) (by rfl) T.m_len PySem.boot_len (pa_cons (pv 2) pa_nil)) pa_nil))) pa_nil)) pa_nil)))
        ))
      (pss_one (ps_ret (pv 3))
      ))), ?_⟩
    walk_at "s"
    refine nil1 ⟨_, _, rfl, .inl hl, fun p hp => ?_⟩
    have hpb := box_ne hb hp
    refine ⟨Nat.zero_le _, fun q hq => ?_⟩
    have hqp : q ≠ p := fun e => by rw [e, upd_same] at hq; cases hq
    have hq0 : H q = none := by rw [upd_ne hqp] at hq; exact hq
    have hqb := box_ne hb hq0
    refine nil1 ⟨_, _, rfl, ?_⟩
    refine ⟨fun m σ H' => ∃ rs fs : List (List Nat), m = rs.length ∧ σ = [some (.ref b), some (.ref l), some (.ref p), some (.ref q)] ∧ (rs ++ fs).Perm xs ∧ H' p = some (.lst (txs rs)) ∧ H' q = some (.lst (txs fs)) ∧ Bx b H H',
      ⟨xs.length, xs, [], rfl, rfl, by rw [List.append_nil], by rw [upd_ne hqp.symm, upd_same], by rw [upd_same]; rfl, Bx.put (Bx.put (bk_same (Same.refl H) hb) hb hp) hb hq0⟩, ?_⟩
    rintro m σ H' ⟨rs, fs, rfl, rfl, hperm, hrp, hrq, hB⟩
    have hsm : Small rs := fun r hr => hs r (hperm.subset (List.mem_append_left _ hr))
    have hlen : rs.length + fs.length = xs.length := by rw [← List.length_append]; exact hperm.length_eq
    refine ⟨_, rfl, Nat.zero_le _, fun t ht => ?_⟩
    have hB' : Bx b H (upd H' t (.lst [])) := Bx.put hB hb (hB.free ht)
    have hpt : p ≠ t := ne_of_none hrp ht
    have hqt : q ≠ t := ne_of_none hrq ht
    refine ⟨p, t, rs, [], rfl, rfl, .inl ⟨SqL.of (by rw [upd_ne hpt]; exact hrp), SqL.of upd_same⟩, hsm, (fun _ h => nomatch h), ?_⟩
    by_cases e : rs = []
    · refine ⟨_, rfl, iteN (by simp [e]) ?_⟩
      subst e
      refine ⟨_, rfl, ?_⟩
      exact k fs q _ hperm hq0 hB' (by rw [upd_ne hqt]; exact hrq)
    · refine ⟨_, rfl, iteB (by simp [e]) ?_⟩
      have hpos : 0 < rs.length := List.length_pos_iff.mpr e
      have hp' : upd H' t (.lst []) p = some (.lst (txs rs)) := by rw [upd_ne hpt]; exact hrp
      have hq' : upd H' t (.lst []) q = some (.lst (txs fs)) := by rw [upd_ne hqt]; exact hrq
      refine ⟨fun σ' H' => ∃ rs' fs' : List (List Nat), rs.length - 1 = rs'.length ∧ σ' = [some (.ref b), some (.ref l), some (.ref p), some (.ref q)] ∧ (rs' ++ fs').Perm xs ∧ H' p = some (.lst (txs rs')) ∧ H' q = some (.lst (txs fs')) ∧ Bx b H H',
        fun σ' H' h => ⟨rs.length - 1, by omega, h⟩, ?_⟩
      refine ⟨_, rfl, .inl ⟨rfl, _, SqL.of hq'⟩, ?_⟩
      refine ⟨_, rfl, .inl ⟨rfl, _, SqL.of hp'⟩, ?_⟩
      refine ⟨_, rfl, _, rfl, p, _, rfl, .inl (SqL.of hp'), ?_⟩
      rw [txs_len]
      refine ⟨b, (rs.length : Int), rfl, hB'.2, by omega, by omega, fun d H2 d0 d1 hB2 => ?_⟩
      have hpb2 : p ≠ b := hpb
      have hp2 : H2 p = some (.lst (txs rs)) := hB2.1 _ _ hpb hp'
      have hq2 : H2 q = some (.lst (txs fs)) := hB2.1 _ _ hqb hq'
      have hd : d.toNat < rs.length := by omega
      refine ⟨p, txs rs, d, d.toNat, .str (S rs[d.toNat]), rfl, rfl, hp2, by omega, by omega, by rw [txs_len]; exact PySem.seqIndex_of d0 (by omega), ?_, ?_⟩
      · unfold txs; rw [List.getElem?_map, List.getElem?_eq_getElem hd]; rfl
      refine ⟨q, txs fs, _, rfl, rfl, by rw [upd_ne hqp]; exact hq2, by rw [txs_len]; exact small1000 (by omega), ?_⟩
      refine ⟨rs.eraseIdx d.toNat, fs ++ [rs[d.toNat]], ?_, rfl, ?_, ?_, ?_, ?_⟩
      · rw [List.length_eraseIdx]; simp [hd]
      · refine List.Perm.trans ?_ hperm
        refine List.Perm.trans ?_ (List.Perm.append_right fs (perm_at hd))
        rw [← List.append_assoc]
        exact List.perm_append_comm
      · rw [upd_ne hqp.symm, upd_same]; unfold txs; rw [eraseIdx_map']
      · rw [upd_same]; unfold txs; rw [List.map_append]; rfl
      · exact Bx.put (Bx.put (hB'.trans hB2) hb hp) hb hq0
theorem s_a : (Str.ofString "a") = S [97] := by decide +kernel
theorem s_b : (Str.ofString "b") = S [98] := by decide +kernel
theorem s_c : (Str.ofString "c") = S [99] := by decide +kernel
theorem s_x : (Str.ofString "x") = S [120] := by decide +kernel
theorem s_z : (Str.ofString "z") = S [122] := by decide +kernel
theorem s_nil : (Str.ofString "") = S [] := by decide +kernel
def Sg (sg : List Nat) : Prop := sg.Pairwise (· < ·) ∧ 1 ≤ sg.length ∧ sg.length ≤ 3 ∧ ∀ c ∈ sg, 97 ≤ c ∧ c ≤ 122
theorem txs_get {ims : List (List Nat)} {i : Nat} {x : V} (h : (txs ims)[i]? = some x) : ∃ l, ims[i]? = some l ∧ x = .str (S l) := by
  unfold txs at h
  rw [List.getElem?_map] at h
  cases q : ims[i]? with
  | none => rw [q] at h; cases h
  | some l => rw [q] at h; exact ⟨l, rfl, (Option.some.inj h).symm⟩
theorem txs_of {ims : List (List Nat)} {f : List Nat → List Nat} {ys : List V} (hl : ys.length = (txs ims).length) (h : ∀ (j : Nat) y, ys[j]? = some y → ∀ l, ims[j]? = some l → y = .str (S (f l))) : ys = txs (ims.map f) := by
  have e : txs (ims.map f) = ims.map fun l => V.str (S (f l)) := by unfold txs; rw [List.map_map]; rfl
  rw [e]
  exact list_map (by rw [hl, txs_len]) fun j y l e1 e2 => h j y e1 l e2
def ab5 : List (List Nat) := [[97], [98], [99], [120], [122]]
abbrev s_signs : Stmt := top 35
abbrev n_signs : List Str := ["box", "many", "sign"]
theorem sc_signs : FnScope n_signs ["box"] (fnScope s_signs) := fnScope_by (by decide +kernel)
def spSigns : Sp := fun vs H Q _ => ∃ (b : Addr), vs = [.ref b] ∧ BoxAt b H ∧ ∀ (sg : List Nat) (H' : Hp), Sg sg → 113 ∉ sg → Bx b H H' → Q (.str (S sg)) H'
theorem ok_signs (T : BT mg) (c_pick : Cal P w K mg base 2 "_law_pick" (spPick K) []) (c_mixed : Cal P w K mg base 2 "_law_mixed" (spMixed K) []) {f : Addr} {fd : FuncData} (F : Def K mg "_law_signs" s_signs f fd) (b : Binds K fd ["box"] []) : Cal P w K mg base 3 "_law_signs" spSigns [] := by
  refine cal0 F b .nil sc_signs (fun vs H Q E h => ?_) (fun cdv A outer s H vs Q E hr h => ?_)
  · obtain ⟨b, rfl, _⟩ := h; rfl
  · obtain ⟨b, rfl, hb, k⟩ := h
    refine ⟨_, (pss_cons (ps_set (i := 1) sc_signs.nd rfl (.inl rfl) (pe_c c_pick hr (by first | decide | omega) (by rfl) (pa_cons (pv 0) (pa_cons (pe_lst (pa_cons pe_int (pa_cons pe_int (pa_cons pe_int (pa_cons pe_int (pa_cons pe_int pa_nil)))))) pa_nil))))
      (pss_one (ps_ret (pe_join pe_str (pe_callB cr_sortedS (by rfl) T.m_sorted PyProof.Rows.boot_sorted (pa_cons (pe_lc (own := [("sign", 2)]) rfl sc_signs.nd (pi_list (pe_slice sl_list (pe_c c_mixed hr (by first | decide | omega) (by rfl) (pa_cons (pv 0) (pa_cons (pe_lst (pa_cons pe_str (pa_cons pe_str (pa_cons pe_str (pa_cons pe_str (pa_cons pe_str pa_nil)))))) pa_nil))) po_none (po_some (pv 1)))) (blkOk_by (N := n_signs) (sc := fnScope s_signs) (by decide +kernel)) (fun _ _ _ _ _ => (pg_name (i := 2) sc_signs.nd rfl (.inl rfl))) (fun _ _ _ _ _ => pts_nil) (fun _ _ _ _ _ => (pe_callTy SkE.call_str_str (by rfl) T.m_str PyProof.Rows.boot_str (pa_cons (pv 2) pa_nil)))) pa_nil))))
      )), ?_⟩
    walk_at "s"
    refine ⟨by decide, fun p hp => ?_⟩
    have hpb := box_ne hb hp
    have hB0 : Bx b H (upd H p (.lst [.int 2, .int 2, .int 2, .int 3, .int 1])) := Bx.put (bk_same (Same.refl H) hb) hb hp
    refine ⟨b, p, _, rfl, hB0.2, hpb, SqL.of upd_same, by decide, by decide, fun v H1 hv hB1 => ?_⟩
    obtain ⟨m, rfl, m1, m3⟩ : ∃ m : Nat, v = .int m ∧ 1 ≤ m ∧ m ≤ 3 := by
      have e : v = .int 2 ∨ v = .int 2 ∨ v = .int 2 ∨ v = .int 3 ∨ v = .int 1 := by simpa using hv
      rcases e with rfl | rfl | rfl | rfl | rfl
      · exact ⟨2, rfl, by decide, by decide⟩
      · exact ⟨2, rfl, by decide, by decide⟩
      · exact ⟨2, rfl, by decide, by decide⟩
      · exact ⟨3, rfl, by decide, by decide⟩
      · exact ⟨1, rfl, by decide, by decide⟩
    have hB2 := hB0.trans hB1
    walk_at "s"
    refine ⟨⟨_, rfl⟩, ?_⟩
    walk_at "s"
    refine ⟨by decide, fun q hq => ?_⟩
    have hqb := box_ne hB2.2 hq
    have hB3 : Bx b H (upd H1 q (.lst [.str (Str.ofString "a"), .str (Str.ofString "b"), .str (Str.ofString "c"), .str (Str.ofString "x"), .str (Str.ofString "z")])) := Bx.put hB2 hb (hB2.free hq)
    refine ⟨b, q, ab5, rfl, hB3.2, hqb, SqL.of (by rw [upd_same, s_a, s_b, s_c, s_x, s_z]; rfl), (by intro l hl c hc; simp [ab5] at hl; rcases hl with rfl | rfl | rfl | rfl | rfl <;> simp at hc <;> omega), by decide, fun ys r H2 hys hr hB4 hr2 => ?_⟩
    have hB5 := hB3.trans hB4
    obtain ⟨cs, rfl, hcs⟩ := perm_map_inv (f := fun c => [c]) (g := fun l => l.headD 0) (fun _ => rfl) (show ys.Perm ([97, 98, 99, 120, 122].map fun c => [c]) from hys)
    have hl5 : cs.length = 5 := hcs.length_eq
    have ecut : cutV (txs (cs.map fun c => [c])) none (some (m : Int)) = txs ((cs.take m).map fun c => [c]) := by
      unfold cutV
      rw [HT.sIx_none, HT.sIx_nat, txs_len, List.length_map, hl5, Nat.min_eq_left (by omega)]
      unfold txs
      rw [List.drop_zero, Nat.sub_zero, ← List.map_take, ← List.map_take]
    refine ⟨_, rfl, _, rfl, r, _, rfl, SqL.of hr2, fun q2 hq2 => ?_⟩
    rw [ecut]
    have hB6 : Bx b H (upd H2 q2 (.lst (txs ((cs.take m).map fun c => [c])))) := Bx.put hB5 hb (hB5.free hq2)
    have hlm : (cs.take m).length = m := by rw [List.length_take]; omega
    refine ⟨_, rfl, ⟨_, SqL.of upd_same⟩, fun D hD => lc_keep keep_same (walk_list (K := K) (a := q2) (xs := txs ((cs.take m).map fun c => [c]))) hD (by rw [txs_len, List.length_map, hlm]; exact small1000 (by omega)) (fun j y => ∀ l, ((cs.take m).map fun c => [c])[j]? = some l → y = .str (S l)) (fun H2 r1 => SqL.of (r1 _ _ upd_same)) (fun i x H3 H4 R hii r1 hy hR => ?_) (fun ys H3 hly hg r1 hDs => ?_)⟩
    · obtain ⟨rfl, e⟩ := hy
      obtain ⟨l, el, rfl⟩ := txs_get e
      refine ⟨rfl, ?_⟩
      refine ⟨_, rfl, _, rfl, ?_⟩
      exact hR _ _ (Same.refl _) fun l' h => by rw [el] at h; rw [Option.some.inj h]
    have eys := txs_of (f := id) hly hg
    rw [List.map_id] at eys
    subst eys
    refine ⟨D, (cs.take m).map fun c => S [c], rfl, SqL.of (by rw [hDs]; unfold txs; rw [List.map_map, List.map_map]; rfl), by rw [List.length_map, hlm]; omega, fun ss z hss hsrt hz => ?_⟩
    obtain ⟨ds, rfl, hds⟩ := perm_map_inv (f := fun c => S [c]) (g := fun x => x.cps.toList.headD 0) (fun _ => rfl) hss
    have hnd : ds.Nodup := hds.nodup_iff.mpr ((hcs.nodup_iff.mpr (by decide)).sublist (List.take_sublist _ _))
    have hdl : ds.length = m := by rw [hds.length_eq, hlm]
    refine ⟨_, z, ds.map fun c => S [c], rfl, rfl, .inl (SqL.of upd_same), ?_, ?_⟩
    · rw [sums_singles, s_nil, S_len]; simp only [List.length_nil, Nat.mul_zero, Nat.add_zero]; omega
    · show Q (.str (Txt.join (Str.ofString "") (ds.map fun c => S [c]))) _
      rw [s_nil, join_singles]
      refine k ds _ ⟨strict_of (sorted_singles hsrt) hnd, by omega, by omega, fun c hc => ?_⟩ (fun h => by have h5 := hcs.subset (List.mem_of_mem_take (hds.subset h)); simp at h5) (Bx.put (hB6.trans (bk_same r1 hB6.2)) hb ?_)
      · have h5 := hcs.subset (List.mem_of_mem_take (hds.subset hc))
        simp at h5; omega
      · exact (hB6.trans (bk_same r1 hB6.2)).free hz
end
end Toy
set_option maxHeartbeats 1000000
namespace Toy
open PySem L2 C8 SX LX
local macro_rules | `(tactic| walk_at "c") => `(tactic| refine And.intro (by first | (show (0 : Int) < _; omega) | exact Or.inr ⟨by decide, by decide⟩ | exact Or.inl ⟨by decide, by decide⟩ | (exact ⟨by omega, by omega⟩)) ?_)
local macro_rules | `(tactic| walk_at "s1") => `(tactic| first | refine ⟨_, rfl, ?_⟩ | refine ⟨_, _, rfl, rfl, ?_⟩ | refine .inl ⟨_, rfl, ?_⟩ | walk_at "c")
local macro_rules | `(tactic| walk_at "s") => `(tactic| repeat (walk_at "s1"))
section
variable {P : Program} {w : World} {K : PySem.W.Frag} {mg : Str → Option Value} {base : Heap}
theorem s_no : (Str.ofString "no") = S [110, 111] := by decide +kernel
theorem s_yes : (Str.ofString "yes") = S [121, 101, 115] := by decide +kernel
theorem s_ma : (Str.ofString "ma") = S [109, 97] := by decide +kernel
theorem s_mb : (Str.ofString "mb") = S [109, 98] := by decide +kernel
theorem s_even : (Str.ofString "even") = S [101, 118, 101, 110] := by decide +kernel
theorem s_seen : (Str.ofString "seen") = S [115, 101, 101, 110] := by decide +kernel
theorem s_zz : (Str.ofString "zz") = S [122, 122] := by decide +kernel
theorem s_ready : (Str.ofString "ready") = S [114, 101, 97, 100, 121] := by decide +kernel
def nm8 : List (List Nat) := [[110, 111], [121, 101, 115], [109, 97], [109, 98], [101, 118, 101, 110], [115, 101, 101, 110], [122, 122], [114, 101, 97, 100, 121]]
theorem nm8_small : Small nm8 := by
  intro l hl c hc
  simp [nm8] at hl
  rcases hl with rfl | rfl | rfl | rfl | rfl | rfl | rfl | rfl <;> simp at hc <;> omega
def Nm (m : List Nat) : Prop := 2 ≤ m.length ∧ m.length ≤ 6 ∧ (∀ c ∈ m, 97 ≤ c ∧ c ≤ 122)
def Mks (ms : List (List Nat)) (most : Nat) : Prop := ms.Nodup ∧ 1 ≤ ms.length ∧ ms.length ≤ most ∧ ∀ m ∈ ms, m ∈ nm8
structure Mch (sg : List Nat) (ms : List (List Nat)) (f : List Nat) (tg : List Nat → Nat → List Nat) (most : Nat) : Prop where
  hsg : Sg sg
  hms : Mks ms most
  hf : f ∈ ms
  htg : ∀ m ∈ ms, ∀ c ∈ sg, tg m c ∈ ms
theorem k_signs : (Sum.inr (Str.ofString "signs") : Key) = tk [115, 105, 103, 110, 115] := by rw [show (Str.ofString "signs") = S [115, 105, 103, 110, 115] from by decide +kernel]
theorem k_marks : (Sum.inr (Str.ofString "marks") : Key) = tk [109, 97, 114, 107, 115] := by rw [show (Str.ofString "marks") = S [109, 97, 114, 107, 115] from by decide +kernel]
theorem k_first : (Sum.inr (Str.ofString "first") : Key) = tk [102, 105, 114, 115, 116] := by rw [show (Str.ofString "first") = S [102, 105, 114, 115, 116] from by decide +kernel]
theorem k_leads : (Sum.inr (Str.ofString "leads") : Key) = tk [108, 101, 97, 100, 115] := by rw [show (Str.ofString "leads") = S [108, 101, 97, 100, 115] from by decide +kernel]
def tdK (sg : List Nat) (pm : Addr) (f : List Nat) (pl : Addr) : List (Key × V) := [(.inr "signs", .str (S sg)), (.inr "marks", .ref pm), (.inr "first", .str (S f)), (.inr "leads", .ref pl)]
def leK (ms : List (List Nat)) (ad : List Nat → Addr) : List (Key × V) := ms.map fun m => (tk m, .ref (ad m))
def laK (sg : List Nat) (t : Nat → List Nat) : List (Key × V) := sg.map fun c => (tk [c], .str (S (t c)))
structure Told (H : Hp) (a : Addr) (sg : List Nat) (ms : List (List Nat)) (f : List Nat) (tg : List Nat → Nat → List Nat) (pm pl : Addr) (ad : List Nat → Addr) : Prop where
  ha : H a = some (.dK (tdK sg pm f pl))
  hpm : H pm = some (.lst (txs ms))
  hpl : H pl = some (.dK (leK ms ad))
  had : ∀ m ∈ ms, H (ad m) = some (.dK (laK sg (tg m)))
abbrev s_drawn : Stmt := top 36
abbrev n_drawn : List Str := ["box", "signs", "most", "marks", "leads", "mark", "sign"]
theorem sc_drawn : FnScope n_drawn ["box", "signs", "most"] (fnScope s_drawn) := fnScope_by (by decide +kernel)
def spDrawn : Sp := fun vs H Q _ => ∃ (b : Addr) (sg : List Nat) (most : Nat), vs = [.ref b, .str (S sg), .int most] ∧ Sg sg ∧ 1 ≤ most ∧ most ≤ 7 ∧ BoxAt b H ∧
  ∀ (a : Addr) (ms : List (List Nat)) (f : List Nat) (tg : List Nat → Nat → List Nat) (pm pl : Addr) (ad : List Nat → Addr) (H' : Hp), Mch sg ms f tg most → Bx b H H' → H a = none → H pm = none → H pl = none → (∀ m ∈ ms, H (ad m) = none) → Told H' a sg ms f tg pm pl ad → Q (.ref a) H'
theorem ok_drawn (T : BT mg) (c_take : Cal P w K mg base 1 "_law_take" spTake []) (c_pick : Cal P w K mg base 2 "_law_pick" (spPick K) []) (c_mixed : Cal P w K mg base 2 "_law_mixed" (spMixed K) []) {f : Addr} {fd : FuncData} (F : Def K mg "_law_drawn" s_drawn f fd) (b : Binds K fd ["box", "signs", "most"] []) : Cal P w K mg base 3 "_law_drawn" spDrawn [] := by
  refine cal0 F b .nil sc_drawn (fun vs H Q E h => ?_) (fun cdv A outer s H vs Q E hr h => ?_)
  · obtain ⟨b, sg, most, rfl, _⟩ := h; rfl
  · obtain ⟨b, sg, most, rfl, hsg, hm1, hm7, hb, k⟩ := h
    refine ⟨_, (pss_cons (ps_set (i := 3) sc_drawn.nd rfl (.inr rfl) (pe_slice sl_list (pe_c c_mixed hr (by first | decide | omega) (by rfl) (pa_cons (pv 0) (pa_cons (pe_lst (pa_cons pe_str (pa_cons pe_str (pa_cons pe_str (pa_cons pe_str (pa_cons pe_str (pa_cons pe_str (pa_cons pe_str (pa_cons pe_str pa_nil))))))))) pa_nil))) po_none (po_some (pe_op op_add pe_int (pe_c c_take hr (by first | decide | omega) (by rfl) (pa_cons (pv 0) (pa_cons (pv 2) pa_nil)))))))
      (pss_cons (ps_set (i := 4) sc_drawn.nd rfl (.inl rfl) pe_dnewK)
      (pss_cons (ps_for PassesOwn.never rfl (pi_list (pv 3)) (pg_name (i := 5) sc_drawn.nd rfl (.inl rfl)) 
        (pss_one (ps_dput (hu_of hr) (pv 4) (pv 5) (pe_callTy (call_dictP rfl) (by rfl) T.m_dict PyProof.Rows.boot_dict (pa_cons (pe_lc (own := [("sign", 6)]) rfl sc_drawn.nd (pi_str (pv 1)) (blkOk_by (N := n_drawn) (sc := fnScope s_drawn) (by decide +kernel)) (fun _ _ _ _ _ => (pg_name (i := 6) sc_drawn.nd rfl (.inl rfl))) (fun _ _ _ _ _ => pts_nil) (fun _ _ _ _ _ => (pe_tup (pa_cons (pv 6) (pa_cons (pe_c c_pick hr (by first | decide | omega) (by rfl) (pa_cons (pv 0) (pa_cons (pv 3) pa_nil))) pa_nil))))) pa_nil)) rfl)
        ))
      (pss_one (ps_ret (pe_disp (pps_cons pe_str (pv 1) (pps_cons pe_str (pv 3) (pps_cons pe_str (pe_c c_pick hr (by first | decide | omega) (by rfl) (pa_cons (pv 0) (pa_cons (pv 3) pa_nil))) (pps_cons pe_str (pv 4) pps_nil)))) rfl rfl (by decide) (by decide)))
      )))), ?_⟩
    walk_at "s"
    refine ⟨by decide, fun q hq => ?_⟩
    have hqb := box_ne hb hq
    have hB0 : Bx b H (upd H q (.lst [.str "no", .str "yes", .str "ma", .str "mb", .str "even", .str "seen", .str "zz", .str "ready"])) := Bx.put (bk_same (Same.refl H) hb) hb hq
    refine ⟨b, q, nm8, rfl, hB0.2, hqb, SqL.of (by rw [upd_same, s_no, s_yes, s_ma, s_mb, s_even, s_seen, s_zz, s_ready]; rfl), nm8_small, by decide, fun ys r H2 hys hr hB1 hr2 => ?_⟩
    have hB2 := hB0.trans hB1
    have hrb : r ≠ b := box_ne hB0.2 hr
    refine ⟨_, rfl, _, rfl, b, (most : Int), rfl, hB2.2, by omega, by omega, fun d H3 d0 d1 hB3 => ?_⟩
    obtain ⟨n, rfl⟩ := Int.eq_ofNat_of_zero_le d0
    have hr3 := hB3.1 _ _ hrb hr2
    refine ⟨_, _, rfl, rfl, _, rfl, r, _, rfl, SqL.of hr3, fun pm hpm => ?_⟩
    rw [show (1 : Int) + (n : Int) = ((1 + n : Nat) : Int) by omega, cut_to]
    have hB4 := hB2.trans hB3
    have hB5 : Bx b H (upd H3 pm (.lst (txs (ys.take (1 + n))))) := Bx.put hB4 hb (hB4.free hpm)
    have hpmb : pm ≠ b := box_ne hB4.2 hpm
    have hpm0 : H pm = none := hB4.free hpm
    have hms : Mks (ys.take (1 + n)) most := by
      have hl8 : ys.length = 8 := hys.length_eq
      refine ⟨(hys.nodup_iff.mpr (by decide)).sublist (List.take_sublist _ _), ?_, ?_, fun m hm => hys.subset (List.mem_of_mem_take hm)⟩
      · rw [List.length_take]; omega
      · rw [List.length_take]; omega
    generalize ys.take (1 + n) = ms at hms hB5 ⊢
    refine fun pl hpl => ?_
    have hB6 : Bx b H (upd (upd H3 pm (.lst (txs ms))) pl (.dK [])) := Bx.put hB5 hb (hB5.free hpl)
    have hplb : pl ≠ b := box_ne hB5.2 hpl
    have hpl0 : H pl = none := hB5.free hpl
    have hpmpl : pm ≠ pl := fun e => by rw [← e, upd_same] at hpl; cases hpl
    refine ⟨_, rfl, _, rfl, ⟨_, SqL.of (by rw [upd_ne hpmpl, upd_same])⟩, for_it (walk_list (K := K) (a := pm) (xs := txs ms)) (fun i σ H' => ∃ (ad : List Nat → Addr) (tg : List Nat → Nat → List Nat) (s5 s6 : Option V), σ = [some (.ref b), some (.str (S sg)), some (.int most), some (.ref pm), some (.ref pl), s5, s6] ∧ Bx b H H' ∧ H' pm = some (.lst (txs ms)) ∧
        H' pl = some (.dK (leK (ms.take i) ad)) ∧ (∀ m ∈ ms.take i, H (ad m) = none ∧ ad m ≠ pl ∧ H' (ad m) = some (.dK (laK sg (tg m)))) ∧ ∀ m ∈ ms.take i, ∀ c ∈ sg, tg m c ∈ ms)
      ⟨fun _ => 0, fun _ _ => [], _, _, rfl, hB6, by rw [upd_ne hpmpl, upd_same], upd_same, (fun _ h => nomatch h), (fun _ h => nomatch h)⟩ (fun i σ H' _ ⟨_, _, _, _, _, _, h, _⟩ => SqL.of h) ?_ ?_⟩
    · rintro i x σ H4 H4' hi ⟨ad, tg, s5, s6, rfl, hB7, hpm7, hpl7, had, htg⟩ ⟨rfl, hx⟩
      obtain ⟨m, hm, rfl⟩ := txs_get hx
      have hmm : m ∈ ms := List.mem_of_getElem? hm
      refine ⟨_, rfl, _, rfl, fun D hD => ?_⟩
      refine lc_keepH (keep_bk hB7.2) walk_str hD (by show sg.length < sizeLine; exact small1000 (by have := hsg.2.2.1; omega)) (fun j y H => ∃ (t : Addr) (c : Nat) (v : List Nat), y = .ref t ∧ sg[j]? = some c ∧ v ∈ ms ∧ H t = some (.tup [.str (S [c]), .str (S v)])) (fun _ _ => trivial)
        (fun _ _ H5 H6 r r2 ⟨t, c, v, e, hc, hv, ht⟩ => ⟨t, c, v, e, hc, hv, r2.1 _ _ (tup_ne_box r.2 ht) ht⟩) (fun _ _ H5 acc o _ hDa ⟨t, c, v, e, hc, hv, ht⟩ => ⟨t, c, v, e, hc, hv, by rw [upd_ne (ne_of ht hDa (by intro h; cases h))]; exact ht⟩) (fun j x H5 H6 acc R hj r hDa hy hR => ?_) (fun ys H5 hly hg r hDs => ?_)
      · obtain ⟨rfl, c, hc, rfl⟩ := hy
        have hc' : sg[j]? = some c := by simpa [S] using hc
        refine ⟨rfl, ?_⟩
        have hpm6 := r.1 _ _ hpmb hpm7
        refine ⟨_, rfl, _, rfl, _, rfl, b, pm, txs ms, rfl, r.2, hpmb, SqL.of hpm6, by rw [txs_len]; exact hms.2.1, by rw [txs_len]; have := hms.2.2.1; omega, fun v H7 hv hB8 => ?_⟩
        unfold txs at hv
        obtain ⟨l, hl, rfl⟩ := List.mem_map.mp hv
        refine ⟨(by show 2 ≤ sizeLine; decide), fun t ht => ?_⟩
        exact hR _ _ (Bx.put hB8 r.2 (hB8.free ht)) ⟨t, c, l, rfl, hc', hl, upd_same⟩
      have hly2 : ys.length = sg.length := hly.trans (by simp [S])
      have h2 : ∀ (j : Nat) (c : Nat), sg[j]? = some c → ∃ v : Addr × List Nat, ys[j]? = some (.ref v.1) ∧ v.2 ∈ ms ∧ H5 v.1 = some (.tup [.str (S [c]), .str (S v.2)]) := fun j c hc => by
        have hj : j < ys.length := by rw [hly2]; exact (List.getElem?_eq_some_iff.mp hc).1
        obtain ⟨t, c', v, e, hc', hv, ht⟩ := hg j _ (List.getElem?_eq_getElem hj)
        rw [hc] at hc'
        cases hc'
        exact ⟨(t, v), by rw [List.getElem?_eq_getElem hj, e], hv, ht⟩
      have hsn : sg.Nodup := hsg.1.imp fun h => by omega
      obtain ⟨g, hg2⟩ := fun_of hsn h2
      have eys : ys = (sg.map fun c => (g c).1).map V.ref := by
        rw [List.map_map]
        exact list_map hly2 fun j y c e1 e2 => by have := (hg2 j c e2).1; rw [e1] at this; exact Option.some.inj this
      refine ⟨D, sg.map fun c => (g c).1, laK sg fun c => (g c).2, rfl, SqL.of (by rw [← eys]; exact hDs), paired_map fun c hc => ?_, fun dd hdd => ?_⟩
      · obtain ⟨j, hj⟩ := List.getElem?_of_mem hc
        exact .inl (.inl (hg2 j c hj).2.2)
      have emg : mergeK [] (laK sg fun c => (g c).2) = laK sg fun c => (g c).2 := merge_nil (nodup_keys (key := fun c => tk [c]) (fun a b h => (List.cons.inj (tk_inj h)).1) hsn)
      rw [emg]
      have hpl8 : upd H5 dd (.dK (laK sg fun c => (g c).2)) pl = some (.dK (leK (ms.take i) ad)) := by
        have := r.1 _ _ hplb hpl7
        rw [upd_ne (ne_of_none this hdd)]; exact this
      have hB8 : Bx b H H5 := hB7.trans r
      have hB9 : Bx b H (upd H5 dd (.dK (laK sg fun c => (g c).2))) := Bx.put hB8 hb (hB8.free hdd)
      refine ⟨_, rfl, _, rfl, pl, _, rfl, DPut.k (k := tk m) hpl8 ?_, ?_⟩
      · unfold leK; rw [List.length_map, List.length_take]; exact small1000 (by have := hms.2.2.1; omega)
      have hnew : putK (leK (ms.take i) ad) (tk m) (.ref dd) = leK (ms.take i) ad ++ [(tk m, .ref dd)] := putK_new _ (valV_none fun p hp => by
        unfold leK at hp
        obtain ⟨m', hm', rfl⟩ := List.mem_map.mp hp
        exact fun e => not_in_take hms.1 hm (tk_inj e ▸ hm'))
      rw [hnew]
      have hddpl : dd ≠ pl := fun e => by rw [e] at hdd; have := r.1 _ _ hplb hpl7; rw [hdd] at this; cases this
      have hne : ∀ m' ∈ ms.take i, m' ≠ m := fun m' h e => not_in_take hms.1 hm (e ▸ h)
      refine ⟨fun x => if x = m then dd else ad x, fun x => if x = m then (fun c => (g c).2) else tg x, _, _, rfl, ?_, ?_, ?_, ?_, ?_⟩
      · exact Bx.put hB9 hb hpl0
      · have := r.1 _ _ hpmb hpm7
        rw [upd_ne hpmpl, upd_ne (ne_of_none this hdd)]; exact this
      · rw [upd_same, take_more hm]
        have : leK (ms.take i ++ [m]) (fun x => if x = m then dd else ad x) = leK (ms.take i) ad ++ [(tk m, .ref dd)] := by
          unfold leK
          rw [List.map_append]
          congr 1
          · exact List.map_congr_left fun m' h => by dsimp only; rw [if_neg (hne m' h)]
          · show [(tk m, V.ref (if m = m then dd else ad m))] = _
            rw [if_pos rfl]
        rw [this]
      · intro m' hm'
        rw [take_more hm] at hm'
        rcases List.mem_append.mp hm' with h | h
        · obtain ⟨a1, a2, a3⟩ := had m' h
          have a4 := r.1 _ _ (dict_ne_box hB7.2 a3) a3
          dsimp only
          rw [if_neg (hne m' h), if_neg (hne m' h)]
          exact ⟨a1, a2, by rw [upd_ne a2, upd_ne (ne_of_none a4 hdd)]; exact a4⟩
        · rw [List.mem_singleton] at h
          subst h
          dsimp only
          rw [if_pos rfl, if_pos rfl]
          exact ⟨hB8.free hdd, hddpl, by rw [upd_ne hddpl, upd_same]⟩
      · intro m' hm' c hc
        rw [take_more hm] at hm'
        rcases List.mem_append.mp hm' with h | h
        · dsimp only
          rw [if_neg (hne m' h)]
          exact htg m' h c hc
        · rw [List.mem_singleton] at h
          subst h
          dsimp only
          rw [if_pos rfl]
          obtain ⟨j, hj⟩ := List.getElem?_of_mem hc
          exact (hg2 j c hj).2.1
    · rintro σ H4 ⟨ad, tg, s5, s6, rfl, hB7, hpm7, hpl7, had, htg⟩
      rw [txs_len, List.take_length] at hpl7 had htg
      refine fun a ha => ?_
      have hB8 : Bx b H (upd H4 a (.dK [])) := Bx.put hB7 hb (hB7.free ha)
      have hapm : pm ≠ a := ne_of_none hpm7 ha
      have hapl : pl ≠ a := ne_of_none hpl7 ha
      have hab : a ≠ b := box_ne hB7.2 ha
      refine ⟨_, rfl, _, rfl, _, rfl, _, rfl, b, pm, txs ms, rfl, hB8.2, hpmb, SqL.of (by rw [upd_ne hapm]; exact hpm7), by rw [txs_len]; exact hms.2.1, by rw [txs_len]; have := hms.2.2.1; omega, fun v H5 hv hB9 => ?_⟩
      unfold txs at hv
      obtain ⟨l, hl, rfl⟩ := List.mem_map.mp hv
      refine ⟨_, rfl, hB9.1 _ _ hab upd_same, tdK sg pm l pl, rfl, (by show 4 ≤ 15; decide), ?_⟩
      rw [merge_nil (by show ([.inr "signs", .inr "marks", .inr "first", .inr "leads"] : List Key).Nodup; decide +kernel)]
      refine k a ms l tg pm pl ad _ ⟨hsg, hms, hl, htg⟩ (Bx.put (hB8.trans hB9) hb (hB7.free ha)) (hB7.free ha) hpm0 hpl0 (fun m hm => (had m hm).1) ⟨upd_same, ?_, ?_, fun m hm => ?_⟩
      · rw [upd_ne hapm]; exact hB9.1 _ _ hpmb (by rw [upd_ne hapm]; exact hpm7)
      · rw [upd_ne hapl]; exact hB9.1 _ _ hplb (by rw [upd_ne hapl]; exact hpl7)
      · obtain ⟨a1, a2, a3⟩ := had m hm
        have hn : ad m ≠ a := ne_of_none a3 ha
        rw [upd_ne hn]
        exact hB9.1 _ _ (dict_ne_box hB7.2 a3) (by rw [upd_ne hn]; exact a3)
end
end Toy
set_option maxHeartbeats 1000000
namespace Toy
open PySem L2 C8 SX LX
local macro_rules | `(tactic| walk_at "c") => `(tactic| refine And.intro (by first | (show (0 : Int) < _; omega) | exact Or.inr ⟨by decide, by decide⟩ | exact Or.inl ⟨by decide, by decide⟩ | (exact ⟨by omega, by omega⟩)) ?_)
local macro_rules | `(tactic| walk_at "s1") => `(tactic| first | refine ⟨_, rfl, ?_⟩ | refine ⟨_, _, rfl, rfl, ?_⟩ | refine .inl ⟨_, rfl, ?_⟩ | walk_at "c")
local macro_rules | `(tactic| walk_at "s") => `(tactic| repeat (walk_at "s1"))
section
variable {P : Program} {w : World} {K : PySem.W.Frag} {mg : Str → Option Value} {base : Heap}
section
variable {H : Hp} {a : Addr} {sg : List Nat} {ms : List (List Nat)} {f : List Nat} {tg : List Nat → Nat → List Nat} {pm pl : Addr} {ad : List Nat → Addr}
theorem Told.signs (t : Told H a sg ms f tg pm pl ad) : DGet H a (.str (Str.ofString "signs")) (some (.str (S sg))) := .inl ⟨_, .inr "signs", .inl t.ha, rfl, by unfold tdK; rw [valV_pos rfl]⟩
theorem ne_keys {x y : Str} (h : ¬ x = y) : ¬ (Sum.inr x : Key) = Sum.inr y := fun e => h (Sum.inr.inj e)
theorem Told.marks (t : Told H a sg ms f tg pm pl ad) : DGet H a (.str (Str.ofString "marks")) (some (.ref pm)) := .inl ⟨_, .inr "marks", .inl t.ha, rfl, by
  unfold tdK; rw [valV_neg (ne_keys (by decide +kernel)), valV_pos rfl]⟩
theorem Told.first (t : Told H a sg ms f tg pm pl ad) : DGet H a (.str (Str.ofString "first")) (some (.str (S f))) := .inl ⟨_, .inr "first", .inl t.ha, rfl, by
  unfold tdK; rw [valV_neg (ne_keys (by decide +kernel)), valV_neg (ne_keys (by decide +kernel)), valV_pos rfl]⟩
theorem Told.leads (t : Told H a sg ms f tg pm pl ad) : DGet H a (.str (Str.ofString "leads")) (some (.ref pl)) := .inl ⟨_, .inr "leads", .inl t.ha, rfl, by
  unfold tdK; rw [valV_neg (ne_keys (by decide +kernel)), valV_neg (ne_keys (by decide +kernel)), valV_neg (ne_keys (by decide +kernel)), valV_pos rfl]⟩
theorem Told.mark (t : Told H a sg ms f tg pm pl ad) {m : List Nat} (h : m ∈ ms) : DGet H pl (.str (S m)) (some (.ref (ad m))) := .inl ⟨_, tk m, .inl t.hpl, rfl, (valV_map' (key := tk) (f := fun m => V.ref (ad m)) (fun _ _ => tk_inj) h).symm⟩
theorem Told.at_ (t : Told H a sg ms f tg pm pl ad) {m : List Nat} (h : m ∈ ms) {c : Nat} (hc : c ∈ sg) : DGet H (ad m) (.str (S [c])) (some (.str (S (tg m c)))) :=
  .inl ⟨_, tk [c], .inl (t.had m h), rfl, (valV_map' (key := fun c => tk [c]) (f := fun c => V.str (S (tg m c))) (fun _ _ e => (List.cons.inj (tk_inj e)).1) hc).symm⟩
theorem Told.same {H' : Hp} (t : Told H a sg ms f tg pm pl ad) (s : Same H H') : Told H' a sg ms f tg pm pl ad := ⟨s _ _ t.ha, s _ _ t.hpm, s _ _ t.hpl, fun m h => s _ _ (t.had m h)⟩
theorem Told.bx {H' : Hp} {b : Addr} (t : Told H a sg ms f tg pm pl ad) (s : Bx b H H') (hb : BoxAt b H) (n : pm ≠ b) : Told H' a sg ms f tg pm pl ad :=
  ⟨s.1 _ _ (dict_ne_box hb t.ha) t.ha, s.1 _ _ n t.hpm, s.1 _ _ (dict_ne_box hb t.hpl) t.hpl, fun m h => s.1 _ _ (dict_ne_box hb (t.had m h)) (t.had m h)⟩
end
def Ov (sg l : List Nat) : Prop := ∀ c ∈ l, c ∈ sg
def ledTo (tg : List Nat → Nat → List Nat) (m : List Nat) (row : List Nat) : List Nat := row.foldl tg m
theorem led_in {sg : List Nat} {ms : List (List Nat)} {tg : List Nat → Nat → List Nat} (htg : ∀ m ∈ ms, ∀ c ∈ sg, tg m c ∈ ms) : ∀ {row : List Nat} {m : List Nat}, Ov sg row → m ∈ ms → ledTo tg m row ∈ ms
  | [], _, _, h => h
  | c :: row, m, ho, h => led_in htg (row := row) (fun d hd => ho d (List.mem_cons_of_mem _ hd)) (htg m h c (ho c List.mem_cons_self))
abbrev s_led : Stmt := top 38
abbrev n_led : List Str := ["told", "mark", "row", "sign"]
theorem sc_led : FnScope n_led ["told", "mark", "row"] (fnScope s_led) := fnScope_by (by decide +kernel)
def spLed : Sp := fun vs H Q _ => ∃ (a : Addr) (sg : List Nat) (ms : List (List Nat)) (f : List Nat) (tg : List Nat → Nat → List Nat) (pm pl : Addr) (ad : List Nat → Addr) (m row : List Nat), vs = [.ref a, .str (S m), .str (S row)] ∧
  Told H a sg ms f tg pm pl ad ∧ (∀ m ∈ ms, ∀ c ∈ sg, tg m c ∈ ms) ∧ m ∈ ms ∧ Ov sg row ∧ Q (.str (S (ledTo tg m row))) H
theorem ok_led (T : BT mg) {f : Addr} {fd : FuncData} (F : Def K mg "_law_led" s_led f fd) (b : Binds K fd ["told", "mark", "row"] []) : Cal P w K mg base 1 "_law_led" spLed [] := by
  refine cal0 F b .nil sc_led (fun vs H Q E h => ?_) (fun cdv A outer s H vs Q E hr h => ?_)
  · obtain ⟨a, sg, ms, f, tg, pm, pl, ad, m, row, rfl, _⟩ := h; rfl
  · obtain ⟨a, sg, ms, f, tg, pm, pl, ad, m, row, rfl, t, htg, hm, ho, k⟩ := h
    refine ⟨_, (pss_cons (ps_for PassesOwn.never rfl (pi_str (pv 2)) (pg_name (i := 3) sc_led.nd rfl (.inl rfl)) 
        (pss_one (ps_set (i := 1) sc_led.nd rfl (.inl rfl) (pe_dget (hu_of hr) (pe_dget (hu_of hr) (pe_dget (hu_of hr) (pv 0) pe_str (fun _ _ => rfl)) (pv 1) (fun _ _ => rfl)) (pv 3) (fun _ _ => rfl)))
        ))
      (pss_one (ps_ret (pv 1))
      )), ?_⟩
    refine ⟨_, rfl, _, rfl, for_it walk_str (fun i σ H' => ∃ s3 : Option V, σ = [some (.ref a), some (.str (S (ledTo tg m (row.take i)))), some (.str (S row)), s3] ∧ H' = H) ⟨none, rfl, rfl⟩ (fun _ _ _ _ _ => trivial) ?_ ?_⟩
    · rintro i x σ H1 H1' hi ⟨s3, rfl, rfl⟩ ⟨rfl, c, hc, rfl⟩
      have hc' : row[i]? = some c := by simpa [S] using hc
      have hmi : ledTo tg m (row.take i) ∈ ms := led_in htg (fun d hd => ho d (List.mem_of_mem_take hd)) hm
      refine ⟨_, rfl, _, _, rfl, t.leads, ?_⟩
      refine ⟨_, rfl, _, _, rfl, t.mark hmi, ?_⟩
      refine ⟨_, rfl, _, _, rfl, t.at_ hmi (ho c (List.mem_of_getElem? hc')), ?_⟩
      have e1 : ledTo tg m (row.take (i + 1)) = tg (ledTo tg m (row.take i)) c := by
        rw [take_more hc']
        unfold ledTo
        rw [List.foldl_append]
        rfl
      exact ⟨_, by rw [e1]; rfl, rfl⟩
    · rintro σ H1 ⟨s3, rfl, rfl⟩
      refine ⟨_, rfl, ?_⟩
      have e : row.take (S row).cps.size = row := by rw [show (S row).cps.size = row.length by simp [S], List.take_length]
      show Q (V.str (S (ledTo tg m (List.take (S row).cps.size row)))) H1
      rw [e]
      exact k
def level (sg : List Nat) : Nat → List (List Nat)
  | 0 => [[]]
  | n + 1 => (level sg n).flatMap fun r => sg.map fun c => r ++ [c]
def upto (sg : List Nat) : Nat → List (List Nat)
  | 0 => [[]]
  | n + 1 => upto sg n ++ level sg (n + 1)
theorem level_len {sg : List Nat} (h : sg.length ≤ 3) : ∀ n, (level sg n).length ≤ 3 ^ n
  | 0 => Nat.le_refl _
  | n + 1 => by
    have ih := level_len h n
    have e : ∀ l : List (List Nat), (l.flatMap fun r => sg.map fun c => r ++ [c]).length = l.length * sg.length := by
      intro l
      induction l with
      | nil => simp
      | cons r l ih => rw [List.flatMap_cons, List.length_append, ih, List.length_map, List.length_cons, Nat.add_mul]; omega
    show ((level sg n).flatMap fun r => sg.map fun c => r ++ [c]).length ≤ _
    rw [e, Nat.pow_succ]
    exact Nat.mul_le_mul ih h
theorem upto_len {sg : List Nat} (h : sg.length ≤ 3) : ∀ n, (upto sg n).length ≤ 2 * 3 ^ n
  | 0 => by show 1 ≤ 2; decide
  | n + 1 => by
    have ih := upto_len h n
    have := level_len h (n + 1)
    show (upto sg n ++ level sg (n + 1)).length ≤ _
    rw [List.length_append]
    rw [Nat.pow_succ] at this ⊢
    omega
theorem level_row {sg : List Nat} : ∀ {n : Nat} {r : List Nat}, r ∈ level sg n → r.length = n ∧ Ov sg r
  | 0, r, h => by
    rw [List.mem_singleton.mp h]
    exact ⟨rfl, fun _ h => nomatch h⟩
  | n + 1, r, h => by
    obtain ⟨q, hq, hr⟩ := List.mem_flatMap.mp h
    obtain ⟨c, hc, rfl⟩ := List.mem_map.mp hr
    obtain ⟨i1, i2⟩ := level_row hq
    refine ⟨by rw [List.length_append, i1]; rfl, fun d hd => ?_⟩
    rcases List.mem_append.mp hd with h | h
    · exact i2 d h
    · rw [List.mem_singleton.mp h]; exact hc
theorem upto_row {sg : List Nat} : ∀ {n : Nat} {r : List Nat}, r ∈ upto sg n → r.length ≤ n ∧ Ov sg r
  | 0, r, h => by
    rw [List.mem_singleton.mp h]
    exact ⟨Nat.le_refl _, fun _ h => nomatch h⟩
  | n + 1, r, h => by
    rcases List.mem_append.mp h with h | h
    · obtain ⟨a, b⟩ := upto_row h
      exact ⟨Nat.le_succ_of_le a, b⟩
    · obtain ⟨a, b⟩ := level_row h
      exact ⟨Nat.le_of_eq a, b⟩
abbrev s_rows : Stmt := top 39
abbrev n_rows : List Str := ["signs", "most", "found", "last", "turn", "longer", "row", "sign"]
theorem sc_rows : FnScope n_rows ["signs", "most"] (fnScope s_rows) := fnScope_by (by decide +kernel)
def spRows : Sp := fun vs H Q _ => ∃ (sg : List Nat) (n : Nat), vs = [.str (S sg), .int n] ∧ sg.length ≤ 3 ∧ n ≤ 5 ∧ ∀ (p : Addr) (H' : Hp), Same H H' → H p = none → H' p = some (.lst (txs (upto sg n))) → Q (.ref p) H'
theorem ok_rows (T : BT mg) {f : Addr} {fd : FuncData} (F : Def K mg "_law_rows" s_rows f fd) (b : Binds K fd ["signs", "most"] []) : Cal P w K mg base 1 "_law_rows" spRows [] := by
  refine cal0 F b .nil sc_rows (fun vs H Q E h => ?_) (fun cdv A outer s H vs Q E hr h => ?_)
  · obtain ⟨sg, n, rfl, _⟩ := h; rfl
  · obtain ⟨sg, n, rfl, hl3, hn5, k⟩ := h
    refine ⟨_, (pss_cons (ps_par (i := 2) (j := 3) rfl sc_rows.nd rfl rfl (by decide) rfl rfl (pa_cons (pe_lst (pa_cons pe_str pa_nil)) (pa_cons (pe_lst (pa_cons pe_str pa_nil)) pa_nil)) rfl)
      (pss_cons (ps_for PassesOwn.never rfl (pi_range1 (by rfl) T.m_range (pa_cons (pv 1) pa_nil)) (pg_name (i := 4) sc_rows.nd rfl (.inl rfl)) 
        (pss_cons (ps_set (i := 5) sc_rows.nd rfl (.inl rfl) (pe_lst pa_nil))
        (pss_cons (ps_for PassesOwn.never rfl (pi_list (pv 3)) (pg_name (i := 6) sc_rows.nd rfl (.inr rfl)) 
          (pss_one (ps_expr (pe_bm PySem.F.plainAttrs_list PySem.F.slot_list_extend PySem.F.type_list_extend mt_extend (pv 5) (pa_cons (pe_lc (own := [("sign", 7)]) rfl sc_rows.nd (pi_str (pv 0)) (blkOk_by (N := n_rows) (sc := fnScope s_rows) (by decide +kernel)) (fun _ _ _ _ _ => (pg_name (i := 7) sc_rows.nd rfl (.inl rfl))) (fun _ _ _ _ _ => pts_nil) (fun _ _ _ _ _ => (pe_op op_add_str (pv 6) (pv 7)))) pa_nil)))
          ))
        (pss_one (ps_par (i := 2) (j := 3) rfl sc_rows.nd rfl rfl (by decide) rfl rfl (pa_cons (pe_op op_cat (pv 2) (pv 5)) (pa_cons (pv 5) pa_nil)) rfl)
        ))))
      (pss_one (ps_ret (pv 2))
      ))), ?_⟩
    refine ⟨by decide, fun p0 hp0 => ?_⟩
    refine ⟨by decide, fun q0 hq0 => ?_⟩
    have hpq : p0 ≠ q0 := fun e => by rw [← e, upd_same] at hq0; cases hq0
    have s0 : Same H (upd (upd H p0 (.lst [.str ""])) q0 (.lst [.str ""])) := sm_put' (sm_new hp0) hq0
    refine ⟨_, _, rfl, ?_⟩
    refine ⟨_, rfl, (n : Int), rfl, by omega, by omega, ?_⟩
    refine for_it (walk_range (lo := 0)) (fun i σ H' => ∃ (p q : Addr) (s4 s5 s6 s7 : Option V), σ = [some (.str (S sg)), some (.int n), some (.ref p), some (.ref q), s4, s5, s6, s7] ∧ Same H H' ∧ H p = none ∧ H' p = some (.lst (txs (upto sg i))) ∧ H' q = some (.lst (txs (level sg i))))
      ⟨p0, q0, _, _, _, _, rfl, s0, hp0, by rw [upd_ne hpq, upd_same, s_nil]; rfl, by rw [upd_same, s_nil]; rfl⟩ (fun _ _ _ _ _ => trivial) ?_ ?_
    · rintro i x σ H1 H1' hi ⟨p, q, s4, s5, s6, s7, rfl, s1, hp, hp1, hq1⟩ ⟨rfl, rfl⟩
      have hi5 : i < 5 := by have : (n : Int).toNat = n := Int.toNat_natCast n; omega
      have p3 : 3 ^ i ≤ 81 := Nat.le_trans (Nat.pow_le_pow_right (by decide) (show i ≤ 4 by omega)) (by decide)
      have hll := level_len hl3 i
      have hul := upto_len hl3 i
      refine ⟨Nat.zero_le _, fun g hg => ?_⟩
      have s2 : Same H1' (upd H1' g (.lst [])) := sm_new hg
      refine ⟨_, rfl, _, rfl, ⟨_, SqL.of (s2 _ _ hq1)⟩, for_it (walk_list (K := K) (a := q) (xs := txs (level sg i))) (fun j σ H' => ∃ (s6 s7 : Option V), σ = [some (.str (S sg)), some (.int n), some (.ref p), some (.ref q), some (.int (0 + (i : Int))), some (.ref g), s6, s7] ∧ Same H1' H' ∧
          H' g = some (.lst (txs (((level sg i).take j).flatMap fun r => sg.map fun c => r ++ [c]))))
        ⟨_, _, rfl, s2, upd_same⟩ (fun j σ H' _ ⟨_, _, _, s, _⟩ => SqL.of (s _ _ hq1)) ?_ ?_⟩
      · rintro j x σ H2 H2' hj ⟨s6, s7, rfl, s3, hg3⟩ ⟨rfl, hx⟩
        obtain ⟨r, hr, rfl⟩ := txs_get hx
        obtain ⟨r1, r2⟩ := level_row (List.mem_of_getElem? hr)
        refine ⟨_, rfl, .inl ⟨rfl, _, SqL.of hg3⟩, ?_⟩
        refine ⟨_, rfl, _, rfl, fun D hD => lc_keep keep_same walk_str hD (by show sg.length < sizeLine; exact small1000 (by omega)) (fun j y => ∀ c, sg[j]? = some c → y = .str (S (r ++ [c]))) (fun _ _ => trivial) (fun i x H3 H4 R hii r1 hy hR => ?_) (fun ys H3 hly hgd r3 hDs => ?_)⟩
        · obtain ⟨rfl, c, hc, rfl⟩ := hy
          have hc' : sg[i]? = some c := by simpa [S] using hc
          refine ⟨rfl, ?_⟩
          refine ⟨_, rfl, _, rfl, S r, S [c], rfl, rfl, by rw [S_len, S_len]; exact sz (m := 10) (by simp; omega) (by decide), ?_⟩
          exact hR _ _ (Same.refl _) fun c' h => by rw [hc'] at h; rw [← Option.some.inj h, S_cat]
        have eys : ys = txs (sg.map fun c => r ++ [c]) := by
          unfold txs; rw [List.map_map]
          exact list_map (hly.trans (by simp [S])) fun j y c e1 e2 => hgd j y e1 c e2
        subst eys
        have hg4 := r3 _ _ hg3
        have hgl : (txs (((level sg i).take j).flatMap fun r => sg.map fun c => r ++ [c])).length + (txs (sg.map fun c => r ++ [c])).length ≤ sizeLine := by
          have hsub : ((level sg i).take j ++ [r]).length ≤ (level sg i).length := by rw [← take_more hr, List.length_take]; omega
          have e : ∀ l : List (List Nat), (l.flatMap fun r => sg.map fun c => r ++ [c]).length ≤ l.length * 3 := by
            intro l
            induction l with
            | nil => simp
            | cons r l ih => rw [List.flatMap_cons, List.length_append, List.length_map, List.length_cons, Nat.add_mul]; omega
          have := e ((level sg i).take j)
          rw [List.length_append, List.length_singleton] at hsub
          rw [txs_len, txs_len, List.length_map]
          exact sz (m := 800) (by omega) (by decide)
        refine ⟨g, D, _, _, rfl, rfl, hg4, hDs, hgl, ?_⟩
        refine ⟨_, _, rfl, sm_put (s3.trans r3) hg, ?_⟩
        rw [upd_same, take_more hr, List.flatMap_append]
        unfold txs
        rw [List.map_append]
        simp
      · rintro σ H2 ⟨s6, s7, rfl, s3, hg3⟩
        rw [txs_len, List.take_length] at hg3
        have hg3' : H2 g = some (.lst (txs (level sg (i + 1)))) := hg3
        have hll' := level_len hl3 (i + 1)
        refine ⟨_, rfl, _, rfl, p, g, _, _, rfl, rfl, s3 _ _ hp1, hg3', by rw [txs_len, txs_len]; rw [Nat.pow_succ] at hll'; exact sz (m := 1000) (by omega) (by decide), fun p2 hp2 => ?_⟩
        have s4 : Same H2 (upd H2 p2 (.lst (txs (upto sg i) ++ txs (level sg (i + 1))))) := sm_new hp2
        refine ⟨_, rfl, _, _, rfl, ?_⟩
        refine ⟨p2, g, _, _, _, _, rfl, (s1.trans s3).trans s4, (s1.trans s3).free hp2, ?_, s4 _ _ hg3'⟩
        rw [upd_same]; unfold txs; rw [← List.map_append]; rfl
    · rintro σ H1 ⟨p, q, s4, s5, s6, s7, rfl, s1, hp, hp1, hq1⟩
      refine ⟨_, rfl, ?_⟩
      exact k p H1 s1 hp (by rw [hp1, Int.toNat_natCast])
end
end Toy
set_option maxHeartbeats 2000000
namespace LX
open PySem PySem.Spec PyProof.Rows L2 C8 SX
structure FnG (P : Program) (w : World) (K : PySem.W.Frag) (mg : Str → Option Value) (base : Heap) (k : Nat) (f : Addr) (fd : FuncData) (ps : List Str) (sp : Sp) : Prop where
  many : ∀ vs H Q E, sp vs H Q E → vs.length = ps.length
  goes : ∀ (A : Around) (ou : List Env) (t : Shared) (H : Hp) (gs : Args) (us : List Value) (vs : List V) (Q : VK) (E : XK), A.guards = some [] → Room k A → Env0 P w K mg base A ou t H → BindsTo t fd gs (ps.zip us) → Vals vs us →
    sp vs H Q E → codeAny (model P w) A (.call (.ref f) gs) (CR C8.CX0 ou P w H t Q E) t
theorem FnG.of {P : Program} {w : World} {K : PySem.W.Frag} {mg : Str → Option Value} {base : Heap} {k : Nat} {f : Addr} {fd : FuncData} {ps : List Str} {sp : Sp} (F : FnOk P w K mg base C8.CX0 k f fd ps sp) : FnG P w K mg base k f fd ps sp :=
  ⟨F.len, fun A ou t H gs us vs Q E _ => F.run A ou t H gs us vs Q E⟩
theorem fnG0 {P : Program} {w : World} {K : PySem.W.Frag} {mg : Str → Option Value} {base : Heap} {x ql : Str} {st : Stmt} {f : Addr} {fd : FuncData} {N ps : List Str} {k : Nat} {sp : Sp} (F : C8.Fun K x ql st f fd) (Sc : FnScope N ps (C8.fnScope st))
    (many : ∀ vs H Q E, sp vs H Q E → vs.length = ps.length)
    (h : ∀ (cd : Value) (A : Around) (ou : List Env) (t : Shared) (H : Hp) (vs : List V) (Q : VK) (E : XK), A.guards = some [] → Room k (A.deeper (envOfC ql (C8.fnScope st) t.heap.objs.size f cd)) → sp vs H Q E →
      ∃ r, PSs (cxOf C8.CX0 P w K mg base N ql (C8.fnScope st) f cd A ou t H E).nox (C8.fnBody st) r ∧ r { nx := fun _ H' => Q .non H', rt := Q } (L2.start N vs) H) : FnG P w K mg base (k + 1) f fd ps sp := by
  obtain ⟨oc, od, dV, kV, doc, pm, an, cd, ct, osl, rfl, at_, code⟩ := F.ex
  constructor
  · exact many
  intro A ou t H gs us vs Q E gd room e0 bound rel want
  have count := many _ _ _ _ want
  have old : ∀ (b : Addr) (o : Obj), base.get? b = some o → t.heap.get? b = some o := fun b o e => (e0.bs b o e).1
  have KT : K.In t.heap := e0.mod.kin.keeps old
  have kinds : ∀ y ∈ ps.zip us, (C8.fnScope st).names.lookup y.1 = some .local ∨ ((C8.fnScope st).names.lookup y.1 = some .cell ∧ ((cellsFrom (t.heap.objs.size + 1) (C8.fnScope st).names []).lookup y.1).isSome = true) := by
    intro y hy
    obtain ⟨n, v⟩ := y
    exact (Sc.par n (List.of_mem_zip hy).1).elim .inl fun q => .inr ⟨q, PySem.W.cellsFrom_some _ _ _ (.inl q)⟩
  refine codeAny_call_function room.depth (KT _ _ at_) rfl Sc.co Sc.gen rfl (PySem.W.codeRec_of KT code) (bound _ _ _ _ ?_)
  refine wpAny_newFunctionEnv_cells Sc.kind kinds fun en en_is t1 inside => ?_
  subst en_is
  refine ⟨(e0.mod.nolimit.keeps old).keeps inside.toInCall.keep, codeAny_func ?_⟩
  obtain ⟨r, body, read⟩ := h cd A ou t H vs Q E gd (room.deeper _) want
  have I0 := inv_start (CX := C8.CX0) (E := E) Sc room.hd e0 count rel inside
  refine wpAny_mono (body.nox.run [] t1 (L2.start N vs) H _ I0 read) (fun fl t' got => ?_) fun _ _ got => got
  cases fl with
  | ret u => exact let ⟨v, _, H', J, rv, q⟩ := got; ⟨v, H', J.os, J.bare, J.base, J.hok, rv, q⟩
  | next => exact let ⟨_, H', J, q⟩ := got; ⟨.non, H', J.os, J.bare, J.base, J.hok, rfl, q⟩
  | brk => exact let ⟨_, _, _, q⟩ := got; False.elim q
  | cont => exact let ⟨_, _, _, q⟩ := got; False.elim q
structure CalG (P : Program) (w : World) (K : PySem.W.Frag) (mg : Str → Option Value) (base : Heap) (k : Nat) (x : Str) (sp : Sp) : Prop where
  ex : ∃ (f : Addr) (fd : FuncData) (ps : List Str), FnG P w K mg base k f fd ps sp ∧ mg x = some (.ref f) ∧ PySem.W.keepIn K (.ref f) = true ∧ Binds K fd ps []
structure MetG (P : Program) (w : World) (K : PySem.W.Frag) (mg : Str → Option Value) (base : Heap) (k : Nat) (C : Addr) (m : Str) (sp : Sp) : Prop where
  ex : ∃ (f : Addr) (fd : FuncData) (ps : List Str), Cls K C ∧ Meth K C m f ∧ FnG P w K mg base k f fd ps sp ∧ Binds K fd ps []
section
variable {X : Cx} {k j : Nat} {f C : Addr} {fd : FuncData} {ps : List Str} {sp : Sp} {x m : Str} {p pos apos : Pos} {e o : Expr} {es : List Expr} {ta : TE} {t : TA}
theorem goesG {pins : List (Addr × Obj)} {σ : L2.St} {H : Hp} {s : Shared} {Q : VK} {us : List Value} {vs : List V} (F : FnG X.prog X.w X.K X.mg X.base k f fd ps sp) (gd : X.A.guards = some []) (room : Room k X.A) (bd : Binds X.K fd ps [])
    (I : Inv X pins σ H s) (rel : Vals vs us) (want : sp (vs ++ []) H Q C8.E0) : wpAny (model X.prog X.w) X.A (call (.ref f) us) (EP X pins σ Q) X.xe s := by
  rw [List.append_nil] at want
  have count : (us ++ []).length = ps.length := by rw [List.append_nil, ← rel.length]; exact F.many _ _ _ _ want
  have bs := bd s us I.kIn count
  rw [List.append_nil] at bs
  refine wpAny_call (codeAny_mono (F.goes X.A X.stack s H ⟨us, []⟩ us vs Q C8.E0 gd room I.env0 bs rel want) fun r t' got => ?_)
  match r, got with
  | .ok (.ret u), got => exact I.after got
theorem pe_cG (c : CalG X.prog X.w X.K X.mg X.base k x sp) (gd : X.A.guards = some []) (room : Room j X.A) (hk : k ≤ j) (hg : Gl X x) (ha : PA X (e :: es) t) (hdb : (x == ("__debug__" : Str)) = false := by decide)
    (he : starEach (e :: es) X.env = (false, eval e X.env) :: starEach es X.env := by rfl) (hpl : (backTo pos (starEach es X.env)).any (·.1) = false := by rfl) : PE X (.Call (.Name x p) (e :: es) [] pos) (tCall sp [] C8.E0 t) := by
  obtain ⟨f, fd, ps, F, named, kept, bd⟩ := c.ex
  constructor
  intro pins s σ H Q I want
  refine wpAny_Call_Name_kw (ld_glob I hg named ?_ hdb)
  refine PySem.W.callWith_K (h₀ := X.base) I.ok.mod.kin kept (thn (ha.run pos pins s σ H _ I want) ?_) he hpl
  rintro us s1 ⟨vs, H1, I1, rel, q⟩
  exact ⟨I1.kIn, goesG F gd (room.mono hk) bd I1 rel q⟩
theorem call_reprG (gd : X.A.guards = some []) (room : Room j X.A) : CallR X (.builtin "repr") (fun xs H Q => ∃ (a : Addr) (d : PyData), xs = [.ref a] ∧ Dp X.K H (.ref a) d ∧ d.showable = true ∧ d.hasDict = false ∧ d.depth ≤ 60 ∧ d.shown.length ≤ sizeLine ∧ Q (.str d.shown) H) := by
  intro pins s σ H xs us Q I rel want
  obtain ⟨a, d, rfl, hd, sh, nd, dep, sz, q⟩ := want
  obtain ⟨u, rfl, ru⟩ := vals1 rel
  obtain rfl : u = Value.ref a := ru
  obtain ⟨as, rd⟩ := Dp.reads I d (.ref a) (.ref a) hd rfl
  have un := room.un
  refine repr_of_reads' rd sh (PyData.noDict_hsm nd) gd (by omega) (fun _ _ z => z) (fun h' u tk kept => ?_) sz
  exact ⟨.str d.shown, H, I.kept kept, ⟨_, rfl⟩, q⟩
end
abbrev Done (s s' : Shared) (r : Result) : Prop := r = .ok (.ret (.bool true)) ∧ OldK s.heap s'.heap ∧ s'.os = s.os ∧ AllBare s'.gens
section
variable {P : Program} {w : World} {K : PySem.W.Frag} {mg mb : Str → Option Value} {k : Nat} {fa a : Addr} {fd : FuncData} {x : Str} {sp : Sp} {s : Shared} {vs : List Value} {ns : List Int}
theorem lawG_at {H : Hp} (KX : K.In s.heap) (hns : s.heap.Ns mainGlobals mg) (hb : s.heap.Ns builtinsNs mb) (hbb : ∀ x : Str, x ≠ "__name__" → mb x = bootBuiltins x) (lim : s.heap.NoLimit) (gens : s.gens = #[])
    (ha : s.heap.get? a = some { cls := .type "list", data := .seq vs.toArray }) (room : Room k callerA) (F : ∀ base : Heap, K.In base → base.Ns mainGlobals mg → FnG P w K mg base k fa fd [x] sp)
    (bd : ∀ (s : Shared) (u : Value), BindsTo s fd ⟨[u], []⟩ [(x, u)]) (only : Only H) (want : sp [.ref a] H (fun v _ => v = .bl true) C8.E0) (ok : HOk P w H s.heap) (at_a : ∀ b, H b ≠ none → b = a) (not_K : H a ≠ none → K.lookup a = none) :
    codeAny (model P w) callerA (.call (.ref fa) ⟨[.ref a], []⟩) (fun r s' => Done s s' r) s := by
  have free : ∀ {b : Addr}, b ≠ a → H b = none := fun {b} hn => by
    cases q : H b with
    | none => rfl
    | some u => exact absurd (at_a b (by rw [q]; simp)) hn
  have dict_free : ∀ {b : Addr} {o : Obj} {es : Array DictEntry} {ep : Nat}, s.heap.get? b = some o → o.data = .dict es ep → H b = none := fun {b o es ep} e d => free fun eq => by
    rw [eq, ha] at e
    cases e
    have d2 : Data.seq vs.toArray _ = Data.dict es ep := d
    cases d2
  have names : ∀ {b : Addr} {m : Str → Option Value}, s.heap.Ns b m → (hidT s.heap H).Ns b m := fun {b m} ⟨o, es, ep, e, d, r⟩ => ⟨o, es, ep, hidT_get e (dict_free e d), d, r⟩
  have hK : K.In (hidT s.heap H) := fun b o e => hidT_get (KX b o e) (by
    by_cases eq : b = a
    · subst eq
      cases q : H b with
      | none => rfl
      | some u => rw [not_K (by rw [q]; simp)] at e; cases e
    · exact free eq)
  have md : Mod K mg (hidT s.heap H) := by
    obtain ⟨mc, c1, c2⟩ := lim
    exact ⟨hK, names hns, ⟨mb, names hb, hbb⟩, mc, names c1, c2⟩
  have e0 : Env0 P w K mg (hidT s.heap H) callerA [] s H := ⟨rfl, md, fun _ _ e => of_hidT e, Nat.le_of_eq (hidT_size _ _), trivial, fun _ hm => absurd hm (List.not_mem_nil), ok, .of_eq gens⟩
  refine codeAny_mono ((F _ hK (names hns)).goes callerA [] s H ⟨[.ref a], []⟩ [.ref a] [.ref a] _ _ rfl room e0 (bd s (.ref a)) (.cons rfl .nil) want) fun r t got => ?_
  match r, got with
  | .ok (.ret u), got =>
    obtain ⟨v, H2, os, bare, un, ok2, rel, is_true⟩ := got
    obtain rfl : v = V.bl true := is_true
    obtain rfl : u = Value.bool true := rel
    refine ⟨rfl, OldK.of_keep fun b o e => ?_, os, bare⟩
    rcases only b with none_ | ⟨ob, xs, frozen⟩
    · exact un.keep b o e none_ (fun z => absurd z List.not_mem_nil) (by simp)
    · obtain ⟨e1, _⟩ := ok b _ frozen
      obtain ⟨e2, _⟩ := ok2 b _ (un.frzs b ob _ frozen)
      rw [e] at e1
      cases e1
      exact e2
theorem lawG_call (KX : K.In s.heap) (hns : s.heap.Ns mainGlobals mg) (hb : s.heap.Ns builtinsNs mb) (hbb : ∀ x : Str, x ≠ "__name__" → mb x = bootBuiltins x) (lim : s.heap.NoLimit) (gens : s.gens = #[])
    (ha : s.heap.get? a = some { cls := .type "list", data := .seq vs.toArray }) (hi : IntsAre vs ns) (hl : ns.length ≤ sizeLine) (room : Room k callerA) (F : ∀ base : Heap, K.In base → base.Ns mainGlobals mg → FnG P w K mg base k fa fd [x] sp)
    (bd : ∀ (s : Shared) (u : Value), BindsTo s fd ⟨[u], []⟩ [(x, u)]) (want : ∀ H : Hp, Only H → SqL K H a (ns.map V.int) → sp [.ref a] H (fun v _ => v = .bl true) C8.E0) :
    codeAny (model P w) callerA (.call (.ref fa) ⟨[.ref a], []⟩) (fun r s' => Done s s' r) s := by
  have rel := vals_ints hi
  cases own : K.lookup a with
  | some o =>
    have e := KX a o own
    rw [ha] at e
    cases e
    have only : Only (fun _ => none : Hp) := fun _ => .inl rfl
    have sq : SqL K (fun _ => none) a (ns.map V.int) := .inr ⟨_, vs.toArray, _, own, rfl, rfl, rfl, by rw [List.size_toArray, hi.length]; exact hl, by simpa using rel⟩
    refine lawG_at KX hns hb hbb lim gens ha room F bd only (want _ only sq) ?_ (fun b z => absurd rfl z) fun z => absurd rfl z
    intro b u z
    have z2 : (none : Option HO) = some u := z
    cases z2
  | none =>
    let one : HO := .frz { cls := .type "list", data := .seq vs.toArray } (.lst (ns.map V.int))
    let H : Hp := fun b => if b = a then some one else none
    have here : H a = some one := if_pos rfl
    have else_ : ∀ {b : Addr}, b ≠ a → H b = none := fun hn => if_neg hn
    have only : Only H := fun b => by
      by_cases e : b = a
      · exact .inr ⟨_, _, by rw [e]; exact here⟩
      · exact .inl (else_ e)
    refine lawG_at KX hns hb hbb lim gens ha room F bd only (want H only (.inl (.inr ⟨_, here⟩))) (fun b u z => ?_) (fun b z => ?_) fun _ => own
    · by_cases e : b = a
      · subst e
        rw [here] at z
        cases z
        exact ⟨ha, by rw [List.length_map]; exact hl, vs, _, rel, ha⟩
      · rw [else_ e] at z
        cases z
    · by_cases e : b = a
      · exact e
      · exact absurd (else_ e) z
end
theorem walkG {l : PySem.W.OpenLaw} {n k : Nat} {q : Program} {loose : List Str} {XP : (Str → Option Value) → Heap → Prop} {YP : World → Heap → Prop} {d : DefRec} {K : Params → PySem.W.Frag} {sp : PySem.W.Frag → Sp} {x : Str} (hn : l.most = some n) (hn2 : n ≤ sizeLine)
    (hdf : d.params.defaults = []) (room : Room k callerA) (hY : ∀ (w : World) (h : Heap), YP w h → (K w.params).In h)
    (F : ∀ (w : World) (mg : Str → Option Value) (fa : Addr) (h : Heap), (K w.params).In h → h.Ns mainGlobals mg → mg d.name = some (.ref fa) →
      ∃ fd : FuncData, (∀ (s : Shared) (u : Value), BindsTo s fd ⟨[u], []⟩ [(x, u)]) ∧ ∀ base : Heap, (K w.params).In base → base.Ns mainGlobals mg → FnG l.prog w (K w.params) mg base k fa fd [x] (sp (K w.params)))
    (want : ∀ (K : PySem.W.Frag) (H : Hp) (a : Addr) (ns : List Int), ns.length ≤ n → Only H → SqL K H a (ns.map V.int) → sp K [.ref a] H (fun v _ => v = .bl true) C8.E0) : PySem.W.WalkO q loose XP YP l.row.toRowW d [] (fun f vs => PySem.call f vs) := by
  refine Att.attach_call hn hdf ?_
  intro w s0 s1 mg mb fa o pm cd doc a vs ns G Y _ _ _ named list_ nums few gens
  have KX := hY w _ Y
  obtain ⟨fd, bd, F1⟩ := F w mg fa _ KX G.T.g named
  exact lawG_call KX G.T.g G.T.b G.T.builtins G.T.nolimit gens list_ nums (Nat.le_trans few hn2) room F1 bd fun H only sq => want _ H a ns few only sq
end LX
set_option maxHeartbeats 2000000
namespace LX
open PySem PySem.Spec PyProof.Rows L2 C8 SX
section
variable {prog : Program} {w : World} {A : Around} {E : Value → Shared → Prop} {s : Shared} {z TI TO i1 i2 : Addr} {fp1 fp2 : List Addr} {n1 n2 i : Nat} {P1 P2 : Nat → Value → Prop} {St1 St2 : Nat → Heap → Prop}
theorem zipD2_item_held {T : Addr} {f : Bool} {oT : Obj} {Q : Value → Shared → Prop} (S : ZipSep2 z TI TO i1 i2 fp1 fp2) (D1 : Draws prog w A i1 fp1 n1 P1 St1) (D2 : Draws prog w A i2 fp2 n2 P2 St2)
    (hz : IsZipHeld s.heap z TI TO T f) (hT : s.heap.get? T = some oT) (hTI : IsTupOf2 s.heap TI (.ref i1) (.ref i2)) (st1 : St1 i s.heap) (st2 : St2 i s.heap) (hlt1 : i < n1) (hlt2 : i < n2)
    (hQ : ∀ x1 x2 h' tk, P1 i x1 → P2 i x2 → IsZipHeld h' z TI TO T true → St1 (i + 1) h' → St2 (i + 1) h' → IsTupOf2 h' s.heap.objs.size x1 x2 → h'.objs.size = s.heap.objs.size + 1 →
      (∀ c o, c ≠ z → c ≠ i1 → c ≠ i2 → s.heap.get? c = some o → h'.get? c = some o) → Q (.ref s.heap.objs.size) { s with heap := h', toks := tk }) :
    wpAny (model prog w) A (Builtin.«zip.__next__» ⟨[.ref z], []⟩) (fun fin s' => ∃ v, fin = .done (.ret v) ∧ Q v s') E s := by
  show wpAny _ _ (field (.ref z) 2 >>= _) _ _ _
  refine wpAny_bind (wpAny_field hz rfl (x := .bool false) rfl ?_)
  show wpAny _ _ (field (.ref z) 3 >>= _) _ _ _
  refine wpAny_bind (wpAny_field hz rfl (x := .ref TI) rfl ?_)
  refine wpAny_bind (wpAny_seqItems hTI rfl ?_)
  show wpAny _ _ (Builtin.SmallTypes.ownedTupleIsFree (.ref z) >>= _) _ _ _
  refine wpAny_bind (wpAny_tupleHeld_zip hz hT fun h₁ hz₁ hs₁ => ?_)
  simp only [Bool.false_eq_true, if_false]
  refine wpAny_bind ?_
  rw [← Array.forIn_toList]
  simp only [List.forIn_cons, List.forIn_nil]
  refine wpAny_bind (wpAny_bind (wpAny_holding ?_))
  show wpAny _ _ (Builtin.SmallTypes.nextOf (.ref i1) >>= _) _ _ _
  refine wpAny_bind (D1.item i _ _ _ hlt1 (D1.over st1 hs₁ S.zf1) fun x1 h₂ tk₁ p1 h1₂ hs₂ => wpAny_pure ?_)
  refine wpAny_pure ?_
  refine wpAny_bind (wpAny_bind (wpAny_holding ?_))
  show wpAny _ _ (Builtin.SmallTypes.nextOf (.ref i2) >>= _) _ _ _
  refine wpAny_bind (D2.item i _ _ _ hlt2 (D2.over (D2.over st2 hs₁ S.zf2) hs₂ S.sep1_2) fun x2 h₃ tk₂ p2 h2₃ hs₃ => wpAny_pure ?_)
  refine wpAny_pure (wpAny_pure ?_)
  show wpAny _ _ (newTuple [x1, x2] >>= _) _ _ _
  refine wpAny_bind (wpAny_newTuple ?_)
  have hsz : h₃.objs.size = s.heap.objs.size := by rw [hs₃.1, hs₂.1, hs₁.1]
  have hz₃ : IsZipHeld h₃ z TI TO T true := hs₃.extBut _ _ S.zi2 (hs₂.extBut _ _ S.zi1 hz₁)
  have hk : ∀ c o, c ≠ z → c ≠ i1 → c ≠ i2 → s.heap.get? c = some o → h₃.get? c = some o := fun c o c1 c2 c3 e => hs₃.extBut _ _ c3 (hs₂.extBut _ _ c2 (hs₁.extBut _ _ c1 e))
  have h1₃ : St1 (i + 1) h₃ := D1.over h1₂ hs₃ S.sep2_1
  refine wpAny_pure ⟨_, rfl, ?_⟩
  show Q (.ref h₃.objs.size) _
  have hp : IsTupOf2 (h₃.push { cls := .type "tuple", data := .seq #[x1, x2] }) h₃.objs.size x1 x2 := Heap.get?_push_size _ rfl
  have hz4 : (h₃.push { cls := .type "tuple", data := .seq #[x1, x2] }).objs.size = h₃.objs.size + 1 := Heap.size_push ..
  rw [hsz] at hp hz4 ⊢
  exact hQ x1 x2 _ tk₂ p1 p2 (Heap.get?_push_of_some _ hz₃) (D1.frame _ _ _ h1₃ fun b _ o e => Heap.get?_push_of_some _ e) (D2.frame _ _ _ h2₃ fun b _ o e => Heap.get?_push_of_some _ e) hp hz4 fun c o c1 c2 c3 e => Heap.get?_push_of_some _ (hk c o c1 c2 c3 e)
theorem zipD2_end_held {T : Addr} {f : Bool} {oT : Obj} {Q : Fin → Shared → Prop} (S : ZipSep2 z TI TO i1 i2 fp1 fp2) (D1 : Draws prog w A i1 fp1 n1 P1 St1) (D2 : Draws prog w A i2 fp2 n1 P2 St2)
    (hz : IsZipHeld s.heap z TI TO T f) (hT : s.heap.get? T = some oT) (hTI : IsTupOf2 s.heap TI (.ref i1) (.ref i2)) (st1 : St1 n1 s.heap)
    (hE : ∀ h' e, (∀ c o, c ≠ z → c ≠ i1 → c ≠ i2 → s.heap.get? c = some o → h'.get? c = some o) → (∃ o, h'.get? e = some o ∧ o.cls = .type "StopIteration") → E (.ref e) { s with heap := h' }) :
    wpAny (model prog w) A (Builtin.«zip.__next__» ⟨[.ref z], []⟩) Q E s := by
  show wpAny _ _ (field (.ref z) 2 >>= _) _ _ _
  refine wpAny_bind (wpAny_field hz rfl (x := .bool false) rfl ?_)
  show wpAny _ _ (field (.ref z) 3 >>= _) _ _ _
  refine wpAny_bind (wpAny_field hz rfl (x := .ref TI) rfl ?_)
  refine wpAny_bind (wpAny_seqItems hTI rfl ?_)
  show wpAny _ _ (Builtin.SmallTypes.ownedTupleIsFree (.ref z) >>= _) _ _ _
  refine wpAny_bind (wpAny_tupleHeld_zip hz hT fun h₁ hz₁ hs₁ => ?_)
  simp only [Bool.false_eq_true, if_false]
  refine wpAny_bind ?_
  rw [← Array.forIn_toList]
  simp only [List.forIn_cons, List.forIn_nil]
  refine wpAny_bind (wpAny_bind (wpAny_holding ?_))
  show wpAny _ _ (Builtin.SmallTypes.nextOf (.ref i1) >>= _) _ _ _
  refine wpAny_bind (D1.done _ _ _ (D1.over st1 hs₁ S.zf1) fun h₂ e hs₂ he => ?_)
  exact hE h₂ e (fun c o c1 c2 _ x => hs₂ _ _ c2 (hs₁.extBut _ _ c1 x)) he
theorem pyNext_zipD2_item_held {T : Addr} {f : Bool} {oT : Obj} {Q : Option Value → Shared → Prop} (S : ZipSep2 z TI TO i1 i2 fp1 fp2) (D1 : Draws prog w A.in1 i1 fp1 n1 P1 St1) (D2 : Draws prog w A.in1 i2 fp2 n2 P2 St2)
    (hz : IsZipHeld s.heap z TI TO T f) (hT : s.heap.get? T = some oT) (hTI : IsTupOf2 s.heap TI (.ref i1) (.ref i2)) (st1 : St1 i s.heap) (st2 : St2 i s.heap) (hlt1 : i < n1) (hlt2 : i < n2)
    (hQ : ∀ x1 x2 h' tk, P1 i x1 → P2 i x2 → IsZipHeld h' z TI TO T true → St1 (i + 1) h' → St2 (i + 1) h' → IsTupOf2 h' s.heap.objs.size x1 x2 → h'.objs.size = s.heap.objs.size + 1 →
      (∀ c o, c ≠ z → c ≠ i1 → c ≠ i2 → s.heap.get? c = some o → h'.get? c = some o) → Q (some (.ref s.heap.objs.size)) { s with heap := h', toks := tk }) :
    wpAny (model prog w) A (pyNext (.ref z)) Q E s := by
  have hTy : s.TypeIs (.ref z) "zip" := ⟨_, hz, rfl⟩
  unfold pyNext
  exact wpAny_bind (wpAny_attempt (wpAny_callSpecial?_slot (name := Str.ofString "__next__") hTy F.slot_zip_next
    (wpAny_call_entry F.slot_zip_next hTy F.entry_zip_next
      (zipD2_item_held S D1 D2 hz hT hTI st1 st2 hlt1 hlt2 fun x1 x2 h' tk y1 y2 a1 a3 a4 a5 a6 a7 => wpAny_pure (hQ x1 x2 h' tk y1 y2 a1 a3 a4 a5 a6 a7)) (F.args_zip_next_1 _))))
theorem pyNext_zipD2_end_held {T : Addr} {f : Bool} {oT : Obj} {Q : Option Value → Shared → Prop} (S : ZipSep2 z TI TO i1 i2 fp1 fp2) (D1 : Draws prog w A.in1 i1 fp1 n1 P1 St1) (D2 : Draws prog w A.in1 i2 fp2 n1 P2 St2)
    (hz : IsZipHeld s.heap z TI TO T f) (hT : s.heap.get? T = some oT) (hTI : IsTupOf2 s.heap TI (.ref i1) (.ref i2)) (st1 : St1 n1 s.heap)
    (hQ : ∀ h', (∀ c o, c ≠ z → c ≠ i1 → c ≠ i2 → s.heap.get? c = some o → h'.get? c = some o) → Q none { s with heap := h' }) : wpAny (model prog w) A (pyNext (.ref z)) Q E s := by
  have hTy : s.TypeIs (.ref z) "zip" := ⟨_, hz, rfl⟩
  unfold pyNext
  refine wpAny_bind (wpAny_attempt (wpAny_callSpecial?_slot (name := Str.ofString "__next__") hTy F.slot_zip_next
    (wpAny_call_entry F.slot_zip_next hTy F.entry_zip_next (zipD2_end_held S D1 D2 hz hT hTI st1 fun h' e hk he => ?_) (F.args_zip_next_1 _))))
  obtain ⟨o, ho, hc⟩ := he
  refine wpAny_bind (wpAny_isInstance (T := "StopIteration") (b := true) ⟨o, ho, hc⟩ isSubtype_stop ?_)
  exact wpAny_pure (hQ _ hk)
theorem pairArg_zipD2 (S : ZipSep2 z TI TO i1 i2 fp1 fp2) (D1 : ∀ A : Around, A.handled = none → Draws prog w A i1 fp1 n1 P1 St1) (D2 : ∀ A : Around, A.handled = none → Draws prog w A i2 fp2 n1 P2 St2) :
    PairArg prog w "zip" z (z :: TI :: TO :: (fp1 ++ fp2)) [z, TO, i1, i2] n1 (fun i k v => P1 i k ∧ P2 i v)
      (fun h => IsZip h z TI TO .none ∧ IsTupOf2 h TI (.ref i1) (.ref i2) ∧ (∃ a b, IsTupOf2 h TO a b) ∧ St1 0 h ∧ St2 0 h ∧ ∀ b ∈ fp1 ++ fp2, ∃ o, h.get? b = some o) where
  type := fun s ok => ⟨_, ok.1, rfl⟩
  notDict := by decide
  keep := fun h h' ok hk => by
    obtain ⟨hz, hTI, ⟨a, b, hTO⟩, h1, h2, ex⟩ := ok
    exact ⟨hk _ _ hz, hk _ _ hTI, ⟨a, b, hk _ _ hTO⟩, (D1 callerA rfl).frame _ _ _ h1 fun b _ o e => hk b o e, (D2 callerA rfl).frame _ _ _ h2 fun b _ o e => hk b o e, fun b hb => let ⟨o, e⟩ := ex b hb; ⟨o, hk _ _ e⟩⟩
  there := fun h ok b hb => by
    obtain ⟨hz, hTI, ⟨a, c, hTO⟩, _, _, ex⟩ := ok
    rcases List.mem_cons.mp hb with rfl | hb
    · exact ⟨_, hz⟩
    rcases List.mem_cons.mp hb with rfl | hb
    · exact ⟨_, hTI⟩
    rcases List.mem_cons.mp hb with rfl | hb
    · exact ⟨_, hTO⟩
    exact ex b hb
  sub := fun b hb => by
    have e : b = z ∨ b = TO ∨ b = i1 ∨ b = i2 := by simpa using hb
    rcases e with rfl | rfl | rfl | rfl
    · simp
    · simp
    · have := S.mem1; simp [this]
    · have := S.mem2; simp [this]
  noKeys := fun A s Q E hA ok h => getAttrOr_miss_zip ok.1 rfl rfl rfl zip_no_keys (by decide +kernel) hA h
  iter := fun A s d Q E hA ok hd hdf h => by
    obtain ⟨hz, hTI, ⟨a, b, hTO⟩, h1, h2, _⟩ := ok
    have dz : d ≠ z := fun e => hdf (by simp [e])
    have dTI : d ≠ TI := fun e => hdf (by simp [e])
    have dTO : d ≠ TO := fun e => hdf (by simp [e])
    have df1 : ∀ b ∈ fp1, b ≠ d := fun b hb e => hdf (by subst e; simp [hb])
    have df2 : ∀ b ∈ fp2, b ≠ d := fun b hb e => hdf (by subst e; simp [hb])
    have dI1 := (df1 _ S.mem1).symm
    have dI2 := (df2 _ S.mem2).symm
    refine wpAny_pyIter_zip hz (h z [z, TO, i1, i2] (fun i h => IsTupOf2 h TI (.ref i1) (.ref i2) ∧ St1 i h ∧ St2 i h ∧
      ((IsZip h z TI TO .none ∧ ∃ a b, IsTupOf2 h TO a b) ∨ ∃ T f oT, IsZipHeld h z TI TO T f ∧ h.get? T = some oT ∧ T ≠ z ∧ T ≠ i1 ∧ T ≠ i2 ∧ T ≠ d)) s.heap s.toks ?_
      ⟨hTI, h1, h2, .inl ⟨hz, a, b, hTO⟩⟩ (fun _ _ e => e) fun b hb => .inl hb)
    exact {
      off := fun hm => by
        have e : d = z ∨ d = TO ∨ d = i1 ∨ d = i2 := by simpa using hm
        rcases e with e | e | e | e
        · exact dz e
        · exact dTO e
        · exact dI1 e
        · exact dI2 e
      frame := fun i h₁ h₂ st hk => by
        obtain ⟨hTI, h1, h2, hz⟩ := st
        refine ⟨hk _ _ (Ne.symm dTI) hTI, (D1 A hA).frame _ _ _ h1 fun b hb o e => hk b o (df1 b hb) e, (D2 A hA).frame _ _ _ h2 fun b hb o e => hk b o (df2 b hb) e, ?_⟩
        rcases hz with ⟨hz, a, b, hTO⟩ | ⟨T, f, oT, hz, hT, r1, r2, r3, r4⟩
        · exact .inl ⟨hk _ _ (Ne.symm dz) hz, a, b, hk _ _ (Ne.symm dTO) hTO⟩
        · exact .inr ⟨T, f, oT, hk _ _ (Ne.symm dz) hz, hk _ _ r4 hT, r1, r2, r3, r4⟩
      item := fun i s₁ Q₁ E₁ hi st hds hQ => by
        obtain ⟨hTI, h1, h2, hz⟩ := st
        have lt : ∀ {c o}, s₁.heap.get? c = some o → s₁.heap.objs.size ≠ c := fun e => Nat.ne_of_gt (Heap.lt_size e)
        have n1' : s₁.heap.objs.size ≠ i1 := let ⟨_, e⟩ := (D1 A hA).live _ _ h1; lt e
        have n2' : s₁.heap.objs.size ≠ i2 := let ⟨_, e⟩ := (D2 A hA).live _ _ h2; lt e
        rcases hz with ⟨hz, a, b, hTO⟩ | ⟨T, f, oT, hz, hT, r1, r2, r3, r4⟩
        · refine wpAny_pyNext_zipD2_item S (D1 A.in1 hA) (D2 A.in1 hA) hz hTI hTO h1 h2 hi hi fun x1 x2 h' tk p1 p2 a1 a2 a3 a4 a5 a6 hk => ?_
          exact hQ s₁.heap.objs.size _ _ h' tk ⟨p1, p2⟩ (.inl ⟨_, a5, rfl, _, rfl⟩)
            ⟨hk _ _ S.TIz S.TITO S.TIi1 S.TIi2 hTI, a3, a4, .inr ⟨s₁.heap.objs.size, false, _, a1, a5, lt hz, n1', n2', Nat.ne_of_gt hds⟩⟩
            fun c o hc e => hk c o (fun x => hc (by simp [x])) (fun x => hc (by simp [x])) (fun x => hc (by simp [x])) (fun x => hc (by simp [x])) e
        · refine pyNext_zipD2_item_held S (D1 A.in1 hA) (D2 A.in1 hA) hz hT hTI h1 h2 hi hi fun x1 x2 h' tk p1 p2 a1 a3 a4 a5 a6 hk => ?_
          exact hQ s₁.heap.objs.size _ _ h' tk ⟨p1, p2⟩ (.inl ⟨_, a5, rfl, _, rfl⟩)
            ⟨hk _ _ S.TIz S.TIi1 S.TIi2 hTI, a3, a4, .inr ⟨T, true, oT, a1, hk _ _ r1 r2 r3 hT, r1, r2, r3, r4⟩⟩
            fun c o hc e => hk c o (fun x => hc (by simp [x])) (fun x => hc (by simp [x])) (fun x => hc (by simp [x])) e
      done := fun s₁ Q₁ E₁ st hQ => by
        obtain ⟨hTI, h1, h2, hz⟩ := st
        rcases hz with ⟨hz, a, b, hTO⟩ | ⟨T, f, oT, hz, hT, r1, r2, r3, r4⟩
        · exact wpAny_pyNext_zipD2_end S (D1 A.in1 hA) (D2 A.in1 hA) hz hTI hTO h1 h2 (Nat.le_refl _) (Nat.le_refl _) (.inl rfl) fun h' tk hk => hQ h' tk
            fun c o hc e => hk c o (fun x => hc (by simp [x])) (fun x => hc (by simp [x])) (fun x => hc (by simp [x])) (fun x => hc (by simp [x])) e
        · exact pyNext_zipD2_end_held S (D1 A.in1 hA) (D2 A.in1 hA) hz hT hTI h1 fun h' hk => hQ h' s₁.toks
            fun c o hc e => hk c o (fun x => hc (by simp [x])) (fun x => hc (by simp [x])) (fun x => hc (by simp [x])) e }
end
theorem zip_map_get {α β γ : Type} (f : α → β → γ) : ∀ (l : List α) (m : List β) (i : Nat), ((l.zip m).map fun p => f p.1 p.2)[i]? = (l[i]?.bind fun a => m[i]?.map fun b => f a b)
  | [], _, i => by simp
  | a :: l, [], i => by cases h : (a :: l)[i]? <;> simp
  | a :: l, b :: m, 0 => rfl
  | a :: l, b :: m, i + 1 => by simpa using zip_map_get f l m i
theorem paired_zip {l : List Nat} : ∀ {ys : List V} {its : List Value}, Vals ys its → KV ((l.zip ys).map fun p => (tk [p.1], p.2)) ((l.zip its).map fun p => (tk [p.1], p.2)) := by
  induction l with
  | nil => intro ys its _; exact .nil
  | cons c l ih =>
    intro ys its r
    cases r with
    | nil => exact .nil
    | cons h t => exact .cons ⟨rfl, h⟩ (ih t)
def tDictZip (K : PySem.W.Frag) (ta : TA) : TE := fun σ H Q => ta σ H fun vs H1 => ∃ (l : List Nat) (b : Addr) (ys : List V), vs = [.str (S l), .ref b] ∧ SqT K H1 b ys ∧ ys.length = l.length ∧ l.length ≤ 1000 ∧
  ∀ p, H1 p = none → Q (.ref p) (upd H1 p (.dK (mergeK [] ((l.zip ys).map fun p => (tk [p.1], p.2)))))
theorem pe_dictZip {X : Cx} {e e2 : Expr} {ta : TA} {p p2 pos pos2 : Pos} (hc : X.calm = true) (hgd : Gl X "dict") (hmd : X.mg "dict" = none) (hg : Gl X "zip") (hm : X.mg "zip" = none) (ha : PA X [e, e2] ta)
    (hs : starEach [e, e2] X.env = (false, eval e X.env) :: starEach [e2] X.env := by rfl) (hpl : (backTo pos2 (starEach [e2] X.env)).any (·.1) = false := by rfl)
    (hs' : starEach [.Call (.Name "zip" p2) [e, e2] [] pos2] X.env = (false, eval (.Call (.Name "zip" p2) [e, e2] [] pos2) X.env) :: starEach [] X.env := by rfl) (hpl' : (backTo pos (starEach [] X.env)).any (·.1) = false := by rfl) :
    PE X (.Call (.Name "dict" p) [.Call (.Name "zip" p2) [e, e2] [] pos2] [] pos) (tDictZip X.K ta) := by
  refine ⟨fun pins s σ H Q I h => ?_⟩
  refine Call_ (ld_blt I hgd hmd PyProof.Rows.boot_dict (PyProof.Rows.callWith_type1 (Q := EP X pins σ Q) ?_ hs' hpl'))
  rw [hs']
  refine PySem.Calls.spliced_cons ?_
  refine Call_ (ld_blt I hg hm PyProof.Rows.boot_zip (PyProof.Rows.callWith_type1 (thn (ha.run pos2 pins s σ H _ I h) fun us s1 ⟨vs, H1, I1, r1, q1⟩ => ?_) hs hpl))
  obtain ⟨l, b, ys, ex, hb, hl, hz, q⟩ := q1
  subst ex
  obtain ⟨u, u', rfl, r, r'⟩ := vals2 r1
  obtain ⟨t, rfl⟩ := (show ∃ t, u = Value.str (S l) t from r)
  obtain rfl : u' = Value.ref b := r'
  obtain ⟨its, rv, ht, _⟩ := I1.tuple hb
  have hlen : its.toArray.size = (S l).cps.size := by rw [List.size_toArray, ← rv.length, hl]; simp [S]
  have hbl : b < s1.heap.objs.size := ht.lt
  refine zip_begins2 (begins_text (S l) t) (begins_tuple b its.toArray) trivial ht fun h' hz' hTI hTO h1 h2 hsz hk => ?_
  refine PySem.Calls.spliced_nil ?_
  have I2 : Inv X pins σ H1 { s1 with heap := h' } := I1.kept (t' := s1.toks) hk
  have f2 : ∀ a ∈ [b], a < s1.heap.objs.size := fun a h => by rw [List.mem_singleton.mp h]; exact hbl
  have S2 := PySem.zip_sep2 (N := s1.heap.objs.size) (fp1 := []) (fp2 := [b]) (fun _ h => nomatch h) f2
  have P := pairArg_zipD2 (prog := X.prog) (w := X.w) S2 (fun A hh => Draws.text hh s1.heap.objs.size (S l) t)
    (fun A hh => hlen ▸ Draws.tuple hh (s1.heap.objs.size + 1) b (Nat.ne_of_lt (Nat.lt_succ_of_lt hbl)) its.toArray)
  have ht2 : h'.IsTuple b its.toArray := (show s1.heap.IsTuple b its.toArray from ht).at fun o e => hk _ _ e
  have hn : H1 h'.objs.size = none := I2.hok.fresh (Nat.le_refl _)
  have hl2 : its.length = l.length := by rw [← rv.length, hl]
  refine PySem.call_dict_pairs (knd := mixKind X.prog X.w) (kvs := (l.zip its).map fun p => (tk [p.1], p.2)) P (I1.ok.hd hc) ?_ ⟨?_, ?_⟩ ?_ fun h3 tk3 hd3 hk3 => ?_
  · refine ⟨hz', hTI, ⟨_, _, hTO⟩, ⟨_, h1, rfl, rfl⟩, ⟨⟨_, h2, rfl, rfl⟩, ht2⟩, fun a ha => ?_⟩
    have e : a = s1.heap.objs.size ∨ a = s1.heap.objs.size + 1 ∨ a = b := by simpa using ha
    rcases e with rfl | rfl | rfl
    · exact ⟨_, h1⟩
    · exact ⟨_, h2⟩
    · obtain ⟨o, e, _⟩ := ht2; exact ⟨o, e⟩
  · rw [List.length_map, List.length_zip, hl2, Nat.min_self]; simp [S]
  · rintro i key v ⟨⟨c, u, hc', rfl⟩, hv⟩
    have hc2 : l[i]? = some c := by simpa [S] using hc'
    have hv2 : its[i]? = some v := by simpa using hv
    refine ⟨tk [c], ?_, kV_is (P := X.prog) (w := X.w) (k := tk [c]) ⟨u, rfl⟩⟩
    rw [zip_map_get (fun a b => (tk [a], b)), hc2, hv2]; rfl
  · simp [S]; exact Nat.le_trans hz (by decide)
  · have kvr : KV ((l.zip ys).map fun p => (tk [p.1], p.2)) ((l.zip its).map fun p => (tk [p.1], p.2)) := paired_zip rv
    have hm' : (h'.objs.size == sysModules) = false := beq_eq_false_iff_ne.mpr (Nat.ne_of_gt I2.big)
    have hlen2 : (mergeK [] ((l.zip ys).map fun p => (tk [p.1], p.2))).length ≤ sizeLine := by
      refine Nat.le_trans (length_mergeK _ []) ?_
      rw [List.length_nil, Nat.zero_add, List.length_map, List.length_zip, hl, Nat.min_self]
      exact Nat.le_trans hz (by decide)
    have keep3 : ∀ c o, s1.heap.get? c = some o → h3.get? c = some o := fun c o e => hk3 c o (fun hm => by
      have hlt : c < s1.heap.objs.size := Heap.lt_size e
      have e' : c = s1.heap.objs.size + 4 ∨ c = s1.heap.objs.size + 3 ∨ c = s1.heap.objs.size ∨ c = s1.heap.objs.size + 1 := by simpa using hm
      have hle : s1.heap.objs.size ≤ c := by
        rcases e' with z | z | z | z
        · rw [z]; exact Nat.le_add_right _ _
        · rw [z]; exact Nat.le_add_right _ _
        · rw [z]; exact Nat.le_refl _
        · rw [z]; exact Nat.le_add_right _ _
      exact Nat.lt_irrefl _ (Nat.lt_of_lt_of_le hlt hle)) (hk _ _ e)
    have hsz5 : s1.heap.objs.size ≤ h'.objs.size := by rw [hsz]; omega
    exact ⟨.ref h'.objs.size, upd H1 h'.objs.size (.dK (mergeK [] ((l.zip ys).map fun p => (tk [p.1], p.2)))), I1.laid (t' := tk3) keep3 hsz5 (show ObjOk X.prog X.w _ _ _ (.dK _) from ⟨hlen2, hm', merged [] _, KV.merge kvr .nil, hd3⟩), rfl, q _ hn⟩
end LX
set_option maxHeartbeats 2000000
namespace LX
open PySem PySem.Spec PyProof.Rows L2 C8 SX
theorem meets_enum1 {v : Value} {o : Obj} {H : Heap → Prop} (B : Begins v o H) :
    Meets (Builtin.«enumerate.__new__» ⟨[.type "enumerate", v], []⟩) (fun _ R s => H s.heap ∧
      R (.ok (.ret (.ref (s.heap.push o).objs.size))) { s with heap := (s.heap.push o).push { cls := .type "enumerate", data := .fields #[.none, .bool false, .ref s.heap.objs.size, rawInt 0, .none, .none] } }) :=
  .of_wp fun prog w A R s h => by
    obtain ⟨hp, g, d, tk, os⟩ := s; obtain ⟨h1, h⟩ := h
    have hsub := sub_enumerate
    have q1 : ∀ {A' : Around} {E : Value → Shared → Prop} {Q : Value → Shared → Prop}, Q (.ref hp.objs.size) ⟨hp.push o, g, d, tk, os⟩ → wpAny (model prog w) A' (pyIter v) Q E ⟨hp, g, d, tk, os⟩ :=
      fun q => B.iter prog w _ _ ⟨hp, g, d, tk, os⟩ _ h1 q
    wp_walk using q1
    refine wpAny_stack_any fun st => wpAny_pure ?_
    split
    · rename_i c _ _ _ _ _
      cases (c == Value.type "enumerate")
      · wp_walk using q1
        exact ⟨_, rfl, h⟩
      · wp_walk using q1
        exact ⟨_, rfl, h⟩
    · wp_walk using q1
      exact ⟨_, rfl, h⟩
theorem enum1_begins {prog : Program} {w : World} {A : Around} {E : Value → Shared → Prop} {s : Shared} {v : Value} {o : Obj} {H : Heap → Prop} {Q : Value → Shared → Prop} (B : Begins v o H) (h1 : H s.heap)
    (h : ∀ h', IsEnum h' (s.heap.objs.size + 1) s.heap.objs.size 0 .none → h'.get? s.heap.objs.size = some o → h'.objs.size = s.heap.objs.size + 2 →
      (∀ b o, s.heap.get? b = some o → h'.get? b = some o) → Q (.ref (s.heap.objs.size + 1)) { s with heap := h' }) :
    wpAny (model prog w) A (call (.type "enumerate") [v]) Q E s := by
  refine callType_new F.called_enumerate (by decide) (F.typeCall_enumerate_1 _) (F.newCall_enumerate_1 _) (fun obj => F.args_object_init_2 obj _) F.entry_enumerate_new
    (meets_enum1 B) ⟨h1, ?_⟩
  have hz : (s.heap.push o).objs.size = s.heap.objs.size + 1 := Heap.size_push ..
  show _ ∧ _
  rw [hz]
  have he : IsEnum ((s.heap.push o).push { cls := .type "enumerate", data := .fields #[.none, .bool false, .ref s.heap.objs.size, rawInt 0, .none, .none] }) (s.heap.objs.size + 1) s.heap.objs.size 0 .none := by
    have := Heap.get?_push_size (s.heap.push o) (o := { cls := .type "enumerate", data := .fields #[.none, .bool false, .ref s.heap.objs.size, rawInt 0, .none, .none] }) rfl
    rw [hz] at this; exact this
  refine ⟨⟨_, he, rfl⟩, h _ he (Heap.get?_push_of_some _ (Heap.get?_push_size _ B.free)) (by rw [Heap.size_push, hz]) fun b o x => Heap.get?_push_of_some _ (Heap.get?_push_of_some _ x)⟩
def IteX (K : PySem.W.Frag) (S : Sr) : It :=
  ⟨fun i H => S.has K i H, fun i H v H' => ∃ T x, v = .ref T ∧ H T = none ∧ H' = upd H T (.tup [.int (i : Nat), x]) ∧ S.val K i H x, fun i H => S.upto K i H ∧ S.ends K i H⟩
theorem turn_enumX {P : Program} {w : World} {K : PySem.W.Frag} {elts : List Expr} {kk : Nat} {tpos : Pos} {e it : Addr} (S : Sr) (n1 : ∀ a ∈ S.fp, a ≠ it) (ne : e ≠ it) (nf : e ∉ S.fp) :
    Turn P w K (.Tuple elts kk tpos) (IteX K S) [e, it] e (fun i h => (∃ old, IsEnum h e it ((i : Nat) : Int) old) ∧ S.tn it i h) where
  mem := by simp
  obj := fun i h st b hb => by
    obtain ⟨⟨old, he⟩, h1⟩ := st
    have e' : b = e ∨ b = it := by simpa using hb
    rcases e' with z | z
    · rw [z]; exact ⟨_, he, fun v q => nomatch q⟩
    · rw [z]; exact Sr.tn_obj h1
  keep := fun i h h' st k => let ⟨⟨old, he⟩, h1⟩ := st; ⟨⟨old, k e (by simp) _ he⟩, Sr.tn_keep h1 fun o q => k it (by simp) o q⟩
  item := by
    intro X hP hw hK hc i pins s σ H E I hf st hg
    subst hP hw hK
    obtain ⟨⟨old, he⟩, h1⟩ := st
    obtain ⟨m1, ⟨P1, St1, D1, st1, v1, t1⟩, _, lt1, _⟩ := S.draws I n1 h1 (Sr.has_upto hg)
    have hel : e < s.heap.objs.size := Heap.lt_size he
    have hil : it < s.heap.objs.size := by obtain ⟨_, q, _⟩ := Sr.tn_obj h1; exact Heap.lt_size q
    refine wpAny_pyNext_enum_itemD (D1 _ (I.ok.hd hc)) he st1 (lt1 hg) ne (by simp [ne, nf]) fun u h' tk p1 ho st1' hT hsz hk => ?_
    obtain ⟨x, hx, rx⟩ := v1 u p1
    refine ⟨_, rfl, wpAny_letOwnedTupleGo_enum (s := { s with heap := h', toks := tk + 1 }) ho fun h'' he' sb => ?_⟩
    have hT2 : h''.get? s.heap.objs.size = some { cls := .type "tuple", data := .seq #[.int i tk, u] } := (sb.2 _ (Nat.ne_of_gt hel)).trans hT
    have new : ObjOk X.prog X.w (upd H s.heap.objs.size (.tup [.int (i : Nat), x])) h'' s.heap.objs.size (.tup [.int (i : Nat), x]) :=
      ⟨by show 2 ≤ sizeLine; decide, [.int i tk, u], .cons ⟨_, rfl⟩ (.cons rx .nil), ⟨_, hT2, rfl, _, rfl⟩⟩
    have I1 : Inv X pins σ (upd H s.heap.objs.size (.tup [.int (i : Nat), x])) { s with heap := h'', toks := tk + 1 } :=
      I.turnedNew (ch := [e, it]) (fun b ob hb q => (sb.2 b (fun z => hb (by simp [z]))).trans (hk b ob (fun z => hb (by simp [z])) (fun z => hb (by simp [z])) q)) hf (Nat.le_refl _) new
    refine ⟨.ref s.heap.objs.size, _, I1, rfl, ⟨_, x, rfl, I.hok.fresh (Nat.le_refl _), rfl, hx⟩, ⟨⟨u, ?_⟩, Sr.tn_keep (t1 _ _ st1') fun o q => (sb.2 it (Ne.symm ne)).trans q⟩, fun b hb => ?_⟩
    · have e1 : ((i + 1 : Nat) : Int) = (i : Int) + 1 := by omega
      rw [e1]; exact he'
    · have hb' : b < s.heap.objs.size := by
        have e' : b = e ∨ b = it := by simpa using hb
        rcases e' with z | z
        · rw [z]; exact hel
        · rw [z]; exact hil
      rw [upd_ne (Nat.ne_of_lt hb')]
      exact (hf b hb).1
  done := by
    intro X hP hw hK hc i pins s σ H E I hf st hg
    subst hP hw hK
    obtain ⟨⟨old, he⟩, h1⟩ := st
    obtain ⟨g1, ge⟩ := hg
    obtain ⟨m1, ⟨P1, St1, D1, st1, v1, t1⟩, _, _, eq1⟩ := S.draws I n1 h1 g1
    obtain ⟨f0, f1, f2, f3, f4, f5⟩ := hf it (by simp)
    have e1 := eq1 ge
    subst e1
    exact wpAny_pyNext_enum_endD (D1 _ (I.ok.hd hc)) he st1 fun h' eb => ⟨rfl, I.turned (t' := s.toks) (fun b o hb q => eb b o hb q) f0 f1 f3 f4 f5⟩
  self := fun A i s Q E st h => let ⟨⟨_, he⟩, _⟩ := st; wpAny_pyIter_enum he h
def iEnumX (K : PySem.W.Frag) (ta : TA) : TI := fun σ H R => ta σ H fun vs H1 => ∃ (x : V) (S : Sr), vs = [x] ∧ S.of x ∧ S.there K H1 ∧ R (IteX K S) H1
theorem pi_enumX {X : Cx} {e : Expr} {ta : TA} {p pos tpos : Pos} {elts : List Expr} {kk : Nat} (hg : Gl X "enumerate") (hm : X.mg "enumerate" = none) (ha : PA X [e] ta) (hs : starEach [e] X.env = [(false, eval e X.env)] := by rfl) :
    PI X (.Tuple elts kk tpos) (.Call (.Name "enumerate" p) [e] [] pos) (iEnumX X.K ta) := by
  refine ⟨fun pins s σ H R I h => ?_⟩
  refine Call_ (ld_blt I hg hm PyProof.Rows.boot_enumerate (PyProof.Rows.callWith_type1 (thn (ha.run pos pins s σ H _ I h) fun us s1 ⟨vs, H1, I1, r1, q1⟩ => ?_) hs rfl))
  obtain ⟨x, S, ex, e1, th1, q⟩ := q1
  subst ex
  obtain ⟨u, rfl, r⟩ := vals1 r1
  obtain ⟨o1, HH1, B1, b1, f1, t1⟩ := Sr.begins I1 r e1 th1
  refine enum1_begins B1 b1 fun h' he hit hsz hk => wpAny_pyIter_enum he ?_
  have I2 : Inv X pins σ H1 { s1 with heap := h' } := I1.kept (t' := s1.toks) hk
  refine ⟨s1.heap.objs.size + 1, [s1.heap.objs.size + 1, s1.heap.objs.size], _, _, H1, rfl, I2, turn_enumX S (fun a ha => Nat.ne_of_lt (f1 a ha)) (Nat.succ_ne_self _) (fun hm => Nat.not_lt.mpr (Nat.le_add_right _ _) (f1 _ hm)), ⟨⟨.none, he⟩, t1 _ _ hit⟩, fun b hb => ?_, q⟩
  have e' : b = s1.heap.objs.size + 1 ∨ b = s1.heap.objs.size := by simpa using hb
  have hle : s1.heap.objs.size ≤ b := by
    rcases e' with z | z
    · rw [z]; exact Nat.le_add_right _ _
    · rw [z]; exact Nat.le_refl _
  exact I1.fpOk hle (I1.hok.fresh hle)
theorem walk_enumX {K : PySem.W.Frag} {S : Sr} {xs : List V} : Walk (IteX K S) xs.length (fun H => S.is K H xs) (YPair (fun i => some (.int (i : Nat))) (fun i => xs[i]?)) := by
  refine ⟨fun i H hi q => Sr.is_has hi q, fun H q => ⟨Sr.is_upto (Nat.le_refl _) q, Sr.is_ends rfl q⟩, fun i H v H' _ q y => ?_⟩
  obtain ⟨T, x, h1, h2, h3, h4⟩ := y
  exact ⟨T, .int (i : Nat), x, h1, h2, h3, rfl, Sr.is_val q h4⟩
theorem dc_keep {Rel : Hp → Hp → Prop} {J : It} {n : Nat} {G : Hp → Prop} {Y : Nat → Hp → V → Hp → Prop} {H1 : Hp} (kp : Keep Rel H1) (w : Walk J n G Y) {g : TG} {ka te : TE} {vs : List Nat} {σ : L2.St} {D : Addr} {Qd : Hp → Prop} (hD : H1 D = none) (hn : n < sizeLine)
    (key : Nat → Key) (Good : Nat → V → Hp → Prop) (hG : ∀ H, Rel H1 H → G H) (inj : ∀ i j, i < n → j < i → key j ≠ key i)
    (st : ∀ i y H H', Rel H1 H → Rel H H' → Good i y H → Good i y H') (pt : ∀ i y H acc o, Rel H1 H → H D = some (.dK acc) → Good i y H → Good i y (upd H D o))
    (hs : ∀ i x H H' acc (R : V → V → Hp → Prop), i < n → Rel H1 H → H D = some (.dK acc) → Y i H x H' → (∀ y H4, Rel H H4 → Good i y H4 → R (kV (key i)) y H4) → g x (wipe σ vs) H' fun σ2 H2 => wipe σ2 vs = wipe σ vs ∧ ka σ2 H2 fun k H3 => te σ2 H3 fun z H4 => R k z H4)
    (hd : ∀ ys H, ys.length = n → (∀ (j : Nat) y, ys[j]? = some y → Good j y H) → Rel H1 H → H D = some (.dK ((List.range n).zip ys |>.map fun p => (key p.1, p.2))) → Qd H) :
    ∃ W : Nat → Nat → Hp → Prop, (∃ m, W 0 m (upd H1 D (.dK []))) ∧ ∀ i m H, W i m H →
      (J.stop i H ∧ Qd H) ∨ (J.go i H ∧ ∃ Nx : Hp → Prop, (∀ H', Nx H' → ∃ m', m' < m ∧ W (i + 1) m' H') ∧ ∀ x H', J.yld i H x H' → g x (wipe σ vs) H' fun σ2 H2 => wipe σ2 vs = wipe σ vs ∧ tYes σ2 H2 fun b H3 =>
        if b = true then ka σ2 H3 fun y H4 => te σ2 H4 fun z H5 => ∃ kvs k, y = kV k ∧ H5 D = some (.dK kvs) ∧ kvs.length < sizeLine ∧ Nx (upd H5 D (.dK (putK kvs k z))) else Nx H3) := by
  refine ⟨fun i m H => m = n - i ∧ i ≤ n ∧ ∃ ys : List V, ys.length = i ∧ H D = some (.dK ((List.range i).zip ys |>.map fun p => (key p.1, p.2))) ∧ Rel H1 H ∧ ∀ (j : Nat) y, ys[j]? = some y → Good j y H, ⟨n, by omega, Nat.zero_le _, [], rfl, upd_same, kp.put _ _ _ kp.refl hD, fun j y e => by simp at e⟩, ?_⟩
  rintro i m H ⟨rfl, hi, ys, hl, hDa, r, hg⟩
  rcases Nat.lt_or_ge i n with h | h
  · refine .inr ⟨w.goes i H h (hG H r), fun H' => ∃ ys : List V, ys.length = i + 1 ∧ H' D = some (.dK ((List.range (i + 1)).zip ys |>.map fun p => (key p.1, p.2))) ∧ Rel H1 H' ∧ ∀ (j : Nat) y, ys[j]? = some y → Good j y H', fun H' h' => ⟨n - (i + 1), by omega, rfl, h, h'⟩, fun x H' hy => ?_⟩
    have key2 : ∀ (z : V) H5, Rel H H5 → Good i z H5 → ∃ kvs k, kV (key i) = kV k ∧ H5 D = some (.dK kvs) ∧ kvs.length < sizeLine ∧ ∃ ys : List V, ys.length = i + 1 ∧ (upd H5 D (.dK (putK kvs k z))) D = some (.dK ((List.range (i + 1)).zip ys |>.map fun p => (key p.1, p.2))) ∧ Rel H1 (upd H5 D (.dK (putK kvs k z))) ∧ ∀ (j : Nat) y, ys[j]? = some y → Good j y (upd H5 D (.dK (putK kvs k z))) := fun z H5 r5 gz => by
      have hD5 := kp.get _ _ _ _ r5 hD r hDa
      have r6 := kp.trans _ _ r r5
      refine ⟨_, key i, rfl, hD5, by rw [List.length_map, List.length_zip, List.length_range, hl]; omega, ys ++ [z], by simp [hl], ?_, kp.put _ _ _ r6 hD, fun j y e => ?_⟩
      · rw [upd_same]
        congr 2
        rw [putK_new _ (valV_none fun p hp => ?_), List.range_succ, List.zip_append (by rw [List.length_range, hl])]
        · simp
        · obtain ⟨q, hq, rfl⟩ := List.mem_map.mp hp
          have : q.1 < i := List.mem_range.mp (List.of_mem_zip hq).1
          exact inj i q.1 h this
      · rcases Nat.lt_or_ge j ys.length with h | h
        · rw [List.getElem?_append_left h] at e
          exact pt _ _ _ _ _ r6 hD5 (st _ _ _ _ r r5 (hg j y e))
        · rw [List.getElem?_append_right h] at e
          have hj : j - ys.length = 0 := by
            rcases Nat.lt_or_ge (j - ys.length) 1 with z | z
            · omega
            · rw [List.getElem?_eq_none (by simpa using z)] at e; cases e
          rw [hj] at e
          have : z = y := Option.some.inj e
          subst this
          have : j = i := by omega
          subst this
          exact pt _ _ _ _ _ r6 hD5 gz
    exact hs i x H H' _ (fun k z H5 => ∃ kvs k', k = kV k' ∧ H5 D = some (.dK kvs) ∧ kvs.length < sizeLine ∧ ∃ ys : List V, ys.length = i + 1 ∧ (upd H5 D (.dK (putK kvs k' z))) D = some (.dK ((List.range (i + 1)).zip ys |>.map fun p => (key p.1, p.2))) ∧ Rel H1 (upd H5 D (.dK (putK kvs k' z))) ∧ ∀ (j : Nat) y, ys[j]? = some y → Good j y (upd H5 D (.dK (putK kvs k' z)))) h r hDa (w.yields i H x H' h (hG H r) hy) fun y H4 r4 gy => key2 y H4 r4 gy
  · have : i = n := by omega
    subst this
    exact .inl ⟨w.stops H (hG H r), hd ys H hl hg r hDa⟩
end LX
set_option maxHeartbeats 4000000
namespace LX
open PySem PySem.Spec PyProof.Rows L2 C8 SX
theorem inK {X : Cx} (K : PySem.W.Frag) (h : X.K = K := by rfl) : OpR X (compareOp .In) (rIn K false) := by subst h; exact op_in_seq
theorem notInK {X : Cx} (K : PySem.W.Frag) (h : X.K = K := by rfl) : OpR X (compareOp .NotIn) (rIn K true) := by subst h; exact op_notIn_seq
section
variable {prog : Program} {w : World} {A : Around} {R : Result → Shared → Prop} {I S : Addr} {fp wr : List Addr} {G : Array GenState → Array GenState → Prop} {n : Nat} {P : Nat → Value → Prop} {St : Nat → Shared → Prop}
abbrev setO (led : Bool) : Obj := { cls := .type "set", dict := none, data := .set #[] 0 (.fresh 0 0 led) }
abbrev Elem (prog : Program) (w : World) (xs : List Str) (i : Nat) (S : Addr) (h : Heap) : Prop := h.SetOf (PySem.strKind prog w) S (fun k => decide (k ∈ xs.take i)) i
theorem Elem.stay {xs : List Str} {i : Nat} {h h' : Heap} (e : Elem prog w xs i S h) (k : ∀ o, h.get? S = some o → h'.get? S = some o) : Elem prog w xs i S h' :=
  let ⟨o, es, ep, tb, ho, rest⟩ := e; ⟨o, es, ep, tb, k o ho, rest⟩
theorem set_loopT (W : WalksS prog w A.in1 I fp wr G n P St) (off : S ∉ fp) {xs : List Str} (hl : xs.length = n) (nd : xs.Nodup) (room : n < scanBound) (val : ∀ i v, P i v → ∃ x t, xs[i]? = some x ∧ v = .str x t) :
    ∀ (k i : Nat) (s : Shared), i + k = n → St i s → Elem prog w xs i S s.heap → (∀ s', Moved (S :: wr) G s s' → Elem prog w xs n S s'.heap → R (.ok (.ret .none)) s') →
      codeAny (model prog w) A (.builtin "set.update.loop" ⟨[.ref S, .ref I], []⟩) R s
  | 0, i, s, hk, hst, he, hR => by
    obtain rfl : i = n := hk
    refine codeAny_builtin PyProof.Rows.F.entry_set_update_loop ?_
    rw [Around.under_plainId PyProof.Rows.F.plain_set_update_loop _]
    refine wpAny_bind (W.done s _ _ hst fun s' hm => wpAny_pure (hR s' (hm.mono fun b hb => List.mem_cons_of_mem _ hb) (he.stay fun o e => hm.heap S o (fun h => off (W.sub _ h)) e)))
  | k + 1, i, s, hk, hst, he, hR => by
    refine codeAny_builtin PyProof.Rows.F.entry_set_update_loop ?_
    rw [Around.under_plainId PyProof.Rows.F.plain_set_update_loop _]
    refine wpAny_bind (W.item i s _ _ (by omega) hst fun v s' hP hst' hm => ?_)
    obtain ⟨x, t, hx, rfl⟩ := val i v hP
    have he' : Elem prog w xs i S s'.heap := he.stay fun o e => hm.heap S o (fun h => off (W.sub _ h)) e
    show wpAny _ A.in1 (holding [Value.str x t] (setAdd S (.str x t)) >>= _) _ _ s'
    refine wpAny_bind (wpAny_holding ?_)
    unfold setAdd
    refine wpAny_holding (wpAny_bind ((PySem.strKind prog w).pyHash (k := x) (strKind_is _ _ _ _) ?_))
    refine wpAny_setAddHashed_of (knd := PySem.strKind prog w) (s := { s' with toks := s'.toks + 1 }) (strKind_is _ _ _ _) rfl he' (by omega) fun h' hsb hS2 => ?_
    have hni : x ∉ xs.take i := not_in_take nd hx
    have he2 : Elem prog w xs (i + 1) S h' := SetOf_congr hS2 (fun y => by rw [take_more hx]; by_cases e : y ∈ xs.take i <;> by_cases e2 : y = x <;> simp [e, e2]) (by rw [if_neg (by simpa using hni)])
    refine wpAny_pure ⟨plainId_quiet PyProof.Rows.F.plain_set_update_loop _, set_loopT W off hl nd room val k (i + 1) _ (by omega) (W.frame _ s' _ _ hst' (Nat.le_succ _) fun b hb o e => ?_) he2 fun s2 hm2 he3 => ?_⟩
    · rw [hsb.2 b (fun h => off (h ▸ hb))]; exact e
    · refine hR s2 (Moved.trans W.gtrans ((hm.mono fun b hb => List.mem_cons_of_mem _ hb).then_heap (Nat.le_succ _) fun b o hb e => ?_) hm2) he3
      rw [hsb.2 b (fun h => hb (by rw [h]; exact List.mem_cons_self))]; exact e
end
section
variable {prog : Program} {w : World} {A : Around} {E : Value → Shared → Prop} {s : Shared}
theorem set_of_list {l : Addr} {items : Array Value} {xs : List Str} {Q : Value → Shared → Prop} (hh : A.handled = none) (hl : s.heap.IsList l items) (hi : PyProof.Rows.StrsAre items.toList xs) (nd : xs.Nodup) (room : xs.length < scanBound)
    (h : ∀ (h' : Heap) (tk : Nat), Elem prog w xs xs.length s.heap.objs.size h' → (∀ b o, s.heap.get? b = some o → h'.get? b = some o) → Q (.ref s.heap.objs.size) { s with heap := h', toks := tk }) :
    wpAny (model prog w) A (call (.type "set") [.ref l]) Q E s := by
  obtain ⟨c, tl, hmro⟩ := PySem.F.called_set.mro
  have hmade := PySem.F.called_set.made
  have hsub := PySem.F.called_set.sub
  refine wpAny_call (codeAny_of_tree ?_)
  refine wpAny_pure ⟨Code.quiet_builtin _ (by decide +kernel), codeAny_builtin PySem.F.entry_type_call ?_⟩
  rw [Around.under_plain (weight_type_call_type "set" [.ref l] []) rfl]
  have nt := PySem.F.called_set.notType
  have cc := PySem.F.called_set.canCreate
  have ct := PySem.F.typeCall_set_1 (.ref l)
  repeat (any_goals (first | assumption | wp_step))
  refine codeAny_mono (code_set_new_1 (.ref l) (E := E) (Q₁ := fun obj s1 => ∃ led : Bool, obj = .ref s.heap.objs.size ∧ s1 = { s with heap := s.heap.push { cls := .type "set", dict := none, data := .set #[] 0 (.fresh 0 0 led) } }) fun led => ⟨led, rfl, rfl⟩) fun r s1 hr => ?_
  match r, hr with
  | .ok (.ret obj), hr =>
    obtain ⟨led, rfl, rfl⟩ := hr
    have hS : (s.heap.push (setO led)).get? s.heap.objs.size = some (setO led) := Heap.get?_push_size _ rfl
    have hTy : Shared.TypeIs { s with heap := s.heap.push (setO led) } (.ref s.heap.objs.size) "set" := ⟨_, hS, rfl⟩
    have li := PySem.F.called_set.init.lookup
    have bi := PySem.F.called_set.init.bind (.ref s.heap.objs.size)
    repeat (any_goals (first | assumption | wp_step))
    refine codeAny_mono (codeAny_call_builtin (R := wants (fun r s2 => r = .none ∧ ∃ h' tk, s2 = { s with heap := h', toks := tk } ∧ Elem prog w xs xs.length s.heap.objs.size h' ∧ (∀ b o, s.heap.get? b = some o → h'.get? b = some o)) E)
      PySem.F.called_set.init.plain PySem.F.entry_set_init (check_set_init_1 hTy ?_)) fun r2 s2 hr2 => ?_
    · obtain ⟨⟨oc, od, odt, osl⟩, hol, hcl, nl, hdl⟩ := hl
      dsimp only at hcl hdl
      subst hcl hdl
      have hol' : (s.heap.push (setO led)).get? l = some { cls := .type "list", dict := od, data := .seq items nl, slots := osl } := Heap.get?_push_of_some _ hol
      have ss := PySem.F.sub_list_set
      have sf := PySem.F.sub_list_frozenset
      have ne : (Value.type "list" == Value.type "dict") = false := by decide
      have hl1 : (s.heap.push (setO led)).IsList l items := ⟨_, hol', rfl, nl, rfl⟩
      unfold Builtin.«set.__init__» noKeywords Builtin.Frozenset.updateFrom
      generalize hPI : pyIter = PI
      wp_walk
      subst hPI
      refine wpAny_pyIter_list hl1 ?_
      refine wpAny_bind (wpAny_runValue ?_)
      have hlS : l < s.heap.objs.size := Heap.lt_size hol
      have hz : (s.heap.push (setO led)).objs.size = s.heap.objs.size + 1 := Heap.size_push ..
      have neI : l ≠ (s.heap.push (setO led)).objs.size := by rw [hz]; exact Nat.ne_of_lt (Nat.lt_succ_of_lt hlS)
      have off : s.heap.objs.size ∉ [(s.heap.push (setO led)).objs.size, l] := by
        rw [hz]; simp only [List.mem_cons, List.not_mem_nil, or_false, not_or]
        exact ⟨Nat.ne_of_lt (Nat.lt_succ_self _), Nat.ne_of_gt hlS⟩
      have hsz : xs.length = items.size := by rw [← StrsAre.len_eq hi, Array.length_toList]
      refine set_loopT (xs := xs) ((Walks.list (A := A.in1.in1.in1) (by simp [hh]) _ l neI items).toS) off hsz nd (by rw [← hsz]; exact room) (fun i v hv => ?_) items.size 0 _ (Nat.zero_add _) ⟨⟨_, Heap.get?_push_size _ rfl, rfl, rfl⟩, hl1.push _⟩ ?_ fun s' hm hS' => ?_
      · obtain ⟨t, e⟩ := SS.strs_at hi i v (by rw [Array.getElem?_toList]; exact hv)
        have hlt : i < xs.length := by rw [hsz]; exact (Array.getElem?_eq_some_iff.mp hv).1
        exact ⟨xs[i], t, List.getElem?_eq_getElem hlt, by rw [e, List.getD_eq_getElem?_getD, List.getElem?_eq_getElem hlt]; rfl⟩
      · exact PyProof.Rows.SetOf_congr ((PyProof.Rows.setObjOf_fresh (knd := PySem.strKind prog w) led).setOf (Heap.get?_push_of_some _ hS) (by unfold scanBound; omega)) (fun _ => by simp) rfl
      · obtain ⟨h', g', d', tk', os'⟩ := s'
        obtain rfl : g' = s.gens := hm.gens
        obtain rfl : d' = s.drawn := hm.drawn
        obtain rfl : os' = s.os := hm.os
        refine wpAny_pure (wpAny_pure ⟨rfl, h', tk', rfl, by rw [hsz]; exact hS', fun b o e => ?_⟩)
        have hb : b < s.heap.objs.size := Heap.lt_size e
        refine hm.heap b o (fun hmem => ?_) (Heap.get?_push_of_some _ (Heap.get?_push_of_some _ e))
        have e' : b = s.heap.objs.size ∨ b = (s.heap.push (setO led)).objs.size := by simpa using hmem
        rcases e' with e' | e'
        · exact Nat.ne_of_lt hb e'
        · rw [hz] at e'; exact Nat.ne_of_lt (Nat.lt_succ_of_lt hb) e'
    · match r2, hr2 with
      | .ok (.ret r), hr2 =>
        obtain ⟨rfl, h', tk, rfl, hS', hk'⟩ := hr2
        repeat (any_goals (first | assumption | wp_step))
        exact h _ _ hS' hk'
      | .error e, hr2 => exact hr2
  | .error e, hr => exact hr
end
section
variable {prog : Program} {w : World} {A : Around} {E : Value → Shared → Prop} {s : Shared}
theorem set_of_tuple {l : Addr} {items : Array Value} {xs : List Str} {Q : Value → Shared → Prop} (hh : A.handled = none) (hl : s.heap.IsTuple l items) (hi : PyProof.Rows.StrsAre items.toList xs) (nd : xs.Nodup) (room : xs.length < scanBound)
    (h : ∀ (h' : Heap) (tk : Nat), Elem prog w xs xs.length s.heap.objs.size h' → (∀ b o, s.heap.get? b = some o → h'.get? b = some o) → Q (.ref s.heap.objs.size) { s with heap := h', toks := tk }) :
    wpAny (model prog w) A (call (.type "set") [.ref l]) Q E s := by
  obtain ⟨c, tl, hmro⟩ := PySem.F.called_set.mro
  have hmade := PySem.F.called_set.made
  have hsub := PySem.F.called_set.sub
  refine wpAny_call (codeAny_of_tree ?_)
  refine wpAny_pure ⟨Code.quiet_builtin _ (by decide +kernel), codeAny_builtin PySem.F.entry_type_call ?_⟩
  rw [Around.under_plain (weight_type_call_type "set" [.ref l] []) rfl]
  have nt := PySem.F.called_set.notType
  have cc := PySem.F.called_set.canCreate
  have ct := PySem.F.typeCall_set_1 (.ref l)
  repeat (any_goals (first | assumption | wp_step))
  refine codeAny_mono (code_set_new_1 (.ref l) (E := E) (Q₁ := fun obj s1 => ∃ led : Bool, obj = .ref s.heap.objs.size ∧ s1 = { s with heap := s.heap.push { cls := .type "set", dict := none, data := .set #[] 0 (.fresh 0 0 led) } }) fun led => ⟨led, rfl, rfl⟩) fun r s1 hr => ?_
  match r, hr with
  | .ok (.ret obj), hr =>
    obtain ⟨led, rfl, rfl⟩ := hr
    have hS : (s.heap.push (setO led)).get? s.heap.objs.size = some (setO led) := Heap.get?_push_size _ rfl
    have hTy : Shared.TypeIs { s with heap := s.heap.push (setO led) } (.ref s.heap.objs.size) "set" := ⟨_, hS, rfl⟩
    have li := PySem.F.called_set.init.lookup
    have bi := PySem.F.called_set.init.bind (.ref s.heap.objs.size)
    repeat (any_goals (first | assumption | wp_step))
    refine codeAny_mono (codeAny_call_builtin (R := wants (fun r s2 => r = .none ∧ ∃ h' tk, s2 = { s with heap := h', toks := tk } ∧ Elem prog w xs xs.length s.heap.objs.size h' ∧ (∀ b o, s.heap.get? b = some o → h'.get? b = some o)) E)
      PySem.F.called_set.init.plain PySem.F.entry_set_init (check_set_init_1 hTy ?_)) fun r2 s2 hr2 => ?_
    · obtain ⟨⟨oc, od, odt, osl⟩, hol, hcl, nl, hdl⟩ := hl
      dsimp only at hcl hdl
      subst hcl hdl
      have hol' : (s.heap.push (setO led)).get? l = some { cls := .type "tuple", dict := od, data := .seq items nl, slots := osl } := Heap.get?_push_of_some _ hol
      have ss := PySem.F.sub_tuple_set
      have sf := PySem.F.sub_tuple_frozenset
      have ne : (Value.type "tuple" == Value.type "dict") = false := by decide
      have hl1 : (s.heap.push (setO led)).IsTuple l items := ⟨_, hol', rfl, nl, rfl⟩
      unfold Builtin.«set.__init__» noKeywords Builtin.Frozenset.updateFrom
      generalize hPI : pyIter = PI
      wp_walk
      subst hPI
      refine wpAny_pyIter_tuple hl1 ?_
      refine wpAny_bind (wpAny_runValue ?_)
      have hlS : l < s.heap.objs.size := Heap.lt_size hol
      have hz : (s.heap.push (setO led)).objs.size = s.heap.objs.size + 1 := Heap.size_push ..
      have neI : l ≠ (s.heap.push (setO led)).objs.size := by rw [hz]; exact Nat.ne_of_lt (Nat.lt_succ_of_lt hlS)
      have off : s.heap.objs.size ∉ [(s.heap.push (setO led)).objs.size, l] := by
        rw [hz]; simp only [List.mem_cons, List.not_mem_nil, or_false, not_or]
        exact ⟨Nat.ne_of_lt (Nat.lt_succ_self _), Nat.ne_of_gt hlS⟩
      have hsz : xs.length = items.size := by rw [← StrsAre.len_eq hi, Array.length_toList]
      refine set_loopT (xs := xs) ((Walks.tuple (A := A.in1.in1.in1) (by simp [hh]) _ l neI items).toS) off hsz nd (by rw [← hsz]; exact room) (fun i v hv => ?_) items.size 0 _ (Nat.zero_add _) ⟨⟨_, Heap.get?_push_size _ rfl, rfl, rfl⟩, hl1.push _⟩ ?_ fun s' hm hS' => ?_
      · obtain ⟨t, e⟩ := SS.strs_at hi i v (by rw [Array.getElem?_toList]; exact hv)
        have hlt : i < xs.length := by rw [hsz]; exact (Array.getElem?_eq_some_iff.mp hv).1
        exact ⟨xs[i], t, List.getElem?_eq_getElem hlt, by rw [e, List.getD_eq_getElem?_getD, List.getElem?_eq_getElem hlt]; rfl⟩
      · exact PyProof.Rows.SetOf_congr ((PyProof.Rows.setObjOf_fresh (knd := PySem.strKind prog w) led).setOf (Heap.get?_push_of_some _ hS) (by unfold scanBound; omega)) (fun _ => by simp) rfl
      · obtain ⟨h', g', d', tk', os'⟩ := s'
        obtain rfl : g' = s.gens := hm.gens
        obtain rfl : d' = s.drawn := hm.drawn
        obtain rfl : os' = s.os := hm.os
        refine wpAny_pure (wpAny_pure ⟨rfl, h', tk', rfl, by rw [hsz]; exact hS', fun b o e => ?_⟩)
        have hb : b < s.heap.objs.size := Heap.lt_size e
        refine hm.heap b o (fun hmem => ?_) (Heap.get?_push_of_some _ (Heap.get?_push_of_some _ e))
        have e' : b = s.heap.objs.size ∨ b = (s.heap.push (setO led)).objs.size := by simpa using hmem
        rcases e' with e' | e'
        · exact Nat.ne_of_lt hb e'
        · rw [hz] at e'; exact Nat.ne_of_lt (Nat.lt_succ_of_lt hb) e'
    · match r2, hr2 with
      | .ok (.ret r), hr2 =>
        obtain ⟨rfl, h', tk, rfl, hS', hk'⟩ := hr2
        repeat (any_goals (first | assumption | wp_step))
        exact h _ _ hS' hk'
      | .error e, hr2 => exact hr2
  | .error e, hr => exact hr
end
section
variable {X : Cx}
def tLenSetT (K : PySem.W.Frag) (ta : TE) : TE := fun σ H Q => ta σ H fun x H1 => ∃ (l : Addr) (xs : List (List Nat)), x = V.ref l ∧ (SqL K H1 l (txs xs) ∨ SqT K H1 l (txs xs)) ∧ xs.length < 60 ∧ xs.Nodup ∧ Q (.int xs.length) H1
theorem nodup_S {xs : List (List Nat)} (h : xs.Nodup) : (xs.map S).Nodup := List.pairwise_map.mpr (h.imp fun n e => n (by have : (S _).cps.toList = (S _).cps.toList := congrArg (fun z : Str => z.cps.toList) e; simpa [S] using this))
theorem pe_lenSetT {a : Expr} {ta : TE} {p p2 q pos : Pos} (hc : X.calm = true) (hg : Gl X "len") (hm : X.mg "len" = none) (hg2 : Gl X "set") (hm2 : X.mg "set" = none) (ha : PE X a ta)
    (na : starEach [a] X.env = (false, eval a X.env) :: starEach [] X.env := by rfl) : PE X (.Call (.Name "len" p) [.Call (.Name "set" p2) [a] [] q] [] pos) (tLenSetT X.K ta) := by
  refine ⟨fun pins s σ H Q I h => ?_⟩
  refine Call_ (ld_blt I hg hm PySem.boot_len (PyProof.Rows.callWith_builtin1 (PyProof.Rows.args_cons ?_ rfl) rfl rfl))
  refine Call_ (ld_blt I hg2 hm2 PyProof.Rows.boot_set (PyProof.Rows.callWith_type1 (PyProof.Rows.args_cons (thn (ha.run pins s σ H _ I h) fun v s1 ⟨x, H1, I1, r1, q1⟩ => PyProof.Rows.args_nil ?_) na) na rfl))
  obtain ⟨l, xs, rfl, hq, h1, hnd, q1⟩ := q1
  cases r1
  have e0 : txs xs = (xs.map S).map V.str := by unfold txs; rw [List.map_map]; rfl
  have room : (xs.map S).length < scanBound := by rw [List.length_map]; unfold scanBound; omega
  have fin : ∀ (h' : Heap) (tk : Nat), Elem X.prog X.w (xs.map S) (xs.map S).length s1.heap.objs.size h' → (∀ b o, s1.heap.get? b = some o → h'.get? b = some o) →
      wpAny (model X.prog X.w) X.A (spliced (backTo pos (starEach [] X.env))) (fun vs s₂ => wpAny (model X.prog X.w) X.A (call (.builtin "len") (Value.ref s1.heap.objs.size :: vs)) (EP X pins σ Q) X.xe s₂) X.xe { s1 with heap := h', toks := tk } := fun h' tk hS hk => by
    refine PyProof.Rows.args_nil ?_
    obtain ⟨o, es, ep, t, ho, hex, hd, _, _, _, hf, hn⟩ := hS
    have I2 : Inv X pins σ H1 { s1 with heap := h', toks := tk } := I1.kept hk
    rw [List.length_map] at hn
    exact call_len_set ho hex hd hf (by rw [hn]; omega) ⟨.int xs.length, H1, I2.tok _, ⟨_, by rw [hn]⟩, q1⟩
  rcases hq with hq | hq
  · rw [e0] at hq
    obtain ⟨its, r, pl, hz⟩ := I1.list hq
    exact set_of_list (I1.ok.hd hc) pl.isList (by simpa using strsAre_of r) (nodup_S hnd) room fun h' tk hS hk => fin h' tk hS hk
  · rw [e0] at hq
    obtain ⟨its, r, pl, hz⟩ := I1.tuple hq
    exact set_of_tuple (I1.ok.hd hc) pl (by simpa using strsAre_of r) (nodup_S hnd) room fun h' tk hS hk => fin h' tk hS hk
end
end LX
set_option maxHeartbeats 2000000
namespace LX
open PySem PySem.Spec PyProof.Rows L2 C8 SX
def SqB (K : PySem.W.Frag) (b : Bool) (H : Hp) (a : Addr) (xs : List V) : Prop := if b = true then SqL K H a xs else SqT K H a xs
def ItA (K : PySem.W.Frag) (b : Bool) (a : Addr) : It := if b = true then Itl K a else Itt K a
theorem SqB.or {K : PySem.W.Frag} {b : Bool} {H : Hp} {a : Addr} {xs : List V} (h : SqB K b H a xs) : SqL K H a xs ∨ SqT K H a xs := by
  cases b
  · exact .inr h
  · exact .inl h
theorem SqB.same {K : PySem.W.Frag} {b : Bool} {H H' : Hp} {a : Addr} {xs : List V} (h : SqB K b H a xs) (s : Same H H') : SqB K b H' a xs := by
  cases b
  · exact sm_seqT s h
  · exact s.seq h
theorem SqB.lst {K : PySem.W.Frag} {H : Hp} {a : Addr} {xs : List V} (h : H a = some (.lst xs)) : SqB K true H a xs := SqL.of h
theorem SqB.tup {K : PySem.W.Frag} {H : Hp} {a : Addr} {xs : List V} (h : H a = some (.tup xs)) : SqB K false H a xs := SqT.of h
def seqB (b : Bool) (xs : List V) : HO := if b = true then .lst xs else .tup xs
theorem SqB.of {K : PySem.W.Frag} {b : Bool} {H : Hp} {a : Addr} {xs : List V} (h : H a = some (seqB b xs)) : SqB K b H a xs := by
  cases b
  · exact SqB.tup h
  · exact SqB.lst h
theorem walk_seq {K : PySem.W.Frag} {b : Bool} {a : Addr} {xs : List V} : Walk (ItA K b a) xs.length (fun H => SqB K b H a xs) (YAt xs) := by
  cases b
  · exact walk_tup
  · exact walk_list
def iSeq (K : PySem.W.Frag) (tl : TE) : TI := fun σ H R => tl σ H fun x H1 => ∃ a b xs, x = .ref a ∧ SqB K b H1 a xs ∧ R (ItA K b a) H1
theorem pi_seq {X : Cx} {tg l : Expr} {tl : TE} (hl : PE X l tl) : PI X tg l (iSeq X.K tl) := by
  refine ⟨fun pins s σ H R I h => thn (hl.run pins s σ H _ I h) fun v s1 ⟨x, H1, I1, r1, a, b, xs, e, hq, q⟩ => ?_⟩
  subst e
  cases r1
  have new : ∀ c ∈ [s1.heap.objs.size], FpOk X pins H1 c := fun c hc => by
    rw [List.mem_singleton.mp hc]
    exact I1.fpOk (Nat.le_refl _) (I1.hok.fresh (Nat.le_refl _))
  cases b with
  | true =>
    obtain ⟨its, rv, p, hz⟩ := I1.list hq
    exact wpAny_pyIter_list p.isList ⟨s1.heap.objs.size, _, _, _, H1, rfl, I1.kept (t' := s1.toks) fun b o e => Heap.get?_push_of_some _ e, turn_list a _, ⟨_, Heap.get?_push_size _ rfl, rfl, rfl⟩, new, q⟩
  | false =>
    obtain ⟨its, rv, p, hz⟩ := I1.tuple hq
    exact wpAny_pyIter_tuple (show s1.heap.IsTuple a its.toArray from p) ⟨s1.heap.objs.size, _, _, _, H1, rfl, I1.kept (t' := s1.toks) fun b o e => Heap.get?_push_of_some _ e, turn_tuple a _, ⟨_, Heap.get?_push_size _ rfl, rfl, rfl⟩, new, q⟩
theorem pi_listK {X : Cx} {tg l : Expr} {tl : TE} (K : PySem.W.Frag) (hl : PE X l tl) (h : X.K = K := by rfl) : PI X tg l (iList K tl) := by subst h; exact pi_list hl
theorem pi_tupK {X : Cx} {tg l : Expr} {tl : TE} (K : PySem.W.Frag) (hl : PE X l tl) (h : X.K = K := by rfl) : PI X tg l (iTup K tl) := by subst h; exact pi_tup hl
theorem pi_seqK {X : Cx} {tg l : Expr} {tl : TE} (K : PySem.W.Frag) (hl : PE X l tl) (h : X.K = K := by rfl) : PI X tg l (iSeq K tl) := by subst h; exact pi_seq hl
def inS : Expr → Scope
  | .ListComp (.ListComp _ _ s _) _ _ _ => s
  | _ => { kind := .function, names := [], isGenerator := false, isCoroutine := false }
def outS : Expr → Scope
  | .ListComp _ _ s _ => s
  | _ => { kind := .function, names := [], isGenerator := false, isCoroutine := false }
def ofRet : Stmt → Expr
  | .Return (some e) _ => e
  | .Assign _ e _ => e
  | _ => .Constant .none 0 ⟨0, 0, 0, 0⟩
theorem tuple_of {K : PySem.W.Frag} {b : Bool} {H : Hp} {a : Addr} {xs : List V} {Q : VK} (h : SqB K b H a xs) (q1 : ∀ l, H l = none → Q (.ref l) (upd H l (.tup xs))) (q2 : b = false → Q (.ref a) H) :
    (SqL K H a xs ∧ ∀ l, H l = none → Q (.ref l) (upd H l (.tup xs))) ∨ (SqT K H a xs ∧ Q (.ref a) H) := by
  cases b
  · exact .inr ⟨h, q2 rfl⟩
  · exact .inl ⟨h, q1⟩
theorem tupA {K : PySem.W.Frag} {b : Bool} {H : Hp} {a : Addr} {xs : List V} {Q : VK} (h : H a = some (seqB b xs)) (k : ∀ l H', Same H H' → H' l = some (.tup xs) → (b = false → l = a) → (b = true → H l = none) → Q (.ref l) H') :
    (SqL K H a xs ∧ ∀ l, H l = none → Q (.ref l) (upd H l (.tup xs))) ∨ (SqT K H a xs ∧ Q (.ref a) H) := by
  cases b
  · exact .inr ⟨SqT.of h, k a H (Same.refl H) h (fun _ => rfl) (fun h => nomatch h)⟩
  · exact .inl ⟨SqL.of h, fun l hl => k l _ (sm_new hl) upd_same (fun h => nomatch h) (fun _ => hl)⟩
theorem tCB_tup {K : PySem.W.Frag} {b : Bool} {i : Nat} {σ : L2.St} {H : Hp} {a : Addr} {xs : List V} {Q : VK} (hv : σ[i]? = some (some (.ref a))) (h : H a = some (seqB b xs)) (k : ∀ l H', Same H H' → H' l = some (.tup xs) → (b = false → l = a) → (b = true → H l = none) → Q (.ref l) H') :
    tCB (fun xs H Q => ∃ p ys, xs = [.ref p] ∧ ((SqL K H p ys ∧ ∀ l, H l = none → Q (.ref l) (upd H l (.tup ys))) ∨ (SqT K H p ys ∧ Q (.ref p) H))) (tCons (tVar i) tNil) σ H Q :=
  ⟨_, hv, a, xs, rfl, tupA (Q := Q) h k⟩
theorem eqV_S {x y : List Nat} : eqV (.str (S x)) (.str (S y)) = decide (x = y) := by
  show (S x == S y) = _
  by_cases e : x = y
  · subst e; simp
  · have : S x ≠ S y := fun h => e (by have : (S x).cps.toList = (S y).cps.toList := congrArg (fun z : Str => z.cps.toList) h; simpa [S] using this)
    rw [decide_eq_false e]; simpa using this
theorem flat_txs (xs : List (List Nat)) : (txs xs).all flatV = true := by
  unfold txs; rw [List.all_map]; exact List.all_eq_true.mpr fun _ _ => rfl
theorem inV_txs {x : List Nat} {xs : List (List Nat)} : inV (.str (S x)) (txs xs) = decide (x ∈ xs) := by
  unfold inV txs
  induction xs with
  | nil => rfl
  | cons y ys ih =>
    rw [List.map_cons, List.any_cons, ih]
    show (eqV (.str (S y)) (.str (S x)) || _) = _
    rw [eqV_S]
    by_cases e : y = x <;> by_cases e2 : x ∈ ys <;> simp [e, e2]
    · intro h; exact absurd h.symm e
theorem dictZipK {X : Cx} (K : PySem.W.Frag) {e e2 : Expr} {ta : TA} {p p2 pos pos2 : Pos} (hc : X.calm = true) (hgd : Gl X "dict") (hmd : X.mg "dict" = none) (hg : Gl X "zip") (hm : X.mg "zip" = none) (ha : PA X [e, e2] ta) (h : X.K = K := by rfl)
    (hs : starEach [e, e2] X.env = (false, eval e X.env) :: starEach [e2] X.env := by rfl) (hpl : (backTo pos2 (starEach [e2] X.env)).any (·.1) = false := by rfl)
    (hs' : starEach [.Call (.Name "zip" p2) [e, e2] [] pos2] X.env = (false, eval (.Call (.Name "zip" p2) [e, e2] [] pos2) X.env) :: starEach [] X.env := by rfl) (hpl' : (backTo pos (starEach [] X.env)).any (·.1) = false := by rfl) :
    PE X (.Call (.Name "dict" p) [.Call (.Name "zip" p2) [e, e2] [] pos2] [] pos) (tDictZip K ta) := by subst h; exact pe_dictZip hc hgd hmd hg hm ha hs hpl hs' hpl'
end LX
set_option maxHeartbeats 1000000
namespace Toy
open PySem L2 C8 SX LX
local macro_rules | `(tactic| walk_at "c") => `(tactic| refine And.intro (by first | (show (0 : Int) < _; omega) | exact Or.inr ⟨by decide, by decide⟩ | exact Or.inl ⟨by decide, by decide⟩ | (exact ⟨by omega, by omega⟩)) ?_)
local macro_rules | `(tactic| walk_at "s1") => `(tactic| first | refine ⟨_, rfl, ?_⟩ | refine ⟨_, _, rfl, rfl, ?_⟩ | refine .inl ⟨_, rfl, ?_⟩ | walk_at "c")
local macro_rules | `(tactic| walk_at "s") => `(tactic| repeat (walk_at "s1"))
section
variable {P : Program} {w : World} {K : PySem.W.Frag} {mg : Str → Option Value} {base : Heap}
theorem all_true : ∀ {ys : List V}, (∀ (j : Nat) y, ys[j]? = some y → y = .bl true) → ys = (List.replicate ys.length true).map V.bl
  | [], _ => rfl
  | y :: ys, h => by
    rw [List.length_cons, List.replicate_succ, List.map_cons, ← all_true (ys := ys) fun j z e => h (j + 1) z e, h 0 y rfl]
theorem rep_all (n : Nat) : (List.replicate n true).all id = true := by simp
theorem cut_any (ys : List V) (k : Nat) : cutV ys none (some (k : Int)) = ys.take k := by
  unfold cutV
  rw [HT.sIx_none, HT.sIx_nat, List.drop_zero, Nat.sub_zero]
  rcases Nat.le_total k ys.length with h | h
  · rw [Nat.min_eq_left h]
  · rw [Nat.min_eq_right h, List.take_length, List.take_of_length_le h]
abbrev s_box : Stmt := top 31
abbrev n_box : List Str := ["script", "base", "cell", "stirred", "one"]
theorem sc_box : FnScope n_box ["script", "base"] (fnScope s_box) := fnScope_by (by decide +kernel)
def spBox : PySem.W.Frag → Sp := fun K vs H Q _ => ∃ (a : Addr) (k : Nat) (ns : List Int), vs = [.ref a, .int k] ∧ SqL K H a (ns.map V.int) ∧ ns.length ≤ 63 ∧ k ≤ 10 ∧
  ∀ (p : Addr) (H' : Hp), Same H H' → H p = none → BoxAt p H' → Q (.ref p) H'
theorem int_at {ns : List Int} {i : Nat} (h : i < ns.length) : ∃ z : Int, (ns.map V.int)[i]? = some (.int z) := ⟨ns[i], by rw [List.getElem?_map, List.getElem?_eq_getElem h]; rfl⟩
theorem ok_box (T : BT mg) {f : Addr} {fd : FuncData} (F : Def K mg "_law_box" s_box f fd) (b : Binds K fd ["script", "base"] []) : Cal P w K mg base 1 "_law_box" (spBox K) [] := by
  refine cal0 F b .nil sc_box (fun vs H Q E h => ?_) (fun cdv A outer s H vs Q E hr h => ?_)
  · obtain ⟨a, k, ns, rfl, _⟩ := h; rfl
  · obtain ⟨a, k, ns, rfl, ha, hl, hk, kk⟩ := h
    refine ⟨_, (C8.pss_cut (ps_set (i := 2) sc_box.nd rfl (.inl rfl) (pe_ifExp (pt_cmpR op_lt (pv 1) (pe_callB (lenK K) (by rfl) T.m_len PySem.boot_len (pa_cons (pv 0) pa_nil)) (nomark _)) (pe_callB call_abs (by rfl) T.m_abs PyProof.Rows.boot_abs (pa_cons (pe_callTy call_int1 (by rfl) T.m_int PyProof.Rows.boot_int (pa_cons (pe_ix (ixl K) (pv 0) (pv 1) (fun _ _ => rfl)) pa_nil)) pa_nil)) pe_int))
      (pss_cons (ps_set (i := 3) sc_box.nd rfl (.inl rfl) (pe_op op_add pe_int (pe_op op_mul pe_int (pv 1))))
      (pss_cons (ps_for PassesOwn.never rfl (pi_list (pe_slice sl_list (pv 0) po_none (po_some pe_int))) (pg_name (i := 4) sc_box.nd rfl (.inl rfl)) 
        (pss_one (ps_set (i := 3) sc_box.nd rfl (.inl rfl) (pe_op op_mod (pe_callTy call_int1 (by rfl) T.m_int PyProof.Rows.boot_int (pa_cons (pe_op op_add (pe_op op_add (pe_op op_mul (pv 3) pe_int) (pe_op op_mod (pe_callB call_abs (by rfl) T.m_abs PyProof.Rows.boot_abs (pa_cons (pe_callTy call_int1 (by rfl) T.m_int PyProof.Rows.boot_int (pa_cons (pv 4) pa_nil)) pa_nil)) pe_int)) pe_int) pa_nil)) pe_int))
        ))
      (pss_one (ps_ret (pe_lst (pa_cons (pe_ifExp (pt_cmpR op_ge (pv 2) (pe_op op_pow pe_int pe_int) (nomark _)) (pv 2) pe_int) (pa_cons (pv 3) (pa_cons pe_int pa_nil)))))
      )))), ?_⟩
    refine ⟨fun σ H' => H' = H ∧ ∃ c : Int, σ = [some (.ref a), some (.int k), some (.int c), none, none], ?_, ?_⟩
    · walk_at "s"
      refine ⟨_, _, rfl, .inl ha, ?_⟩
      walk_at "s"
      refine ite2 (fun hk => ?_) (fun hk => ?_)
      · rw [List.length_map, decide_eq_true_eq] at hk
        obtain ⟨z, hz⟩ := int_at (ns := ns) (i := k) (by omega)
        walk_at "s"
        refine ⟨_, _, _, .int z, rfl, rfl, ha, at_of rfl hz, ?_⟩
        walk_at "s"
        exact ⟨rfl, _, rfl⟩
      · exact ⟨rfl, _, rfl⟩
    · rintro σ H' ⟨rfl, c, rfl⟩
      walk_at "s"
      refine ⟨a, _, rfl, ha, fun q hq => ?_⟩
      rw [show (44 : Int) = ((44 : Nat) : Int) from rfl, cut_any, ← List.map_take]
      refine ⟨q, rfl, ⟨_, SqL.of upd_same⟩, for_it (walk_list (K := K) (a := q) (xs := (ns.take 44).map V.int)) (fun i σ H2 => Same H' H2 ∧ H2 q = some (.lst ((ns.take 44).map V.int)) ∧ ∃ (st : Int) (s4 : Option V), σ = [some (.ref a), some (.int k), some (.int c), some (.int st), s4]) ⟨sm_new hq, upd_same, _, _, rfl⟩ (fun i σ H2 _ h => SqL.of h.2.1) ?_ ?_⟩
      · rintro i x σ H2 H2' hi ⟨hs, hq2, st, s4, rfl⟩ ⟨rfl, hx⟩
        rw [List.getElem?_map] at hx
        obtain ⟨z, hz, rfl⟩ : ∃ z, (ns.take 44)[i]? = some z ∧ x = .int z := by
          cases h : (ns.take 44)[i]? with
          | none => rw [h] at hx; cases hx
          | some z => rw [h] at hx; exact ⟨z, rfl, (Option.some.inj hx).symm⟩
        walk_at "s"
        exact ⟨hs, hq2, _, _, rfl⟩
      · rintro σ H2 ⟨hs, hq2, st, s4, rfl⟩
        walk_at "s"
        refine ite2 (fun _ => ?_) (fun _ => ?_)
        · walk_at "s"
          exact ⟨(by show 3 ≤ sizeLine; decide), fun p hp => kk p _ (hs.trans (sm_new hp)) (hs.free hp) (BoxAt.of upd_same)⟩
        · walk_at "s"
          exact ⟨(by show 3 ≤ sizeLine; decide), fun p hp => kk p _ (hs.trans (sm_new hp)) (hs.free hp) (BoxAt.of upd_same)⟩
end
end Toy
set_option maxHeartbeats 2000000
namespace LX
open PySem PySem.Spec PyProof.Rows L2 C8 SX NdefX
noncomputable def upB (h base : Heap) (cs : List Addr) : Heap := hidT h fun b => if (base.get? b).isSome = true ∨ b ∈ cs then none else some (.lst [])
theorem upB_get {h base : Heap} {cs : List Addr} {b : Addr} {o : Obj} (e : h.get? b = some o) (n : (base.get? b).isSome = true ∨ b ∈ cs) : (upB h base cs).get? b = some o := hidT_get e (if_pos n)
theorem of_upB {h base : Heap} {cs : List Addr} {b : Addr} {o : Obj} (e : (upB h base cs).get? b = some o) : h.get? b = some o ∧ ((base.get? b).isSome = true ∨ b ∈ cs) := by
  obtain ⟨e1, e2⟩ := of_hidT e
  refine ⟨e1, ?_⟩
  by_cases n : (base.get? b).isSome = true ∨ b ∈ cs
  · exact n
  · have e2 : (if (base.get? b).isSome = true ∨ b ∈ cs then none else some (HO.lst [])) = none := e2
    rw [if_neg n] at e2; cases e2
structure BCells (cl : List (Str × Addr)) (fr : List Str) (ws : List (Option V)) (base : Heap) : Prop where
  len : ws.length = fr.length
  all : ∀ y c, cl.lookup y = some c → ∃ v, base.IsCell c v
  inj : ∀ x y c, cl.lookup x = some c → cl.lookup y = some c → x = y
  has : ∀ (i : Nat) (y : Str), fr[i]? = some y → ∃ c, cl.lookup y = some c ∧ ∀ v, ws[i]? = some (some v) → ∃ u, RelV v u ∧ base.IsCell c (some u)
theorem BCells.at_ {cl : List (Str × Addr)} {fr : List Str} {ws : List (Option V)} {base : Heap} (b : BCells cl fr ws base) {h : Heap} {H : Hp} (bs : ∀ b o, base.get? b = some o → h.get? b = some o ∧ H b = none) : CellsAt cl fr ws h H :=
  ⟨b.len, fun y c e => let ⟨v, o, e1, e2⟩ := b.all y c e; ⟨(bs _ _ e1).2, v, o, (bs _ _ e1).1, e2⟩, b.inj, fun i y e => let ⟨c, e1, f⟩ := b.has i y e; ⟨c, e1, fun v hv => let ⟨u, r, o, e2, e3⟩ := f v hv; ⟨u, r, o, (bs _ _ e2).1, e3⟩⟩⟩
section
variable {X : Cx} {pins : List (Addr × Obj)} {σ : L2.St} {H : Hp} {s : Shared}
theorem funs_up {h base : Heap} {cs : List Addr} : ∀ {l : List Env}, h.FunFrames base l → (∀ b ∈ frs l, b ∉ cs) → h.FunFrames (upB h base cs) l
  | [], _, _ => trivial
  | env :: rest, ⟨a, ⟨L, o, e1, e2, e3, e4⟩, r⟩, n => by
    have hm : L ∈ frs (env :: rest) := by unfold frs; rw [List.filterMap_cons, e1]; exact List.mem_cons_self
    refine ⟨a, ⟨L, o, e1, ?_, e3, e4⟩, funs_up r fun b hb => n b ?_⟩
    · cases q : (upB h base cs).get? L with
      | none => rfl
      | some o' =>
        rcases (of_upB q).2 with z | z
        · rw [e2] at z; cases z
        · exact absurd z (n L hm)
    · unfold frs at hb ⊢; rw [List.filterMap_cons, e1]; exact List.mem_cons_of_mem _ hb
theorem env_up (I : Inv X pins σ H s) {cs : List Addr} (hc : ∀ c ∈ cs, ∃ x, X.env.cells.lookup x = some c ∧ X.fn x = true) : Env0 X.prog X.w X.K X.mg (upB s.heap X.base cs) X.A X.stack s H := by
  have e0 := I.env0
  have k : ∀ b o, X.base.get? b = some o → (upB s.heap X.base cs).get? b = some o := fun b o e => upB_get (e0.bs b o e).1 (.inl (by rw [e]; rfl))
  obtain ⟨mb, b1, b2⟩ := e0.mod.blt
  refine ⟨e0.frames, ⟨fun b o e => k b o (e0.mod.kin b o e), e0.mod.glob.keeps k, ⟨mb, b1.keeps k, b2⟩, e0.mod.nolimit.keeps k⟩, fun b o e => ?_, Nat.le_of_eq (hidT_size _ _), funs_up e0.funs fun L hL hm => ?_, e0.frf, e0.hok, e0.bare⟩
  · obtain ⟨e1, n⟩ := of_upB e
    refine ⟨e1, ?_⟩
    rcases n with n | n
    · obtain ⟨o', q⟩ := Option.isSome_iff_exists.mp n
      exact (e0.bs b o' q).2
    · obtain ⟨x, hx, _⟩ := hc b n
      exact I.freeC x b hx
  · obtain ⟨x, hx, hf⟩ := hc L hm
    have above := I.ok.cab x L hf hx
    have out : ∀ l : List Env, X.s_0.heap.FunFrames X.base l → L ∈ frs l → False := fun l => by
      induction l with
      | nil => intro _ h; simp [frs] at h
      | cons env rest ih =>
        rintro ⟨_, ⟨M, o, e1, _, e3, _⟩, r⟩ h
        unfold frs at h; rw [List.filterMap_cons, e1] at h
        rcases List.mem_cons.mp h with z | z
        · have := Heap.lt_size e3
          rw [← z] at this
          exact Nat.lt_irrefl _ (Nat.lt_of_lt_of_le this above)
        · exact ih r z
    rcases I.ok.stk with e | ⟨e, ef⟩
    · rw [e] at hL; exact out _ I.ok.funs hL
    · rw [e] at hL
      unfold frs at hL; rw [List.filterMap_cons, ef] at hL
      rcases List.mem_cons.mp hL with z | z
      · obtain ⟨m, ⟨o, es, ep, e1, e2, _⟩, _⟩ := I.loc
        obtain ⟨v, o', q1, q2⟩ := I.cell x L hx
        rw [z, e1] at q1
        cases q1
        rw [e2] at q2; cases q2
      · exact out _ I.ok.funs z
theorem cells_up (I : Inv X pins σ H s) {cl : List (Str × Addr)} {fr : List Str} {js : List Nat} (c : Caps X cl fr js) : BCells cl fr (js.map (slotAt σ)) (upB s.heap X.base (cl.map (·.2))) := by
  have C := cells_of I c
  have mem : ∀ {y : Str} {a : Addr}, cl.lookup y = some a → a ∈ cl.map (·.2) := fun {y a} h => by
    obtain ⟨l1, l2, e, _⟩ := List.lookup_eq_some_iff.mp h
    rw [e]; simp
  refine ⟨C.len, fun y a e => ?_, C.inj, fun i y e => ?_⟩
  · obtain ⟨_, v, o, e1, e2⟩ := C.all y a e
    exact ⟨v, o, upB_get e1 (.inr (mem e)), e2⟩
  · obtain ⟨a, e1, f⟩ := C.has i y e
    exact ⟨a, e1, fun v hv => let ⟨u, r, o, e2, e3⟩ := f v hv; ⟨u, r, o, upB_get e2 (.inr (mem e1)), e3⟩⟩
def tUp (S : List (Option V) → Sp → Prop) (js : List Nat) (t : TA) : TE := fun σ H Q => t σ H fun vs H1 => ∃ sp, S (js.map (slotAt σ)) sp ∧ sp vs H1 Q C8.E0
theorem pe_cUp {k j : Nat} {g : Addr} {x : Str} {p pos : Pos} {e : Expr} {es : List Expr} {t : TA} {cl : List (Str × Addr)} {fr : List Str} {js : List Nat} {S : List (Option V) → Sp → Prop} (named : X.mg x = some (.ref g)) (kept : PySem.W.keepIn X.K (.ref g) = true)
    (cp : X.Ok → Caps X cl fr js) (hfn : ∀ y c, cl.lookup y = some c → X.fn y = true)
    (hS : ∀ ws sp (base' : Heap), S ws sp → X.K.In base' → base'.Ns mainGlobals X.mg → BCells cl fr ws base' → Cal X.prog X.w X.K X.mg base' k x sp []) (room : Room j X.A) (hk : k ≤ j) (hg : Gl X x) (ha : PA X (e :: es) t) (nd : cl.map (·.1) |>.Nodup) (hdb : (x == ("__debug__" : Str)) = false := by decide)
    (he : starEach (e :: es) X.env = (false, eval e X.env) :: starEach es X.env := by rfl) (hpl : (backTo pos (starEach es X.env)).any (·.1) = false := by rfl) : PE X (.Call (.Name x p) (e :: es) [] pos) (tUp S js t) := by
  constructor
  intro pins s σ H Q I want
  refine wpAny_Call_Name_kw (ld_glob I hg named ?_ hdb)
  refine PySem.W.callWith_K (h₀ := X.base) I.ok.mod.kin kept (thn (ha.run pos pins s σ H _ I want) ?_) he hpl
  rintro us s1 ⟨vs, H1, I1, rel, sp, s0, q⟩
  refine ⟨I1.kIn, ?_⟩
  have C := cp I1.ok
  have hcs : ∀ c ∈ cl.map (·.2), ∃ x, X.env.cells.lookup x = some c ∧ X.fn x = true := fun c hc => by
    obtain ⟨⟨y, c'⟩, hm, rfl⟩ := List.mem_map.mp hc
    have hl : cl.lookup y = some c' := by
      clear C hfn hS cp
      induction cl with
      | nil => cases hm
      | cons a r ih =>
        obtain ⟨z, d⟩ := a
        rw [List.map_cons, List.nodup_cons] at nd
        rcases List.mem_cons.mp hm with h | h
        · cases h; exact List.lookup_cons_self ..
        · have hne : (y == z) = false := by
            refine beq_eq_false_iff_ne.mpr fun e => nd.1 ?_
            rw [← e]; exact List.mem_map_of_mem (f := (·.1)) h
          rw [List.lookup_cons, hne]
          exact ih nd.2 h (List.mem_map_of_mem (f := (·.2)) h)
    exact ⟨y, C.sub y c' hl, hfn y c' hl⟩
  have E1 := env_up I1 hcs
  obtain ⟨f, fd, ps, ds, F, named', _, bd, dv⟩ := (hS _ sp _ s0 E1.mod.kin E1.mod.glob (cells_up I1 C)).ex
  rw [named] at named'
  cases named'
  cases dv
  have count : (us ++ []).length = ps.length := by rw [List.append_nil, ← rel.length]; exact F.len _ _ _ _ q
  have bs := bd s1 us I1.kIn count
  rw [List.append_nil] at bs
  refine wpAny_call (codeAny_mono (F.run X.A X.stack s1 H1 ⟨us, []⟩ us vs Q C8.E0 (room.mono hk) E1 bs rel q) fun r t' got => ?_)
  match r, got with
  | .ok (.ret u), got => exact I1.after got
end
def CV (P : Program) (w : World) (K : PySem.W.Frag) (mg : Str → Option Value) (base : Heap) (k : Nat) (g : Addr) (tr : Hp → Prop) (sp : Sp) : Prop :=
  Held P w K mg base k g sp ∨
    ∃ (F : NF) (ps fr : List Str) (ws : List (Option V)) (nsp : List (Option V) → Sp), NOk P w K mg base C8.CX0 k g F ps fr nsp ∧ (∀ vs H Q, tr H → sp vs H Q C8.E0 → nsp ws vs H Q C8.E0) ∧ BCells F.cl fr ws base ∧ ∀ H, tr H → H g = some (FnO g F) ∧ H F.c = some (LamX.CodeO F.c F.qual)
def tCallV (i : Nat) (g : Addr) (tr : Hp → Prop) (sp : Sp) (t : TA) : TE := fun σ H Q => σ[i]? = some (some (.ref g)) ∧ tr H ∧ t σ H fun vs H1 => tr H1 ∧ sp vs H1 Q C8.E0
theorem pe_callV {X : Cx} {k j i : Nat} {g : Addr} {tr : Hp → Prop} {sp : Sp} {x : Str} {p pos : Pos} {e : Expr} {es : List Expr} {t : TA} (c : CV X.prog X.w X.K X.mg X.base k g tr sp) (room : Room j X.A) (hk : k ≤ j) (hN : X.N[i]? = some x) (hv : Vis X.env.scope x) (ha : PA X (e :: es) t)
    (hd : (x == ("__debug__" : Str)) = false := by decide) (hcd : (x == ("__classdict__" : Str)) = false := by decide)
    (he : starEach (e :: es) X.env = (false, eval e X.env) :: starEach es X.env := by rfl) (hpl : (backTo pos (starEach es X.env)).any (·.1) = false := by rfl) : PE X (.Call (.Name x p) (e :: es) [] pos) (tCallV i g tr sp t) := by
  constructor
  rintro pins s σ H Q I ⟨hs, ht, want⟩
  rcases c with ⟨fd, ps, F, kept, bd⟩ | ⟨F, ps, fr, ws, nsp, N, hsp, B, htr⟩
  · have F' : FnOk X.prog X.w X.K X.mg X.base (fun _ _ _ _ _ _ => False) k g fd ps (fun vs H Q E => tr H ∧ sp vs H Q E) := F.imp fun _ _ _ _ q => q.2
    refine (pe_callL (i := i) (dvs := []) (E := fun _ _ _ => False) F' (room.mono hk) hN hv kept bd .nil (fun _ _ _ _ _ _ _ z => z.elim) ha hd hcd he hpl).run pins s σ H Q I ⟨hs, ?_⟩
    have e0 : (fun (vs : List V) (H1 : Hp) => tr H1 ∧ sp (vs ++ []) H1 Q fun _ _ _ => False) = fun vs H1 => tr H1 ∧ sp vs H1 Q C8.E0 := by funext vs H1; rw [List.append_nil]; rfl
    show t σ H fun vs H1 => tr H1 ∧ sp (vs ++ []) H1 Q fun _ _ _ => False
    rw [e0]; exact want
  · refine wpAny_Call_Name_kw (thn ((pe_var (pos := p) hN hv hd hcd).run pins s σ H (fun v H1 => v = .ref g ∧ H1 = H) I ⟨.ref g, hs, rfl, rfl⟩) fun u s1 ⟨v, H1, I1, r1, ev, eH⟩ => ?_)
    subst ev
    rw [eH] at I1
    obtain rfl : u = Value.ref g := r1
    refine PySem.W.callWith_F (first := []) (fnAt_of I1 (htr H ht).1) (thn (ha.run pos pins s1 σ H _ I1 want) fun us s2 ⟨vs, H2, I2, r, h1, q⟩ => ⟨fnAt_of I2 (htr H2 h1).1, ?_⟩) he hpl
    refine wpAny_call (codeAny_mono (N.run X.A X.stack s2 H2 us vs ws Q C8.E0 (room.mono hk) I2.env0 (htr H2 h1).1 (htr H2 h1).2 (B.at_ I2.env0.bs) r (hsp vs H2 Q h1 q)) fun r t' got => ?_)
    match r, got with
    | .ok (.ret u), got => exact I2.after got
theorem calC {P : Program} {w : World} {K : PySem.W.Frag} {mg : Str → Option Value} {base : Heap} {x : Str} {st : Stmt} {f : Addr} {fd : FuncData} {N ps : List Str} {ds : List Value} {dvs : List V} {k : Nat} {sp : Sp} {cdv : Value} (F : C8.Def K mg x st f fd) (hc : fd.code = cdv) (b : Binds K fd ps ds) (d : Vals dvs ds) (S : FnScope N ps (C8.fnScope st)) (len : ∀ vs H Q E, sp vs H Q E → vs.length = ps.length)
    (hbody : ∀ (A : Around) (outer : List Env) (s : Shared) (H : Hp) (vs : List V) (Q : VK) (E : XK), Room k (A.deeper (envOfC x (C8.fnScope st) s.heap.objs.size f cdv)) → sp vs H Q E →
      ∃ t, PSs (cxOf C8.CX0 P w K mg base N x (C8.fnScope st) f cdv A outer s H E).nox (C8.fnBody st) t ∧ t { nx := fun _ H' => Q .non H', rt := Q } (start N vs) H) : C8.Cal P w K mg base (k + 1) x sp dvs := by
  refine ⟨f, fd, ps, ds, ?_, F.mgf, F.kp, b, d⟩
  obtain ⟨oc, od, dV, kV, doc, pm, an, cdv', ct, osl, rfl, lk, hcd⟩ := F.fn.ex
  obtain rfl : cdv' = cdv := hc
  refine fn_of lk hcd S len fun A outer s H vs Q E hr hsp => ?_
  obtain ⟨t, h, q⟩ := hbody A outer s H vs Q E hr hsp
  exact ⟨t, h.nox, q⟩
end LX
set_option maxHeartbeats 2000000
namespace LX
open PySem PySem.Spec PyProof.Rows L2 C8 SX NdefX
def takenN (ok : Nat → Bool) (n : Nat) : List Nat := (List.range n).filter ok
theorem takenN_yes {ok : Nat → Bool} {n : Nat} (h : ok n = true) : takenN ok (n + 1) = takenN ok n ++ [n] := by
  unfold takenN; rw [List.range_succ, List.filter_append, List.filter_cons_of_pos h]; rfl
theorem takenN_no {ok : Nat → Bool} {n : Nat} (h : ok n = false) : takenN ok (n + 1) = takenN ok n := by
  unfold takenN; rw [List.range_succ, List.filter_append, List.filter_cons_of_neg (by rw [h]; exact Bool.false_ne_true)]; exact List.append_nil _
theorem takenN_le {ok : Nat → Bool} {n : Nat} : (takenN ok n).length ≤ n := by
  unfold takenN
  exact Nat.le_trans (List.length_filter_le _ _) (by rw [List.length_range]; exact Nat.le_refl _)
theorem lc_keepF {Rel : Hp → Hp → Prop} {J : It} {n : Nat} {G : Hp → Prop} {Y : Nat → Hp → V → Hp → Prop} {H1 : Hp} (kp : Keep Rel H1) (w : Walk J n G Y) {g : TG} {tt : TT} {te : TE} {vs : List Nat} {σ : L2.St} {D : Addr} {Qd : Hp → Prop} (hD : H1 D = none) (hn : n < sizeLine)
    (ok : Nat → Bool) (Good : Nat → V → Hp → Prop) (hG : ∀ H, Rel H1 H → G H)
    (st : ∀ i y H H', Rel H1 H → Rel H H' → Good i y H → Good i y H') (pt : ∀ i y H acc o, Rel H1 H → H D = some (.lst acc) → Good i y H → Good i y (upd H D o))
    (hs : ∀ i x H H' acc (N : Hp → Prop) (R : V → Hp → Prop), i < n → Rel H1 H → H D = some (.lst acc) → Y i H x H' → (ok i = true → ∀ y H4, Rel H H4 → Good i y H4 → R y H4) → (ok i = false → ∀ H4, Rel H H4 → N H4) →
      g x (wipe σ vs) H' fun σ2 H2 => wipe σ2 vs = wipe σ vs ∧ tt σ2 H2 fun b H3 => if b = true then te σ2 H3 R else N H3)
    (hd : ∀ ys H, ys.length = (takenN ok n).length → (∀ (j k : Nat) y, (takenN ok n)[j]? = some k → ys[j]? = some y → Good k y H) → Rel H1 H → H D = some (.lst ys) → Qd H) :
    ∃ W : Nat → Nat → Hp → Prop, (∃ m, W 0 m (upd H1 D (.lst []))) ∧ ∀ i m H, W i m H →
      (J.stop i H ∧ Qd H) ∨ (J.go i H ∧ ∃ Nx : Hp → Prop, (∀ H', Nx H' → ∃ m', m' < m ∧ W (i + 1) m' H') ∧ ∀ x H', J.yld i H x H' → g x (wipe σ vs) H' fun σ2 H2 => wipe σ2 vs = wipe σ vs ∧ tt σ2 H2 fun b H3 =>
        if b = true then te σ2 H3 fun y H4 => ∃ acc, H4 D = some (.lst acc) ∧ acc.length < sizeLine ∧ Nx (upd H4 D (.lst (acc ++ [y]))) else Nx H3) := by
  refine lc_it w (fun i H => ∃ acc, acc.length = (takenN ok i).length ∧ H D = some (.lst acc) ∧ Rel H1 H ∧ ∀ (j k : Nat) y, (takenN ok i)[j]? = some k → acc[j]? = some y → Good k y H) ⟨[], rfl, upd_same, kp.put _ _ _ kp.refl hD, fun j k y _ e => by simp at e⟩
    (fun i H _ ⟨_, _, _, r, _⟩ => hG H r) (fun i x H H' hi ⟨acc, hl, hDa, r, hg⟩ hy => ?_) (fun H ⟨acc, hl, hDa, r, hg⟩ => hd acc H hl hg r hDa)
  have hle := takenN_le (ok := ok) (n := i)
  refine hs i x H H' acc _ _ hi r hDa hy (fun ho y H4 r4 gy => ?_) (fun ho H4 r4 => ?_)
  · have hD4 := kp.get _ _ _ _ r4 hD r hDa
    have r5 := kp.trans _ _ r r4
    refine ⟨acc, hD4, by omega, acc ++ [y], by rw [takenN_yes ho]; simp [hl], upd_same, kp.put _ _ _ r5 hD, fun j k z ek e => ?_⟩
    rw [takenN_yes ho] at ek
    rcases Nat.lt_or_ge j acc.length with h | h
    · rw [List.getElem?_append_left h] at e
      rw [List.getElem?_append_left (by omega)] at ek
      exact pt _ _ _ _ _ r5 hD4 (st _ _ _ _ r r4 (hg j k z ek e))
    · rw [List.getElem?_append_right h] at e
      rw [List.getElem?_append_right (by omega)] at ek
      have hj : j - acc.length = 0 := by
        rcases Nat.lt_or_ge (j - acc.length) 1 with z | z
        · omega
        · rw [List.getElem?_eq_none (by simpa using z)] at e; cases e
      have hj2 : j - (takenN ok i).length = 0 := by omega
      rw [hj] at e; rw [hj2] at ek
      obtain rfl : y = z := Option.some.inj e
      obtain rfl : i = k := Option.some.inj ek
      exact pt _ _ _ _ _ r5 hD4 gy
  · have hD4 := kp.get _ _ _ _ r4 hD r hDa
    exact ⟨acc, by rw [takenN_no ho]; exact hl, hD4, kp.trans _ _ r r4, fun j k y ek e => by rw [takenN_no ho] at ek; exact st _ _ _ _ r r4 (hg j k y ek e)⟩
end LX
set_option maxHeartbeats 2000000
namespace LX
open PySem PySem.Spec PyProof.Rows L2 C8 SX
theorem S_contains (sg : List Nat) (c : Nat) : (S sg).cps.contains c = decide (c ∈ sg) := by
  rw [Bool.eq_iff_iff, decide_eq_true_eq, ← Array.contains_toList]
  simp [S]
theorem S_empty {l : List Nat} : S l = S [] ↔ l = [] := by
  constructor
  · intro h
    have : (S l).cps.toList = (S []).cps.toList := congrArg (fun z : Str => z.cps.toList) h
    simpa [S] using this
  · rintro rfl; rfl
theorem takeWhile_all {p : Nat → Bool} : ∀ {l : List Nat}, (∀ c ∈ l, p c = true) → l.takeWhile p = l
  | [], _ => rfl
  | c :: l, h => by rw [List.takeWhile_cons, if_pos (h c List.mem_cons_self), takeWhile_all fun d hd => h d (List.mem_cons_of_mem _ hd)]
theorem takeWhile_short {p : Nat → Bool} : ∀ {l : List Nat}, ¬ (∀ c ∈ l, p c = true) → (l.takeWhile p).length < l.length ∧ ∃ d r, l.drop (l.takeWhile p).length = d :: r ∧ p d = false
  | [], h => absurd (fun _ h => nomatch h) h
  | c :: l, h => by
    by_cases hc : p c = true
    · have h' : ¬ ∀ c ∈ l, p c = true := fun q => h fun d hd => by
        rcases List.mem_cons.mp hd with rfl | z
        · exact hc
        · exact q d z
      obtain ⟨i1, d, r, i2, i3⟩ := takeWhile_short h'
      rw [List.takeWhile_cons, if_pos hc]
      exact ⟨Nat.succ_lt_succ i1, d, r, i2, i3⟩
    · rw [List.takeWhile_cons, if_neg hc]
      exact ⟨Nat.succ_pos _, c, l, rfl, by simpa using hc⟩
theorem strip_nil {l sg : List Nat} : Txt.stripChars (S l) (S sg) = S [] ↔ ∀ c ∈ l, c ∈ sg := by
  unfold Txt.stripChars Txt.stripBy stripSame stripped stripLo stripHi
  have eg : (S sg).cps.contains = fun c => decide (c ∈ sg) := funext fun c => S_contains sg c
  have el : (S l).cps.toList = l := rfl
  have en : (S l).length = l.length := S_len l
  rw [eg, if_pos rfl, if_pos rfl, el, en]
  generalize hp : (fun c => decide (c ∈ sg)) = p
  have hpc : ∀ c, p c = true ↔ c ∈ sg := fun c => by rw [← hp]; exact decide_eq_true_iff
  by_cases h : ∀ c ∈ l, p c = true
  · refine ⟨fun _ c hc => (hpc c).mp (h c hc), fun _ => ?_⟩
    rw [takeWhile_all h, List.drop_length, List.reverse_nil, List.takeWhile_nil, List.length_nil, Nat.sub_zero]
    by_cases e : l = []
    · subst e; rfl
    · have : l.length ≠ 0 := fun z => e (List.length_eq_zero_iff.mp z)
      rw [if_neg (by simpa using this)]
      show (⟨(S l).cps.extract l.length l.length⟩ : Str) = S []
      simp [S]
  · obtain ⟨i1, d, r, i2, i3⟩ := takeWhile_short h
    refine ⟨fun e => absurd e ?_, fun q => absurd (fun c hc => (hpc c).mpr (q c hc)) h⟩
    rw [i2]
    have hr : ¬ ∀ c ∈ (d :: r).reverse, p c = true := fun q => by have := q d (by simp); rw [i3] at this; cases this
    have j1 := (takeWhile_short hr).1
    have hlen : (d :: r).length = l.length - (l.takeWhile p).length := by rw [← i2, List.length_drop]
    rw [List.length_reverse] at j1
    by_cases same : ((l.takeWhile p).length == 0 && l.length - ((d :: r).reverse.takeWhile p).length == l.length) = true
    · rw [if_pos same]
      intro e
      have := S_empty.mp e
      subst this
      exact absurd i1 (by simp)
    · rw [if_neg same]
      intro e
      have e2 : ((S l).cps.extract (l.takeWhile p).length (l.length - ((d :: r).reverse.takeWhile p).length)).size = 0 := by
        have : (Builtin.Str.strSub (S l) (l.takeWhile p).length (l.length - ((d :: r).reverse.takeWhile p).length)).cps = (S []).cps := by rw [e]
        rw [show (S l).cps.extract (l.takeWhile p).length (l.length - ((d :: r).reverse.takeWhile p).length) = (S []).cps from this]; rfl
      rw [Array.size_extract] at e2
      have e3 : (S l).cps.size = l.length := by simp [S]
      rw [e3] at e2
      omega
theorem strip_eq {l sg : List Nat} : decide (Txt.stripChars (S l) (S sg) = S []) = decide (∀ c ∈ l, c ∈ sg) := decide_eq_decide.mpr strip_nil
def az : List Nat := (List.range 26).map (· + 97)
theorem az_mem {c : Nat} : c ∈ az ↔ 97 ≤ c ∧ c ≤ 122 := by
  unfold az
  rw [List.mem_map]
  constructor
  · rintro ⟨i, hi, rfl⟩
    have := List.mem_range.mp hi
    omega
  · rintro ⟨h1, h2⟩
    exact ⟨c - 97, List.mem_range.mpr (by omega), by omega⟩
theorem s_az : (Str.ofString "abcdefghijklmnopqrstuvwxyz") = S az := by decide +kernel
end LX
set_option maxHeartbeats 2000000
namespace LX
open PySem PySem.Spec PyProof.Rows L2 C8 SX
def outD : Expr → Scope
  | .DictComp _ _ _ s _ => s
  | _ => { kind := .function, names := [], isGenerator := false, isCoroutine := false }
end LX
set_option maxHeartbeats 1000000
namespace Toy
open PySem L2 C8 SX LX
local macro_rules | `(tactic| walk_at "c") => `(tactic| refine And.intro (by first | (show (0 : Int) < _; omega) | exact Or.inr ⟨by decide, by decide⟩ | exact Or.inl ⟨by decide, by decide⟩ | (exact ⟨by omega, by omega⟩)) ?_)
local macro_rules | `(tactic| walk_at "s1") => `(tactic| first | refine ⟨_, rfl, ?_⟩ | refine ⟨_, _, rfl, rfl, ?_⟩ | refine .inl ⟨_, rfl, ?_⟩ | walk_at "c")
local macro_rules | `(tactic| walk_at "s") => `(tactic| repeat (walk_at "s1"))
section
variable {P : Program} {w : World} {K : PySem.W.Frag} {mg : Str → Option Value} {base : Heap}
abbrev s_isseq : Stmt := top 10
abbrev n_isseq : List Str := ["value"]
theorem sc_isseq : FnScope n_isseq ["value"] (fnScope s_isseq) := fnScope_by (by decide +kernel)
def spIsSeq : Sp := fun vs H Q _ => ∃ (p : Addr) (b : Bool) (xs : List V), vs = [.ref p] ∧ H p = some (seqB b xs) ∧ ∀ H', Same H H' → Q (.bl true) H'
theorem ok_isseq (T : BT mg) {f : Addr} {fd : FuncData} (F : Def K mg "is_sequence" s_isseq f fd) (b : Binds K fd ["value"] []) : Cal P w K mg base 1 "is_sequence" spIsSeq [] := by
  refine cal0 F b .nil sc_isseq (fun vs H Q E h => ?_) (fun cdv A outer s H vs Q E hr h => ?_)
  · obtain ⟨p, b, xs, rfl, _⟩ := h; rfl
  · obtain ⟨p, b, xs, rfl, hp, k⟩ := h
    refine ⟨_, (pss_one (ps_ret (pe_callB (isiTK K) (by rfl) T.m_isinstance PyProof.Rows.boot_isinstance (pa_cons (pv 0) (pa_cons (pe_tup (pa_cons (pe_bltn (v := .ty "list") (by rfl) T.m_list PyProof.Rows.boot_list rfl) (pa_cons (pe_bltn (v := .ty "tuple") (by rfl) T.m_tuple PyProof.Rows.boot_tuple rfl) pa_nil))) pa_nil))))
      ), ?_⟩
    walk_at "s"
    refine ⟨by decide, fun t ht => ?_⟩
    have hp2 := (sm_new (o := .tup [.ty "list", .ty "tuple"]) ht) _ _ hp
    cases b
    · exact ⟨_, t, _, _, _, true, rfl, upd_same, .cons (.ty _) (.cons (.ty _) .nil), .base (.tup hp2), kitAny_cons (b := false) (kit_ty (by decide +kernel)) (fun _ => kitAny_cons (b := true) (kit_ty (by decide +kernel)) (fun h => nomatch h) (fun _ => rfl)) (fun h => nomatch h), k _ (sm_new ht)⟩
    · exact ⟨_, t, _, _, _, true, rfl, upd_same, .cons (.ty _) (.cons (.ty _) .nil), .base (.lst hp2), kitAny_cons (b := true) (kit_ty (by decide +kernel)) (fun h => nomatch h) (fun _ => rfl), k _ (sm_new ht)⟩
abbrev s_isrow : Stmt := top 13
abbrev n_isrow : List Str := ["value", "signs"]
theorem sc_isrow : FnScope n_isrow ["value", "signs"] (fnScope s_isrow) := fnScope_by (by decide +kernel)
instance (sg l : List Nat) : Decidable (Ov sg l) := by unfold Ov; infer_instance
def spIsRow : Sp := fun vs H Q _ => ∃ (sg l : List Nat), vs = [.str (S l), .str (S sg)] ∧ l.length ≤ 1000 ∧ Q (.bl (decide (Ov sg l))) H
theorem ok_isrow (T : BT mg) {f : Addr} {fd : FuncData} (F : Def K mg "is_row" s_isrow f fd) (b : Binds K fd ["value", "signs"] []) : Cal P w K mg base 1 "is_row" spIsRow [] := by
  refine cal0 F b .nil sc_isrow (fun vs H Q E h => ?_) (fun cdv A outer s H vs Q E hr h => ?_)
  · obtain ⟨sg, l, rfl, _⟩ := h; rfl
  · obtain ⟨sg, l, rfl, hl, k⟩ := h
    refine ⟨_, (pss_one (ps_ret (pe_and (pe_callB (isiK K) (by rfl) T.m_isinstance PyProof.Rows.boot_isinstance (pa_cons (pv 0) (pa_cons (pe_bltn (v := .ty "str") (by rfl) T.m_str PyProof.Rows.boot_str rfl) pa_nil))) (pe_one (pe_cmpR op_eq (pe_bm PySem.F.plainAttrs_str PySem.F.slot_str_strip PySem.F.type_str_strip mt_stripChars (pv 0) (pa_cons (pv 1) pa_nil)) pe_str (nomark _)))))
      ), ?_⟩
    walk_at "s"
    refine ⟨_, _, _, _, true, rfl, .ty _, .base (.str _), kit_ty (by decide +kernel), true, rfl, ?_⟩
    refine iteT ?_
    refine ⟨_, rfl, rfl, _, rfl, S l, S sg, rfl, rfl, by rw [S_len]; exact sz hl (by decide), rfl, ?_⟩
    have e : V.bl (decide (V.str (Txt.stripChars (S l) (S sg)) = V.str (Str.ofString ""))) = V.bl (decide (Ov sg l)) := by
      rw [s_nil]
      refine congrArg V.bl (decide_eq_decide.mpr ?_)
      rw [V.str.injEq]
      exact strip_nil
    show Q (V.bl (decide (V.str (Txt.stripChars (S l) (S sg)) = V.str (Str.ofString "")))) H
    rw [e]
    exact k
abbrev s_isletters : Stmt := top 11
abbrev n_isletters : List Str := ["value"]
theorem sc_isletters : FnScope n_isletters ["value"] (fnScope s_isletters) := fnScope_by (by decide +kernel)
theorem ov_az {l : List Nat} : Ov az l ↔ ∀ c ∈ l, 97 ≤ c ∧ c ≤ 122 := ⟨fun h c hc => az_mem.mp (h c hc), fun h c hc => az_mem.mpr (h c hc)⟩
def spIsLetters : Sp := fun vs H Q _ => ∃ (l : List Nat), vs = [.str (S l)] ∧ l.length ≤ 1000 ∧ Q (.bl (decide (Ov az l))) H
theorem ok_isletters (T : BT mg) {tz : Tok} (mgZ : mg "_LETTERS" = some (.str (S az) tz)) (c_isrow : Cal P w K mg base 1 "is_row" spIsRow []) {f : Addr} {fd : FuncData} (F : Def K mg "is_letters" s_isletters f fd) (b : Binds K fd ["value"] []) : Cal P w K mg base 2 "is_letters" spIsLetters [] := by
  refine cal0 F b .nil sc_isletters (fun vs H Q E h => ?_) (fun cdv A outer s H vs Q E hr h => ?_)
  · obtain ⟨l, rfl, _⟩ := h; rfl
  · obtain ⟨l, rfl, hl, k⟩ := h
    refine ⟨_, (pss_one (ps_ret (pe_c c_isrow hr (by first | decide | omega) (by rfl) (pa_cons (pv 0) (pa_cons (pe_glob (v := .str (S az)) (by rfl) mgZ ⟨_, rfl⟩) pa_nil))))
      ), ?_⟩
    exact ⟨_, rfl, az, l, rfl, hl, k⟩
abbrev s_issigns : Stmt := top 12
abbrev n_issigns : List Str := ["value", "one", "other"]
theorem sc_issigns : FnScope n_issigns ["value"] (fnScope s_issigns) := fnScope_by (by decide +kernel)
def spIsSigns : Sp := fun vs H Q _ => ∃ (sg : List Nat), vs = [.str (S sg)] ∧ Sg sg ∧ ∀ H', Same H H' → Q (.bl true) H'
theorem sg_asc {sg : List Nat} (h : Sg sg) (i c d : Nat) (e1 : sg[i]? = some c) (e2 : sg[i + 1]? = some d) : c < d := by
  obtain ⟨a1, a2⟩ := List.getElem?_eq_some_iff.mp e1
  obtain ⟨b1, b2⟩ := List.getElem?_eq_some_iff.mp e2
  have := List.pairwise_iff_getElem.mp h.1 i (i + 1) a1 b1 (Nat.lt_succ_self i)
  rw [a2, b2] at this; exact this
theorem ok_issigns (T : BT mg) (c_isletters : Cal P w K mg base 2 "is_letters" spIsLetters []) {f : Addr} {fd : FuncData} (F : Def K mg "is_signs" s_issigns f fd) (b : Binds K fd ["value"] []) : Cal P w K mg base 3 "is_signs" spIsSigns [] := by
  refine cal0 F b .nil sc_issigns (fun vs H Q E h => ?_) (fun cdv A outer s H vs Q E hr h => ?_)
  · obtain ⟨sg, rfl, _⟩ := h; rfl
  · obtain ⟨sg, rfl, hm, k⟩ := h
    have hlen : 1 ≤ sg.length ∧ sg.length ≤ 3 := ⟨hm.2.1, hm.2.2.1⟩
    refine ⟨_, (pss_cons (ps_if (PW.pt (pw_or (pt_not (pt_val (pe_c c_isletters hr (by first | decide | omega) (by rfl) (pa_cons (pv 0) pa_nil)))) (pw_or (pt_cmpR op_lt (pe_callB call_len_str (by rfl) T.m_len PySem.boot_len (pa_cons (pv 0) pa_nil)) pe_int (nomark _)) (pw_or1 (pt_cmpR op_gt (pe_callB call_len_str (by rfl) T.m_len PySem.boot_len (pa_cons (pv 0) pa_nil)) pe_int (nomark _)))))) 
        (pss_one (ps_ret pe_bl)
        )
       pss_nil)
      (pss_one (ps_ret (pe_callB (cr_all rfl) (by rfl) T.m_all PyProof.Rows.boot_all (pa_cons (pe_lc (own := [("one", 1), ("other", 2)]) rfl sc_issigns.nd (pi_zipX (by rfl) T.m_zip (pa_cons (pv 0) (pa_cons (pe_slice sl_txt (pv 0) (po_some pe_int) po_none) pa_nil))) (blkOk_by (N := n_issigns) (sc := fnScope s_issigns) (by decide +kernel)) (fun _ _ _ _ _ => (tupK K 2 (pgs_cons (pg_name (i := 1) sc_issigns.nd rfl (.inl rfl)) (pgs_cons (pg_name (i := 2) sc_issigns.nd rfl (.inl rfl)) pgs_nil)))) (fun _ _ _ _ _ => pts_nil) (fun _ _ _ _ _ => (pe_cmpR op_lt_str (pv 1) (pv 2) (nomark _)))) pa_nil)))
      )), ?_⟩
    refine ⟨_, rfl, sg, rfl, by omega, ?_⟩
    rw [decide_eq_true (ov_az.mpr hm.2.2.2)]
    have hsl : (S sg).length ≤ sizeLine := by rw [S_len]; exact Nat.le_trans hlen.2 (by decide)
    walk_at "s"
    refine ⟨hsl, ?_⟩
    walk_at "s"
    refine iteN (by rw [S_len]; exact decide_eq_false (by omega)) ?_
    walk_at "s"
    refine ⟨hsl, ?_⟩
    walk_at "s"
    refine iteN (by rw [S_len]; exact decide_eq_false (by omega)) ?_
    walk_at "s"
    refine ⟨hsl, _, _, .txt (S sg), .txt (S (sg.drop 1)), rfl, rfl, slice_from (by decide), trivial, trivial, fun D hD => ?_⟩
    refine lc_keep (n := min (sg.map fun c => V.str (S [c])).length ((sg.drop 1).map fun c => V.str (S [c])).length) keep_same walk_zipX hD (by rw [List.length_map]; exact Nat.lt_of_le_of_lt (Nat.min_le_left _ _) (small1000 (Nat.le_trans hlen.2 (by decide)))) (fun _ y => y = .bl true) (fun _ _ => ⟨rfl, rfl⟩) (fun i x H2 H3 R hii r1 hy hR => ?_) (fun ys H2 hly hg r1 hDs => ?_)
    · obtain ⟨t, x1, x2, rfl, ht, rfl, e1, e2⟩ := hy
      have e1 : (sg.map fun c => V.str (S [c]))[i]? = some x1 := e1
      have e2 : ((sg.drop 1).map fun c => V.str (S [c]))[i]? = some x2 := e2
      rw [List.getElem?_map] at e1 e2
      rw [List.getElem?_drop] at e2
      cases q1 : sg[i]? with
      | none => rw [q1] at e1; cases e1
      | some c =>
        cases q2 : sg[1 + i]? with
        | none => rw [q2] at e2; cases e2
        | some d =>
          rw [q1] at e1; rw [q2] at e2
          cases e1; cases e2
          have hcd := sg_asc hm i c d q1 (by rw [Nat.add_comm]; exact q2)
          refine ⟨t, _, rfl, .inl (.inl upd_same), rfl, _, _, rfl, _, _, rfl, rfl, rfl, ?_⟩
          walk_at "s"
          refine hR _ _ (sm_new ht) (congrArg V.bl ?_)
          show decide (([c] : List Nat) < [d]) = true
          rw [decide_eq_true_eq, List.cons_lt_cons_iff]
          exact .inl hcd
    · refine ⟨D, List.replicate ys.length true, rfl, SqL.of (by rw [← all_true hg]; exact hDs), ?_⟩
      rw [rep_all]
      exact k H2 r1
abbrev s_isname : Stmt := top 14
abbrev n_isname : List Str := ["value"]
theorem sc_isname : FnScope n_isname ["value"] (fnScope s_isname) := fnScope_by (by decide +kernel)
def no10 : List (List Nat) := [[98, 97, 99, 107], [105, 115], [110, 111, 116], [97, 110, 100], [111, 114], [105, 102], [116, 104, 101, 110], [102, 111, 114], [97, 108, 108], [115, 111, 109, 101]]
def Name (m : List Nat) : Prop := 2 ≤ m.length ∧ m.length ≤ 6 ∧ (∀ c ∈ m, 97 ≤ c ∧ c ≤ 122) ∧ m ∉ no10
instance (m : List Nat) : Decidable (Name m) := by unfold Name; infer_instance
def spIsName : Sp := fun vs H Q _ => ∃ (m : List Nat), vs = [.str (S m)] ∧ m.length ≤ 16000000 ∧ Q (.bl (decide (Name m))) H
theorem ok_isname (T : BT mg) {NN : Addr} (mgN : mg "_NO_NAMES" = some (.ref NN)) (hN : ∀ H, SqT K H NN (txs no10)) (c_isletters : Cal P w K mg base 2 "is_letters" spIsLetters []) {f : Addr} {fd : FuncData} (F : Def K mg "is_name" s_isname f fd) (b : Binds K fd ["value"] []) : Cal P w K mg base 3 "is_name" spIsName [] := by
  refine cal0 F b .nil sc_isname (fun vs H Q E h => ?_) (fun cdv A outer s H vs Q E hr h => ?_)
  · obtain ⟨m, rfl, _⟩ := h; rfl
  · obtain ⟨m, rfl, hm, k⟩ := h
    refine ⟨_, (pss_one (ps_ret (pe_and (pe_callB (isiK K) (by rfl) T.m_isinstance PyProof.Rows.boot_isinstance (pa_cons (pv 0) (pa_cons (pe_bltn (v := .ty "str") (by rfl) T.m_str PyProof.Rows.boot_str rfl) pa_nil))) (pe_and (pe_chain op_le op_le pe_int (pe_callB call_len_str (by rfl) T.m_len PySem.boot_len (pa_cons (pv 0) pa_nil)) pe_int) (pe_and (pe_c c_isletters hr (by first | decide | omega) (by rfl) (pa_cons (pv 0) pa_nil)) (pe_one (pe_cmpR (notInK K) (pv 0) (pe_glob (v := .ref NN) (by rfl) mgN rfl) rfl))))))
      ), ?_⟩
    have hsl : (S m).length ≤ sizeLine := by rw [S_len]; exact Nat.le_trans hm (by decide)
    walk_at "s"
    refine ⟨_, _, _, _, true, rfl, .ty _, .base (.str _), kit_ty (by decide +kernel), true, rfl, ?_⟩
    refine iteT ?_
    have fin : ∀ {b : Bool}, (b = true ↔ Name m) → Q (.bl b) H := fun {b} h => by
      have : b = decide (Name m) := by
        rw [Bool.eq_iff_iff, decide_eq_true_eq]; exact h
      rw [this]; exact k
    refine ⟨_, rfl, S m, rfl, hsl, _, _, rfl, rfl, _, rfl, ?_⟩
    rw [S_len]
    by_cases h2 : 2 ≤ m.length
    · refine iteB (decide_eq_true (by omega)) ?_
      refine ⟨_, _, rfl, rfl, ?_⟩
      by_cases h6 : m.length ≤ 6
      · refine ⟨_, rfl, iteB (decide_eq_true (by omega)) ?_⟩
        refine ⟨_, rfl, m, rfl, by omega, _, rfl, ?_⟩
        by_cases ho : Ov az m
        · refine iteB (decide_eq_true ho) ?_
          refine ⟨_, rfl, NN, txs no10, rfl, .inr (hN H), rfl, flat_txs _, ?_⟩
          rw [inV_txs]
          refine fin ?_
          rw [if_pos rfl, Bool.not_eq_true', decide_eq_false_iff_not]
          exact ⟨fun h => ⟨h2, h6, ov_az.mp ho, h⟩, fun h => h.2.2.2⟩
        · refine iteN (decide_eq_false ho) ?_
          exact fin ⟨fun h => (nomatch h), fun h => absurd (ov_az.mpr h.2.2.1) ho⟩
      · refine ⟨_, rfl, iteN (decide_eq_false (by omega)) ?_⟩
        exact fin ⟨fun h => (nomatch h), fun h => absurd h.2.1 h6⟩
    · refine iteN (decide_eq_false (by omega)) ⟨_, rfl, iteN rfl ?_⟩
      exact fin ⟨fun h => (nomatch h), fun h => absurd h.1 h2⟩
theorem all_of {b : Bool} {xs : List V} {p : Addr} {K : PySem.W.Frag} {H : Hp} (h : H p = some (seqB b xs)) {H' : Hp} (s : Same H H') : SqB K b H' p xs := SqB.of (s _ _ h)
abbrev s_ismarks : Stmt := top 27
abbrev n_ismarks : List Str := ["value", "mark"]
theorem sc_ismarks : FnScope n_ismarks ["value"] (fnScope s_ismarks) := fnScope_by (by decide +kernel)
def spIsMarks : Sp := fun vs H Q _ => ∃ (p : Addr) (b : Bool) (ms : List (List Nat)), vs = [.ref p] ∧ H p = some (seqB b (txs ms)) ∧ 1 ≤ ms.length ∧ ms.length < 60 ∧ ms.Nodup ∧ (∀ m ∈ ms, Name m) ∧ ∀ H', Same H H' → Q (.bl true) H'
theorem ok_ismarksF (T : BT mg) (c_isseq : Cal P w K mg base 1 "is_sequence" spIsSeq []) (c_isname : Cal P w K mg base 3 "is_name" spIsName []) {f : Addr} {fd : FuncData} (F : Def K mg "_is_marks" s_ismarks f fd) (b : Binds K fd ["value"] []) : FnOk P w K mg base C8.CX0 4 f fd ["value"] spIsMarks := by
  refine fn0 F.fn sc_ismarks (fun vs H Q E h => ?_) (fun cdv A outer s H vs Q E hr h => ?_)
  · obtain ⟨p, b, ms, rfl, _⟩ := h; rfl
  · obtain ⟨p, b, ms, rfl, hp, h1, h60, nd, hms, k⟩ := h
    refine ⟨_, (pss_cons (ps_if (PW.pt (pw_or (pt_not (pt_val (pe_c c_isseq hr (by first | decide | omega) (by rfl) (pa_cons (pv 0) pa_nil)))) (pw_or (pt_cmpR op_eq (pe_callB (lenK K) (by rfl) T.m_len PySem.boot_len (pa_cons (pv 0) pa_nil)) pe_int (nomark _)) (pw_or1 (pt_not (pt_val (pe_callB (cr_all rfl) (by rfl) T.m_all PyProof.Rows.boot_all (pa_cons (pe_lc (own := [("mark", 1)]) rfl sc_ismarks.nd (pi_seq (pv 0)) (blkOk_by (N := n_ismarks) (sc := fnScope s_ismarks) (by decide +kernel)) (fun _ _ _ _ _ => (pg_name (i := 1) sc_ismarks.nd rfl (.inl rfl))) (fun _ _ _ _ _ => pts_nil) (fun _ _ _ _ _ => (pe_c c_isname hr (by first | decide | omega) (by rfl) (pa_cons (pv 1) pa_nil)))) pa_nil)))))))) 
        (pss_one (ps_ret pe_bl)
        )
       pss_nil)
      (pss_one (ps_ret (pe_cmpR op_eq (pe_lenSetT rfl (by rfl) T.m_len (by rfl) T.m_set (pv 0)) (pe_callB (lenK K) (by rfl) T.m_len PySem.boot_len (pa_cons (pv 0) pa_nil)) (nomark _)))
      )), ?_⟩
    refine ⟨_, rfl, p, b, txs ms, rfl, hp, fun H1 s1 => ?_⟩
    refine ⟨true, rfl, ?_⟩
    refine iteN rfl ?_
    refine ⟨_, rfl, p, _, rfl, (all_of hp s1).or, rfl, _, rfl, ?_⟩
    refine iteN (by rw [txs_len]; exact decide_eq_false (by show ¬ V.int (ms.length : Int) = V.int 0; intro h; have := V.int.inj h; omega)) ?_
    have hB1 : SqB K b H1 p (txs ms) := all_of hp s1
    refine ⟨_, rfl, p, b, txs ms, rfl, hB1, fun D hD => lc_keep keep_same (walk_seq (K := K) (b := b) (a := p) (xs := txs ms)) hD (by rw [txs_len]; exact small1000 (by omega)) (fun _ y => y = .bl true) (fun H2 r => hB1.same r) (fun i x H2 H3 R hii r1 hy hR => ?_) (fun ys H2 hly hg r1 hDs => ?_)⟩
    · obtain ⟨rfl, e⟩ := hy
      obtain ⟨m, hm, rfl⟩ := txs_get e
      refine ⟨rfl, ?_⟩
      have hnm := hms m (List.mem_of_getElem? hm)
      refine ⟨_, rfl, m, rfl, by have := hnm.2.1; omega, ?_⟩
      rw [decide_eq_true hnm]
      exact hR _ _ (Same.refl _) rfl
    · refine ⟨D, List.replicate ys.length true, rfl, SqL.of (by rw [← all_true hg]; exact hDs), ?_⟩
      rw [rep_all]
      have hB2 : SqB K b H2 p (txs ms) := hB1.same r1
      refine ⟨_, rfl, ?_⟩
      refine ⟨_, rfl, p, ms, rfl, hB2.or, h60, nd, ?_⟩
      refine ⟨_, rfl, p, _, rfl, hB2.or, rfl, ?_⟩
      rw [txs_len, decide_eq_true rfl]
      exact k H2 (s1.trans r1)
theorem ok_ismarks (T : BT mg) (c_isseq : Cal P w K mg base 1 "is_sequence" spIsSeq []) (c_isname : Cal P w K mg base 3 "is_name" spIsName []) {f : Addr} {fd : FuncData} (F : Def K mg "_is_marks" s_ismarks f fd) (b : Binds K fd ["value"] []) : Cal P w K mg base 4 "_is_marks" spIsMarks [] := ⟨f, fd, _, _, ok_ismarksF T c_isseq c_isname F b, F.mgf, F.kp, b, .nil⟩
abbrev s_istargets : Stmt := top 29
abbrev n_istargets : List Str := ["value", "signs", "marks", "mark"]
theorem sc_istargets : FnScope n_istargets ["value", "signs", "marks"] (fnScope s_istargets) := fnScope_by (by decide +kernel)
def spIsTargets : Sp := fun vs H Q _ => ∃ (p q : Addr) (b c : Bool) (ts ms : List (List Nat)) (sg : List Nat), vs = [.ref p, .str (S sg), .ref q] ∧ H p = some (seqB b (txs ts)) ∧ H q = some (seqB c (txs ms)) ∧ ts.length = sg.length ∧ sg.length ≤ 3 ∧ (∀ t ∈ ts, t ∈ ms) ∧ ∀ H', Same H H' → Q (.bl true) H'
theorem ok_istargets (T : BT mg) (c_isseq : Cal P w K mg base 1 "is_sequence" spIsSeq []) {f : Addr} {fd : FuncData} (F : Def K mg "_is_targets" s_istargets f fd) (b : Binds K fd ["value", "signs", "marks"] []) : Cal P w K mg base 2 "_is_targets" spIsTargets [] := by
  refine cal0 F b .nil sc_istargets (fun vs H Q E h => ?_) (fun cdv A outer s H vs Q E hr h => ?_)
  · obtain ⟨p, q, b, c, ts, ms, sg, rfl, _⟩ := h; rfl
  · obtain ⟨p, q, b, c, ts, ms, sg, rfl, hp, hq, hl, hl3, ht, k⟩ := h
    refine ⟨_, (pss_cons (ps_if (PW.pt (pw_or (pt_not (pt_val (pe_c c_isseq hr (by first | decide | omega) (by rfl) (pa_cons (pv 0) pa_nil)))) (pw_or1 (pt_cmpR op_ne (pe_callB (lenK K) (by rfl) T.m_len PySem.boot_len (pa_cons (pv 0) pa_nil)) (pe_callB call_len_str (by rfl) T.m_len PySem.boot_len (pa_cons (pv 1) pa_nil)) (nomark _))))) 
        (pss_one (ps_ret pe_bl)
        )
       pss_nil)
      (pss_one (ps_ret (pe_callB (cr_all rfl) (by rfl) T.m_all PyProof.Rows.boot_all (pa_cons (pe_lc (own := [("mark", 3)]) rfl sc_istargets.nd (pi_seq (pv 0)) (blkOk_by (N := n_istargets) (sc := fnScope s_istargets) (by decide +kernel)) (fun _ _ _ _ _ => (pg_name (i := 3) sc_istargets.nd rfl (.inl rfl))) (fun _ _ _ _ _ => pts_nil) (fun _ _ _ _ _ => (pe_cmpR (inK K) (pv 3) (pv 2) rfl))) pa_nil)))
      )), ?_⟩
    refine ⟨_, rfl, p, b, txs ts, rfl, hp, fun H1 s1 => ?_⟩
    refine ⟨true, rfl, ?_⟩
    refine iteN rfl ?_
    have hB1 : SqB K b H1 p (txs ts) := all_of hp s1
    have hC1 : SqB K c H1 q (txs ms) := all_of hq s1
    refine ⟨_, rfl, p, _, rfl, hB1.or, _, rfl, _, rfl, by rw [S_len]; exact sz (m := 3) hl3 (by decide), rfl, _, rfl, ?_⟩
    refine iteN (by rw [txs_len, S_len, hl]; simp) ?_
    refine ⟨_, rfl, p, b, txs ts, rfl, hB1, fun D hD => lc_keep keep_same (walk_seq (K := K) (b := b) (a := p) (xs := txs ts)) hD (by rw [txs_len]; exact small1000 (by omega)) (fun _ y => y = .bl true) (fun H2 r => hB1.same r) (fun i x H2 H3 R hii r1 hy hR => ?_) (fun ys H2 hly hg r1 hDs => ?_)⟩
    · obtain ⟨rfl, e⟩ := hy
      obtain ⟨m, hm, rfl⟩ := txs_get e
      refine ⟨rfl, ?_⟩
      refine ⟨_, rfl, _, rfl, q, txs ms, rfl, (hC1.same r1).or, rfl, flat_txs _, ?_⟩
      refine hR _ _ (Same.refl _) ?_
      rw [inV_txs, decide_eq_true (ht m (List.mem_of_getElem? hm))]; rfl
    · refine ⟨D, List.replicate ys.length true, rfl, SqL.of (by rw [← all_true hg]; exact hDs), ?_⟩
      rw [rep_all]
      exact k H2 (s1.trans r1)
abbrev s_issteps : Stmt := top 28
abbrev n_issteps : List Str := ["value", "signs", "marks", "targets"]
theorem sc_issteps : FnScope n_issteps ["value", "signs", "marks"] (fnScope s_issteps) := fnScope_by (by decide +kernel)
def spIsSteps : Sp := fun vs H Q _ => ∃ (p q : Addr) (b b2 c : Bool) (ps : List Addr) (tss : List (List (List Nat))) (ms : List (List Nat)) (sg : List Nat), vs = [.ref p, .str (S sg), .ref q] ∧ H p = some (seqB b (ps.map V.ref)) ∧ H q = some (seqB c (txs ms)) ∧ sg.length ≤ 3 ∧ ms.length < 60 ∧ ps.length = ms.length ∧
  tss.length = ps.length ∧ (∀ (i : Nat) (a : Addr) (ts : List (List Nat)), ps[i]? = some a → tss[i]? = some ts → H a = some (seqB b2 (txs ts)) ∧ ts.length = sg.length ∧ ∀ t ∈ ts, t ∈ ms) ∧ ∀ H', Same H H' → Q (.bl true) H'
theorem ok_issteps (T : BT mg) (c_isseq : Cal P w K mg base 1 "is_sequence" spIsSeq []) (c_istargets : Cal P w K mg base 2 "_is_targets" spIsTargets []) {f : Addr} {fd : FuncData} (F : Def K mg "_is_steps" s_issteps f fd) (b : Binds K fd ["value", "signs", "marks"] []) : Cal P w K mg base 3 "_is_steps" spIsSteps [] := by
  refine cal0 F b .nil sc_issteps (fun vs H Q E h => ?_) (fun cdv A outer s H vs Q E hr h => ?_)
  · obtain ⟨p, q, b, b2, c, ps, tss, ms, sg, rfl, _⟩ := h; rfl
  · obtain ⟨p, q, b, b2, c, ps, tss, ms, sg, rfl, hp, hq, hl3, h60, hl, hlt, hts, k⟩ := h
    refine ⟨_, (pss_cons (ps_if (PW.pt (pw_or (pt_not (pt_val (pe_c c_isseq hr (by first | decide | omega) (by rfl) (pa_cons (pv 0) pa_nil)))) (pw_or1 (pt_cmpR op_ne (pe_callB (lenK K) (by rfl) T.m_len PySem.boot_len (pa_cons (pv 0) pa_nil)) (pe_callB (lenK K) (by rfl) T.m_len PySem.boot_len (pa_cons (pv 2) pa_nil)) (nomark _))))) 
        (pss_one (ps_ret pe_bl)
        )
       pss_nil)
      (pss_one (ps_ret (pe_callB (cr_all rfl) (by rfl) T.m_all PyProof.Rows.boot_all (pa_cons (pe_lc (own := [("targets", 3)]) rfl sc_issteps.nd (pi_seq (pv 0)) (blkOk_by (N := n_issteps) (sc := fnScope s_issteps) (by decide +kernel)) (fun _ _ _ _ _ => (pg_name (i := 3) sc_issteps.nd rfl (.inl rfl))) (fun _ _ _ _ _ => pts_nil) (fun _ _ _ _ _ => (pe_c c_istargets hr (by first | decide | omega) (by rfl) (pa_cons (pv 3) (pa_cons (pv 1) (pa_cons (pv 2) pa_nil)))))) pa_nil)))
      )), ?_⟩
    refine ⟨_, rfl, p, b, _, rfl, hp, fun H1 s1 => ?_⟩
    refine ⟨true, rfl, ?_⟩
    refine iteN rfl ?_
    have hB1 : SqB K b H1 p (ps.map V.ref) := all_of hp s1
    have hC1 : SqB K c H1 q (txs ms) := all_of hq s1
    refine ⟨_, rfl, p, _, rfl, hB1.or, _, rfl, q, _, rfl, hC1.or, rfl, _, rfl, ?_⟩
    refine iteN (by rw [txs_len, List.length_map, hl]; simp) ?_
    refine ⟨_, rfl, p, b, ps.map V.ref, rfl, hB1, fun D hD => lc_keep keep_same (walk_seq (K := K) (b := b) (a := p) (xs := ps.map V.ref)) hD (by rw [List.length_map]; exact small1000 (by omega)) (fun _ y => y = .bl true) (fun H2 r => hB1.same r) (fun i x H2 H3 R hii r1 hy hR => ?_) (fun ys H2 hly hg r1 hDs => ?_)⟩
    · obtain ⟨rfl, e⟩ := hy
      rw [List.getElem?_map] at e
      have hi : i < ps.length := by rw [List.length_map] at hii; exact hii
      have hi2 : i < tss.length := by omega
      rw [List.getElem?_eq_getElem hi] at e
      cases e
      obtain ⟨h1, h2, h3⟩ := hts i _ _ (List.getElem?_eq_getElem hi) (List.getElem?_eq_getElem hi2)
      refine ⟨rfl, ?_⟩
      refine ⟨_, rfl, _, rfl, _, rfl, ps[i], q, b2, c, tss[i], ms, sg, rfl, (s1.trans r1) _ _ h1, (s1.trans r1) _ _ hq, h2, hl3, h3, fun H4 s4 => hR _ _ s4 rfl⟩
    · refine ⟨D, List.replicate ys.length true, rfl, SqL.of (by rw [← all_true hg]; exact hDs), ?_⟩
      rw [rep_all]
      exact k H2 (s1.trans r1)
end
end Toy
set_option maxHeartbeats 4000000
namespace Toy
open PySem L2 C8 SX LX
local macro_rules | `(tactic| walk_at "c") => `(tactic| refine And.intro (by first | (show (0 : Int) < _; omega) | exact Or.inr ⟨by decide, by decide⟩ | exact Or.inl ⟨by decide, by decide⟩ | (exact ⟨by omega, by omega⟩)) ?_)
local macro_rules | `(tactic| walk_at "s1") => `(tactic| first | refine ⟨_, rfl, ?_⟩ | refine ⟨_, _, rfl, rfl, ?_⟩ | refine .inl ⟨_, rfl, ?_⟩ | walk_at "c")
local macro_rules | `(tactic| walk_at "s") => `(tactic| repeat (walk_at "s1"))
section
variable {P : Program} {w : World} {K : PySem.W.Frag} {mg : Str → Option Value} {base : Heap}
structure CR (K : PySem.W.Frag) (C : Addr) : Prop where
  cl : Cls K C
  nS : PySem.W.findIn K (.ref C) "signs" = some none
  nM : PySem.W.findIn K (.ref C) "marks" = some none
  nF : PySem.W.findIn K (.ref C) "first" = some none
  nT : PySem.W.findIn K (.ref C) "steps" = some none
  nN : PySem.W.findIn K (.ref C) "_numbers" = some none
  nL : PySem.W.findIn K (.ref C) "_leads" = some none
  nC : PySem.W.findIn K (.ref C) "_columns" = some none
def rdF (sg : List Nat) (m : Addr) (f : List Nat) (st nu le : Addr) (t : List (Str × V)) : List (Str × V) :=
  ("signs", .str (S sg)) :: ("marks", .ref m) :: ("first", .str (S f)) :: ("steps", .ref st) :: ("_numbers", .ref nu) :: ("_leads", .ref le) :: t
def numK (ms : List (List Nat)) : List (Key × V) := (List.range ms.length).map fun i => (tk (ms.getD i []), .int (i : Nat))
structure RdrAt (C : Addr) (H : Hp) (a : Addr) (sg : List Nat) (ms : List (List Nat)) (f : List Nat) (tg : List Nat → Nat → List Nat) (dx m st nu le : Addr) (sa la : List Nat → Addr) (t : List (Str × V)) : Prop where
  ha : H a = some (.ins C dx (rdF sg m f st nu le t))
  hm : H m = some (.tup (txs ms))
  hst : H st = some (.tup (ms.map fun x => .ref (sa x)))
  hsa : ∀ x ∈ ms, H (sa x) = some (.tup (txs (sg.map (tg x))))
  hnu : H nu = some (.dK (numK ms))
  hle : H le = some (.dK (leK ms la))
  hla : ∀ x ∈ ms, H (la x) = some (.dK (laK sg (tg x)))
def colI (ms : List (List Nat)) (tg : List Nat → Nat → List Nat) (c : Nat) : List V := ms.map fun x => V.int (ms.idxOf (tg x c) : Nat)
def coK (sg : List Nat) (ca : Nat → Addr) : List (Key × V) := sg.map fun c => (tk [c], .ref (ca c))
structure ColAt (H : Hp) (co : Addr) (sg : List Nat) (ms : List (List Nat)) (tg : List Nat → Nat → List Nat) (ca : Nat → Addr) : Prop where
  hco : H co = some (.dK (coK sg ca))
  hca : ∀ c ∈ sg, H (ca c) = some (.tup (colI ms tg c))
def TailOk (t : List (Str × V)) : Prop := t = [] ∨ ∃ co : Addr, t = ([("_columns", .ref co)] : List (Str × V))
def Rdr0 (C : Addr) (H : Hp) (a : Addr) (sg : List Nat) (ms : List (List Nat)) (f : List Nat) (tg : List Nat → Nat → List Nat) : Prop := ∃ dx m st nu le sa la t, TailOk t ∧ RdrAt C H a sg ms f tg dx m st nu le sa la t
def Rdr (C : Addr) (H : Hp) (a : Addr) (sg : List Nat) (ms : List (List Nat)) (f : List Nat) (tg : List Nat → Nat → List Nat) : Prop := ∃ dx m st nu le sa la co ca, RdrAt C H a sg ms f tg dx m st nu le sa la [("_columns", .ref co)] ∧ ColAt H co sg ms tg ca
theorem Rdr.to0 {C : Addr} {H : Hp} {a : Addr} {sg : List Nat} {ms : List (List Nat)} {f : List Nat} {tg : List Nat → Nat → List Nat} (r : Rdr C H a sg ms f tg) : Rdr0 C H a sg ms f tg :=
  let ⟨dx, m, st, nu, le, sa, la, co, ca, h, _⟩ := r; ⟨dx, m, st, nu, le, sa, la, _, .inr ⟨co, rfl⟩, h⟩
theorem putF_new {f : Str} {v : V} : ∀ {fs : List (Str × V)}, (∀ p ∈ fs, ¬ p.1 = f) → putF f v fs = fs ++ [(f, v)]
  | [], _ => rfl
  | (g, u) :: fs, h => by
    show (if g = f then _ else (g, u) :: putF f v fs) = _
    rw [if_neg (h (g, u) List.mem_cons_self), putF_new fun p hp => h p (List.mem_cons_of_mem _ hp)]; rfl
theorem nm6 : ([("signs" : Str), "marks", "first", "steps", "_numbers", "_leads"] : List Str).Nodup := by decide +kernel
theorem pf1 (v0 : V) : putF ("signs" : Str) v0 ([] : List (Str × V)) = ([("signs", v0)] : List (Str × V)) := rfl
theorem pf2 (v0 v1 : V) : putF ("marks" : Str) v1 ([("signs", v0)] : List (Str × V)) = ([("signs", v0), ("marks", v1)] : List (Str × V)) := putF_new fun p hp => by
  simp at hp; rcases hp with rfl; dsimp only; decide +kernel
theorem pf3 (v0 v1 v2 : V) : putF ("first" : Str) v2 ([("signs", v0), ("marks", v1)] : List (Str × V)) = ([("signs", v0), ("marks", v1), ("first", v2)] : List (Str × V)) := putF_new fun p hp => by
  simp at hp; rcases hp with rfl | rfl <;> (dsimp only; decide +kernel)
theorem pf4 (v0 v1 v2 v3 : V) : putF ("steps" : Str) v3 ([("signs", v0), ("marks", v1), ("first", v2)] : List (Str × V)) = ([("signs", v0), ("marks", v1), ("first", v2), ("steps", v3)] : List (Str × V)) := putF_new fun p hp => by
  simp at hp; rcases hp with rfl | rfl | rfl <;> (dsimp only; decide +kernel)
theorem pf5 (v0 v1 v2 v3 v4 : V) : putF ("_numbers" : Str) v4 ([("signs", v0), ("marks", v1), ("first", v2), ("steps", v3)] : List (Str × V)) = ([("signs", v0), ("marks", v1), ("first", v2), ("steps", v3), ("_numbers", v4)] : List (Str × V)) := putF_new fun p hp => by
  simp at hp; rcases hp with rfl | rfl | rfl | rfl <;> (dsimp only; decide +kernel)
theorem pf6 (v0 v1 v2 v3 v4 v5 : V) : putF ("_leads" : Str) v5 ([("signs", v0), ("marks", v1), ("first", v2), ("steps", v3), ("_numbers", v4)] : List (Str × V)) = ([("signs", v0), ("marks", v1), ("first", v2), ("steps", v3), ("_numbers", v4), ("_leads", v5)] : List (Str × V)) := putF_new fun p hp => by
  simp at hp; rcases hp with rfl | rfl | rfl | rfl | rfl <;> (dsimp only; decide +kernel)
theorem pf7 (v0 v1 v2 v3 v4 v5 v6 : V) : putF ("_columns" : Str) v6 ([("signs", v0), ("marks", v1), ("first", v2), ("steps", v3), ("_numbers", v4), ("_leads", v5)] : List (Str × V)) = ([("signs", v0), ("marks", v1), ("first", v2), ("steps", v3), ("_numbers", v4), ("_leads", v5), ("_columns", v6)] : List (Str × V)) := putF_new fun p hp => by
  simp at hp; rcases hp with rfl | rfl | rfl | rfl | rfl | rfl <;> (dsimp only; decide +kernel)
theorem RdrAt.same {C : Addr} {H H' : Hp} {a : Addr} {sg : List Nat} {ms : List (List Nat)} {f : List Nat} {tg : List Nat → Nat → List Nat} {dx m st nu le : Addr} {sa la : List Nat → Addr} {t : List (Str × V)} (h : RdrAt C H a sg ms f tg dx m st nu le sa la t) (s : Same H H') : RdrAt C H' a sg ms f tg dx m st nu le sa la t :=
  ⟨s _ _ h.ha, s _ _ h.hm, s _ _ h.hst, fun x hx => s _ _ (h.hsa x hx), s _ _ h.hnu, s _ _ h.hle, fun x hx => s _ _ (h.hla x hx)⟩
theorem ColAt.same {H H' : Hp} {co : Addr} {sg : List Nat} {ms : List (List Nat)} {tg : List Nat → Nat → List Nat} {ca : Nat → Addr} (h : ColAt H co sg ms tg ca) (s : Same H H') : ColAt H' co sg ms tg ca := ⟨s _ _ h.hco, fun c hc => s _ _ (h.hca c hc)⟩
theorem Rdr.same {C : Addr} {H H' : Hp} {a : Addr} {sg : List Nat} {ms : List (List Nat)} {f : List Nat} {tg : List Nat → Nat → List Nat} (r : Rdr C H a sg ms f tg) (s : Same H H') : Rdr C H' a sg ms f tg :=
  let ⟨dx, m, st, nu, le, sa, la, co, ca, h, hc⟩ := r; ⟨dx, m, st, nu, le, sa, la, co, ca, h.same s, hc.same s⟩
theorem Rdr0.same {C : Addr} {H H' : Hp} {a : Addr} {sg : List Nat} {ms : List (List Nat)} {f : List Nat} {tg : List Nat → Nat → List Nat} (r : Rdr0 C H a sg ms f tg) (s : Same H H') : Rdr0 C H' a sg ms f tg :=
  let ⟨dx, m, st, nu, le, sa, la, t, ht, h⟩ := r; ⟨dx, m, st, nu, le, sa, la, t, ht, h.same s⟩
structure Good (sg : List Nat) (ms : List (List Nat)) (f : List Nat) (tg : List Nat → Nat → List Nat) : Prop where
  hsg : Sg sg
  hnd : ms.Nodup
  h1 : 1 ≤ ms.length
  h8 : ms.length ≤ 8
  hnm : ∀ m ∈ ms, Name m
  hf : f ∈ ms
  htg : ∀ m ∈ ms, ∀ c ∈ sg, tg m c ∈ ms
theorem zip_self_map {α β γ : Type} (g : α → β) (f : α → γ) : ∀ l : List α, ((l.zip (l.map f)).map fun p => (g p.1, p.2)) = l.map fun a => (g a, f a)
  | [] => rfl
  | a :: l => by
    have := zip_self_map g f l
    simp only [List.map_cons, List.zip_cons_cons] at this ⊢
    rw [this]
theorem la_dict {sg : List Nat} (hn : sg.Nodup) (t : Nat → List Nat) : mergeK [] ((sg.zip (txs (sg.map t))).map fun p => (tk [p.1], p.2)) = laK sg t := by
  have e : txs (sg.map t) = sg.map fun c => V.str (S (t c)) := by unfold txs; rw [List.map_map]; rfl
  rw [e, zip_self_map (fun c => tk [c]), merge_nil (nodup_keys (key := fun c => tk [c]) (fun a b h => (List.cons.inj (tk_inj h)).1) hn)]
  rfl
theorem getD_of {ms : List (List Nat)} {i : Nat} {m : List Nat} (h : ms[i]? = some m) : ms.getD i [] = m := by rw [List.getD_eq_getElem?_getD, h]; rfl
theorem key_inj {ms : List (List Nat)} (nd : ms.Nodup) : ∀ i j, i < ms.length → j < i → tk (ms.getD j []) ≠ tk (ms.getD i []) := fun i j hi hj h => by
  have e := tk_inj h
  have hj2 : j < ms.length := by omega
  rw [List.getD_eq_getElem?_getD, List.getD_eq_getElem?_getD, List.getElem?_eq_getElem hi, List.getElem?_eq_getElem hj2] at e
  have e1 := nd.idxOf_getElem i hi
  have e2 := nd.idxOf_getElem j hj2
  rw [show ms[j] = ms[i] from e, e1] at e2
  omega
end
section
variable {C : Addr} {H : Hp} {a : Addr} {sg : List Nat} {ms : List (List Nat)} {f : List Nat} {tg : List Nat → Nat → List Nat} {dx m st nu le : Addr} {sa la : List Nat → Addr} {t : List (Str × V)}
theorem rl_signs : (rdF sg m f st nu le t).lookup ("signs" : Str) = some (.str (S sg)) := by rfl
theorem rl_marks : (rdF sg m f st nu le t).lookup ("marks" : Str) = some (.ref m) := by rfl
theorem rl_first : (rdF sg m f st nu le t).lookup ("first" : Str) = some (.str (S f)) := by rfl
theorem rl_steps : (rdF sg m f st nu le t).lookup ("steps" : Str) = some (.ref st) := by rfl
theorem rl_numbers : (rdF sg m f st nu le t).lookup ("_numbers" : Str) = some (.ref nu) := by rfl
theorem rl_leads : (rdF sg m f st nu le t).lookup ("_leads" : Str) = some (.ref le) := by rfl
theorem RdrAt.mark (r : RdrAt C H a sg ms f tg dx m st nu le sa la t) {x : List Nat} (h : x ∈ ms) : DGet H le (.str (S x)) (some (.ref (la x))) := .inl ⟨_, tk x, .inl r.hle, rfl, (valV_map' (key := tk) (f := fun m => V.ref (la m)) (fun _ _ => tk_inj) h).symm⟩
theorem RdrAt.at_ (r : RdrAt C H a sg ms f tg dx m st nu le sa la t) {x : List Nat} (h : x ∈ ms) {c : Nat} (hc : c ∈ sg) : DGet H (la x) (.str (S [c])) (some (.str (S (tg x c)))) :=
  .inl ⟨_, tk [c], .inl (r.hla x h), rfl, (valV_map' (key := fun c => tk [c]) (f := fun c => V.str (S (tg x c))) (fun _ _ e => (List.cons.inj (tk_inj e)).1) hc).symm⟩
theorem numK_eq (ms : List (List Nat)) (nd : ms.Nodup) : numK ms = ms.map fun x => (tk x, V.int (ms.idxOf x : Nat)) := by
  unfold numK
  symm
  refine list_of (f := fun i => (tk (ms.getD i []), V.int (i : Nat))) (by rw [List.length_map]) fun j y hy => ?_
  rw [List.getElem?_map] at hy
  cases q : ms[j]? with
  | none => rw [q] at hy; cases hy
  | some x =>
    rw [q] at hy; cases hy
    obtain ⟨h1, h2⟩ := List.getElem?_eq_some_iff.mp q
    have : ms.idxOf x = j := by rw [← h2]; exact nd.idxOf_getElem j h1
    rw [getD_of q]
    show (tk x, V.int (ms.idxOf x : Nat)) = _
    rw [this]
theorem RdrAt.num (r : RdrAt C H a sg ms f tg dx m st nu le sa la t) (nd : ms.Nodup) {x : List Nat} (h : x ∈ ms) : DGet H nu (.str (S x)) (some (.int (ms.idxOf x : Nat))) := .inl ⟨_, tk x, .inl r.hnu, rfl, by
  rw [numK_eq ms nd]; exact (valV_map' (key := tk) (f := fun x => V.int (ms.idxOf x : Nat)) (fun _ _ => tk_inj) h).symm⟩
end
theorem rdr_no {sg : List Nat} {m : Addr} {f : List Nat} {st nu le : Addr} {t : List (Str × V)} {n : Str} (ht : TailOk t) (h : (n == ("signs" : Str)) = false ∧ (n == ("marks" : Str)) = false ∧ (n == ("first" : Str)) = false ∧ (n == ("steps" : Str)) = false ∧ (n == ("_numbers" : Str)) = false ∧ (n == ("_leads" : Str)) = false ∧ (n == ("_columns" : Str)) = false) : (rdF sg m f st nu le t).lookup n = none := by
  unfold rdF
  rw [List.lookup_cons, h.1, List.lookup_cons, h.2.1, List.lookup_cons, h.2.2.1, List.lookup_cons, h.2.2.2.1, List.lookup_cons, h.2.2.2.2.1, List.lookup_cons, h.2.2.2.2.2.1]
  rcases ht with rfl | ⟨co, rfl⟩
  · rfl
  · rw [List.lookup_cons, h.2.2.2.2.2.2]; rfl
section
variable {P : Program} {w : World} {K : PySem.W.Frag} {mg : Str → Option Value} {base : Heap}
abbrev s_m_num : Stmt := inClass (top 16) 4
abbrev n_m_num : List Str := ["self", "mark"]
theorem sc_m_num : FnScope n_m_num ["self", "mark"] (fnScope s_m_num) := fnScope_by (by decide +kernel)
def spMNum (C : Addr) : Sp := fun vs H Q _ => ∃ (a : Addr) (sg : List Nat) (ms : List (List Nat)) (f : List Nat) (tg : List Nat → Nat → List Nat) (x : List Nat), vs = [.ref a, .str (S x)] ∧ Rdr0 C H a sg ms f tg ∧ ms.Nodup ∧ x ∈ ms ∧ Q (.int (ms.idxOf x : Nat)) H
theorem ok_mnum {C : Addr} (T : BT mg) (CH : CR K C) {f : Addr} {fd : FuncData} (me : Meth K C "number_of" f) (F : C8.Fun K "number_of" "Reader.number_of" s_m_num f fd) (b : Binds K fd ["self", "mark"] []) : Met P w K mg base 1 C "number_of" (spMNum C) [] := by
  refine met0 CH.cl me F b sc_m_num (fun vs H Q E h => ?_) (fun cdv A outer s H vs Q E hr h => ?_)
  · obtain ⟨a, sg, ms, f, tg, x, rfl, _⟩ := h; rfl
  · obtain ⟨a, sg, ms, f, tg, x, rfl, ⟨dx, m, st, nu, le, sa, la, t, ht, r⟩, hnd, hx, k⟩ := h
    refine ⟨_, (pss_one (ps_ret (pe_dget (hu_of hr) (fldK K (pv 0) rfl) (pv 1) (fun _ _ => rfl)))
      ), ?_⟩
    refine ⟨_, rfl, a, C, dx, _, _, rfl, r.ha, CH.cl, CH.nN, rl_numbers, ?_⟩
    exact ⟨_, rfl, _, _, rfl, r.num hnd hx, k⟩
abbrev s_table : Stmt := top 19
abbrev n_table : List Str := ["reader", "targets", "mark"]
theorem sc_table : FnScope n_table ["reader"] (fnScope s_table) := fnScope_by (by decide +kernel)
abbrev ncs_table : Scope := relS (outS (ofRet ((fnBody s_table).getD 0 (.Pass ⟨0, 0, 0, 0⟩)))) (fnScope s_table)
def tabI (sg : List Nat) (ms : List (List Nat)) (tg : List Nat → Nat → List Nat) (x : List Nat) : List V := sg.map fun c => V.int (ms.idxOf (tg x c) : Nat)
def spTable (C : Addr) : Sp := fun vs H Q _ => ∃ (a : Addr) (sg : List Nat) (ms : List (List Nat)) (f : List Nat) (tg : List Nat → Nat → List Nat), vs = [.ref a] ∧ Rdr0 C H a sg ms f tg ∧ Good sg ms f tg ∧
  ∀ (p : Addr) (ra : List Nat → Addr) (H' : Hp), Same H H' → H p = none → H' p = some (.lst (ms.map fun x => .ref (ra x))) → (∀ x ∈ ms, H' (ra x) = some (.lst (tabI sg ms tg x))) → Q (.ref p) H'
theorem ok_table {C : Addr} (T : BT mg) (CH : CR K C) (c_m_num : Met P w K mg base 1 C "number_of" (spMNum C) []) {f : Addr} {fd : FuncData} (F : Def K mg "table_of" s_table f fd) (b : Binds K fd ["reader"] []) : Cal P w K mg base 2 "table_of" (spTable C) [] := by
  refine cal0 F b .nil sc_table (fun vs H Q E h => ?_) (fun cdv A outer s H vs Q E hr h => ?_)
  · obtain ⟨a, sg, ms, f, tg, rfl, _⟩ := h; rfl
  · obtain ⟨a, sg, ms, f, tg, rfl, hrd, hgd, k⟩ := h
    obtain ⟨dx, m, st, nu, le, sa, la, t, ht, r⟩ := id hrd
    have h8 := hgd.h8
    refine ⟨_, (pss_one (ps_ret (pe_lc (own := [("targets", 1)]) rfl sc_table.nd (pi_tup (fldK K (pv 0) rfl)) (blkOk_by (N := n_table) (sc := fnScope s_table) (by decide +kernel)) (fun _ _ _ _ _ => (pg_name (i := 1) sc_table.nd rfl (.inl rfl))) (fun _ _ _ _ _ => pts_nil) (fun _ _ _ _ _ => (pe_lc (own := [("mark", 2)]) rfl sc_table.nd (pi_tupK K (pv 1)) (blkOk_by (N := n_table) (sc := ncs_table) (by decide +kernel)) (fun _ _ _ _ _ => (pg_name (i := 2) sc_table.nd rfl (.inl rfl))) (fun _ _ _ _ _ => pts_nil) (fun _ _ _ _ _ => (pe_mt c_m_num hr (by decide) (pv 0) (pa_cons (pv 2) pa_nil)))))))
      ), ?_⟩
    refine ⟨_, rfl, a, C, dx, _, _, rfl, r.ha, CH.cl, CH.nT, rl_steps, ?_⟩
    refine ⟨st, rfl, ⟨_, SqT.of r.hst⟩, fun D hD => ?_⟩
    refine lc_keepH keep_same (walk_tup (K := K) (a := st) (xs := ms.map fun x => V.ref (sa x))) hD (by rw [List.length_map]; exact small1000 (by omega)) (fun j y H => ∃ t, y = .ref t ∧ t ≠ D ∧ ∀ mm, ms[j]? = some mm → H t = some (.lst (tabI sg ms tg mm))) (fun H r1 => SqT.of (r1 _ _ r.hst))
      (fun _ _ _ _ _ r1 ⟨t, e, n, h⟩ => ⟨t, e, n, fun mm hm => r1 _ _ (h mm hm)⟩) (fun _ _ _ _ _ _ _ ⟨t, e, n, h⟩ => ⟨t, e, n, fun mm hm => by rw [upd_ne n]; exact h mm hm⟩) (fun i x H2 H2' acc R hi r2 hDa hy hR => ?_) (fun ys H2 hly hg r2 hDs => ?_)
    · obtain ⟨rfl, e⟩ := hy
      rw [List.getElem?_map] at e
      cases em : ms[i]? with
      | none => rw [em] at e; cases e
      | some mm =>
        rw [em] at e; cases e
        have hmem := List.mem_of_getElem? em
        have hsm := r2 _ _ (r.hsa mm hmem)
        refine ⟨rfl, ?_⟩
        refine ⟨_, rfl, sa mm, rfl, ⟨_, SqT.of hsm⟩, fun D2 hD2 => lc_keep keep_same (walk_tup (K := K) (a := sa mm) (xs := txs (sg.map (tg mm)))) hD2 (by rw [txs_len, List.length_map]; exact small1000 (by have := hgd.hsg.2.2.1; omega)) (fun j y => ∀ c, sg[j]? = some c → y = .int (ms.idxOf (tg mm c) : Nat)) (fun H3 r3 => SqT.of (r3 _ _ hsm)) (fun j z H3 H4 R2 hj r3 hy hR2 => ?_) (fun zs H3 hlz hgz r3 hDz => ?_)⟩
        · obtain ⟨rfl, e⟩ := hy
          obtain ⟨l, hl, rfl⟩ := txs_get e
          rw [List.getElem?_map] at hl
          cases ec : sg[j]? with
          | none => rw [ec] at hl; cases hl
          | some c =>
            rw [ec] at hl
            obtain rfl : tg mm c = l := Option.some.inj hl
            refine ⟨rfl, ?_⟩
            refine ⟨_, rfl, a, dx, _, rfl, (r2.trans r3) _ _ r.ha, rdr_no ht (by decide +kernel), _, rfl, ?_⟩
            exact ⟨a, sg, ms, f, tg, tg mm c, rfl, hrd.same (r2.trans r3), hgd.hnd, hgd.htg mm hmem c (List.mem_of_getElem? ec), hR2 _ _ (Same.refl _) fun c' h => by rw [Option.some.inj (ec.symm.trans h)]⟩
        · have ez : zs = tabI sg ms tg mm := by
            refine list_map (hlz.trans (by rw [txs_len, List.length_map])) fun j y c e1 e2 => hgz j y e1 c e2
          subst ez
          have nD : D2 ≠ D := fun e => by rw [e, hDa] at hD2; cases hD2
          exact hR _ _ r3 ⟨D2, rfl, nD, fun m2 h2 => by rw [em] at h2; cases h2; exact hDz⟩
    rw [List.length_map] at hly
    obtain ⟨ra, hra⟩ := fun_of (γ := Addr) hgd.hnd (P := fun j mm t => ys[j]? = some (V.ref t) ∧ H2 t = some (.lst (tabI sg ms tg mm))) fun j mm hj => by
      have hjl : j < ys.length := by rw [hly]; exact (List.getElem?_eq_some_iff.mp hj).1
      obtain ⟨t, e, _, h⟩ := hg j _ (List.getElem?_eq_getElem hjl)
      exact ⟨t, by rw [List.getElem?_eq_getElem hjl, e], h mm hj⟩
    have eys : ys = ms.map fun x => V.ref (ra x) := list_map hly fun j y x e1 e2 => by have := (hra j x e2).1; rw [e1] at this; exact Option.some.inj this
    subst eys
    exact k D ra H2 r2 hD hDs fun x hx => by obtain ⟨j, hj⟩ := List.getElem?_of_mem hx; exact (hra j x hj).2
abbrev s_cols : Stmt := top 20
abbrev n_cols : List Str := ["signs", "table", "at", "sign", "things"]
theorem sc_cols : FnScope n_cols ["signs", "table"] (fnScope s_cols) := fnScope_by (by decide +kernel)
abbrev ncs_cols : Scope := relS (outD (ofRet ((fnBody s_cols).getD 0 (.Pass ⟨0, 0, 0, 0⟩)))) (fnScope s_cols)
def spCols : Sp := fun vs H Q _ => ∃ (p : Addr) (sg : List Nat) (ms : List (List Nat)) (tg : List Nat → Nat → List Nat) (ra : List Nat → Addr), vs = [.str (S sg), .ref p] ∧ H p = some (.lst (ms.map fun x => .ref (ra x))) ∧ (∀ x ∈ ms, H (ra x) = some (.lst (tabI sg ms tg x))) ∧ ms.length ≤ 60 ∧ sg.length ≤ 3 ∧ sg.Nodup ∧
  ∀ (d : Addr) (ca : Nat → Addr) (H' : Hp), Same H H' → H d = none → ColAt H' d sg ms tg ca → Q (.ref d) H'
theorem ok_cols (T : BT mg) {f : Addr} {fd : FuncData} (F : Def K mg "columns_of" s_cols f fd) (b : Binds K fd ["signs", "table"] []) : Cal P w K mg base 1 "columns_of" spCols [] := by
  refine cal0 F b .nil sc_cols (fun vs H Q E h => ?_) (fun cdv A outer s H vs Q E hr h => ?_)
  · obtain ⟨p, sg, ms, tg, ra, rfl, _⟩ := h; rfl
  · obtain ⟨p, sg, ms, tg, ra, rfl, hp, hra, hm, hs3, hnd, k⟩ := h
    refine ⟨_, (pss_one (ps_ret (pe_dc (own := [("at", 2), ("sign", 3)]) rfl sc_cols.nd (pi_enumX (by rfl) T.m_enumerate (pa_cons (pv 0) pa_nil)) (blkOk_by (N := n_cols) (sc := fnScope s_cols) (by decide +kernel)) (fun _ _ _ _ _ => (tupK K 2 (pgs_cons (pg_name (i := 2) sc_cols.nd rfl (.inr rfl)) (pgs_cons (pg_name (i := 3) sc_cols.nd rfl (.inl rfl)) pgs_nil)))) (fun _ _ _ _ _ => pts_nil) (fun _ _ _ _ _ => (pv 3)) (fun _ _ _ _ _ => (pe_callTy (tupleK K) (by rfl) T.m_tuple PyProof.Rows.boot_tuple (pa_cons (pe_lc (own := [("things", 4)]) rfl sc_cols.nd (pi_listK K (pv 1)) (blkOk_by (N := n_cols) (sc := ncs_cols) (by decide +kernel)) (fun _ _ _ _ _ => (pg_name (i := 4) sc_cols.nd rfl (.inl rfl))) (fun _ _ _ _ _ => pts_nil) (fun _ _ _ _ _ => (pe_ix (ixl K) (pv 4) (pv 2) (fun _ _ => rfl)))) pa_nil)))))
      ), ?_⟩
    have hinj : ∀ i j, i < sg.length → j < i → tk [sg.getD j 0] ≠ tk [sg.getD i 0] := fun i j hi hj h => by
      have e := (List.cons.inj (tk_inj h)).1
      have hj2 : j < sg.length := by omega
      rw [List.getD_eq_getElem?_getD, List.getD_eq_getElem?_getD, List.getElem?_eq_getElem hi, List.getElem?_eq_getElem hj2] at e
      have e1 := hnd.idxOf_getElem i hi
      have e2 := hnd.idxOf_getElem j hj2
      rw [show sg[j] = sg[i] from e, e1] at e2
      omega
    have hget : ∀ {i c : Nat}, sg[i]? = some c → sg.getD i 0 = c := fun h => by rw [List.getD_eq_getElem?_getD, h]; rfl
    refine ⟨_, rfl, V.str (S sg), .txt (S sg), rfl, rfl, trivial, fun D hD => ?_⟩
    refine dc_keep keep_same (walk_enumX (K := K) (S := .txt (S sg)) (xs := sg.map fun c => V.str (S [c]))) hD (by rw [List.length_map]; exact small1000 (by omega)) (fun i => tk [sg.getD i 0]) (fun j y H => ∃ t, y = .ref t ∧ ∀ c, sg[j]? = some c → H t = some (.tup (colI ms tg c))) (fun H r => rfl) (fun i j hi hj => hinj i j (by rw [List.length_map] at hi; exact hi) hj)
      (fun _ _ _ _ _ r ⟨t, e, h⟩ => ⟨t, e, fun c hc => r _ _ (h c hc)⟩) (fun _ _ _ _ _ _ hDa ⟨t, e, h⟩ => ⟨t, e, fun c hc => by rw [upd_ne (ne_of (h c hc) hDa (by intro h; cases h))]; exact h c hc⟩) (fun i x H2 H3 acc R hi r hDa hy hR => ?_) (fun ys H2 hly hg r2 hDs => ?_)
    · obtain ⟨t, x1, x2, rfl, ht, rfl, e1, e2⟩ := hy
      obtain rfl : V.int (i : Nat) = x1 := Option.some.inj e1
      have e2 : (sg.map fun c => V.str (S [c]))[i]? = some x2 := e2
      rw [List.getElem?_map] at e2
      cases ec : sg[i]? with
      | none => rw [ec] at e2; cases e2
      | some c =>
        rw [ec] at e2
        obtain rfl : V.str (S [c]) = x2 := Option.some.inj e2
        have s3 : Same H2 (upd H2 t (.tup [.int (i : Nat), .str (S [c])])) := sm_new ht
        have ht3 : (upd H2 t (.tup [.int (i : Nat), .str (S [c])])) t = some (.tup [.int (i : Nat), .str (S [c])]) := upd_same
        generalize upd H2 t (.tup [.int (i : Nat), .str (S [c])]) = H3 at s3 ht3 ⊢
        refine ⟨t, _, rfl, .inl (.inl ht3), rfl, _, _, rfl, _, _, rfl, rfl, rfl, ?_⟩
        refine ⟨_, rfl, ?_⟩
        have hp3 := (r.trans s3) _ _ hp
        have hic : i < sg.length := (List.getElem?_eq_some_iff.mp ec).1
        refine ⟨_, rfl, p, rfl, ⟨_, SqL.of hp3⟩, fun D2 hD2 => lc_keep keep_same (walk_list (K := K) (a := p) (xs := ms.map fun x => V.ref (ra x))) hD2 (by rw [List.length_map]; exact small1000 (by omega)) (fun j y => ∀ mm, ms[j]? = some mm → y = .int (ms.idxOf (tg mm c) : Nat)) (fun H4 r4 => SqL.of (r4 _ _ hp3)) (fun j z H4 H5 R2 hj r4 hy hR2 => ?_) (fun zs H4 hlz hgz r4 hDz => ?_)⟩
        · obtain ⟨rfl, e⟩ := hy
          rw [List.getElem?_map] at e
          cases em : ms[j]? with
          | none => rw [em] at e; cases e
          | some mm =>
            rw [em] at e; cases e
            have hrow := ((r.trans s3).trans r4) _ _ (hra mm (List.mem_of_getElem? em))
            refine ⟨rfl, ?_⟩
            refine ⟨_, rfl, _, rfl, ra mm, tabI sg ms tg mm, (i : Nat), .int (ms.idxOf (tg mm c) : Nat), rfl, rfl, SqL.of hrow, at_of rfl (by unfold tabI; rw [List.getElem?_map, ec]; rfl), ?_⟩
            exact hR2 _ _ (Same.refl _) fun m2 h2 => by rw [Option.some.inj (em.symm.trans h2)]
        · have ez : zs = colI ms tg c := by
            unfold colI
            exact list_map (hlz.trans (by rw [List.length_map])) fun j y mm e1 e2 => hgz j y e1 mm e2
          subst ez
          refine nil1 ⟨D2, _, rfl, .inl ⟨SqL.of hDz, fun st hst => ?_⟩⟩
          rw [hget ec] at hR
          exact hR _ _ ((s3.trans r4).trans (sm_new hst)) ⟨st, rfl, fun c' hc' => by rw [Option.some.inj (hc'.symm.trans ec)]; exact upd_same⟩
    · rw [List.length_map] at hly hDs
      obtain ⟨ca, hca⟩ := fun_of (γ := Addr) hnd (P := fun j c t => ys[j]? = some (V.ref t) ∧ H2 t = some (.tup (colI ms tg c))) fun j c hj => by
        have hjl : j < ys.length := by rw [hly]; exact (List.getElem?_eq_some_iff.mp hj).1
        obtain ⟨t, e, h⟩ := hg j _ (List.getElem?_eq_getElem hjl)
        exact ⟨t, by rw [List.getElem?_eq_getElem hjl, e], h c hj⟩
      have eys : ys = sg.map fun c => V.ref (ca c) := list_map hly fun j y c e1 e2 => by have := (hca j c e2).1; rw [e1] at this; exact Option.some.inj this
      subst eys
      refine k D ca H2 r2 hD ⟨?_, fun c hc => by obtain ⟨j, hj⟩ := List.getElem?_of_mem hc; exact (hca j c hj).2⟩
      rw [hDs]
      have e : (sg.map fun c => V.ref (ca c)) = (List.range sg.length).map fun i => V.ref (ca (sg.getD i 0)) := by
        refine (list_of (by rw [List.length_map]) fun j y hy => ?_)
        rw [List.getElem?_map] at hy
        cases q : sg[j]? with
        | none => rw [q] at hy; cases hy
        | some x => rw [q] at hy; cases hy; rw [hget q]
      rw [e, zip_self_map (fun i => tk [sg.getD i 0])]
      congr 2
      symm
      unfold coK
      refine list_of (f := fun i => (tk [sg.getD i 0], V.ref (ca (sg.getD i 0)))) (by rw [List.length_map]) fun j y hy => ?_
      rw [List.getElem?_map] at hy
      cases q : sg[j]? with
      | none => rw [q] at hy; cases hy
      | some x => rw [q] at hy; cases hy; rw [hget q]
end
end Toy
set_option maxHeartbeats 4000000
namespace Toy
open PySem L2 C8 SX LX
local macro_rules | `(tactic| walk_at "c") => `(tactic| refine And.intro (by first | (show (0 : Int) < _; omega) | exact Or.inr ⟨by decide, by decide⟩ | exact Or.inl ⟨by decide, by decide⟩ | (exact ⟨by omega, by omega⟩)) ?_)
local macro_rules | `(tactic| walk_at "s1") => `(tactic| first | refine ⟨_, rfl, ?_⟩ | refine ⟨_, _, rfl, rfl, ?_⟩ | refine .inl ⟨_, rfl, ?_⟩ | walk_at "c")
local macro_rules | `(tactic| walk_at "s") => `(tactic| repeat (walk_at "s1"))
section
variable {P : Program} {w : World} {K : PySem.W.Frag} {mg : Str → Option Value} {base : Heap}
abbrev s_init : Stmt := inClass (top 16) 0
abbrev n_init : List Str := ["self", "signs", "marks", "first", "steps", "at", "mark", "targets"]
theorem sc_init : FnScope n_init ["self", "signs", "marks", "first", "steps"] (fnScope s_init) := fnScope_by (by decide +kernel)
def spInit (C : Addr) : Sp := fun vs H Q _ => ∃ (a dx q p : Addr) (b c d : Bool) (sg : List Nat) (ms : List (List Nat)) (f : List Nat) (tg : List Nat → Nat → List Nat) (pa : List Nat → Addr), vs = [.ref a, .str (S sg), .ref q, .str (S f), .ref p] ∧ H a = some (.ins C dx []) ∧
  H q = some (seqB b (txs ms)) ∧ H p = some (seqB c (ms.map fun x => .ref (pa x))) ∧ (∀ x ∈ ms, H (pa x) = some (seqB d (txs (sg.map (tg x))))) ∧ Good sg ms f tg ∧
  ∀ H', (∀ b o, b ≠ a → H b = some o → H' b = some o) → Rdr C H' a sg ms f tg → Q .non H'
theorem ok_init {C : Addr} (T : BT mg) (CH : CR K C) (c_issigns : Cal P w K mg base 3 "is_signs" spIsSigns []) (c_ismarks : Cal P w K mg base 4 "_is_marks" spIsMarks []) (c_issteps : Cal P w K mg base 3 "_is_steps" spIsSteps []) (c_table : Cal P w K mg base 2 "table_of" (spTable C) []) (c_cols : Cal P w K mg base 1 "columns_of" spCols []) (M : Mk K C f) (hm : mg "Reader" = some (.ref C)) {fd : FuncData} (F : C8.Fun K "__init__" "Reader.__init__" s_init f fd) (b : Binds K fd ["self", "signs", "marks", "first", "steps"] []) : FnOk P w K mg base C8.CX0 5 f fd ["self", "signs", "marks", "first", "steps"] (spInit C) := by
  refine fn0 F sc_init (fun vs H Q E h => ?_) (fun cdv A outer s H vs Q E hr h => ?_)
  · obtain ⟨a, dx, q, p, b, c, d, sg, ms, f, tg, pa, rfl, _⟩ := h; rfl
  · obtain ⟨a, dx, q, p, b, c, d, sg, ms, f, tg, pa, rfl, ha, hq, hp, hpa, hgd, k⟩ := h
    refine ⟨_, (pss_cons (ps_if (pt_not (pt_val (pe_c c_issigns hr (by first | decide | omega) (by rfl) (pa_cons (pv 1) pa_nil)))) 
        (pss_one ps_never
        )
       pss_nil)
      (pss_cons (ps_if (pt_not (pt_val (pe_c c_ismarks hr (by first | decide | omega) (by rfl) (pa_cons (pv 2) pa_nil)))) 
        (pss_one ps_never
        )
       pss_nil)
      (pss_cons (ps_if (pt_cmpR (notInK K) (pv 3) (pv 2) rfl) 
        (pss_one ps_never
        )
       pss_nil)
      (pss_cons (ps_if (pt_not (pt_val (pe_c c_issteps hr (by first | decide | omega) (by rfl) (pa_cons (pv 4) (pa_cons (pv 1) (pa_cons (pv 2) pa_nil)))))) 
        (pss_one ps_never
        )
       pss_nil)
      (pss_cons (ps_fld (pv 0) (pv 1) rfl)
      (pss_cons (ps_fld (pv 0) (pe_callTy (tupleK K) (by rfl) T.m_tuple PyProof.Rows.boot_tuple (pa_cons (pv 2) pa_nil)) rfl)
      (pss_cons (ps_fld (pv 0) (pv 3) rfl)
      (pss_cons (ps_fld (pv 0) (pe_callTy (tupleK K) (by rfl) T.m_tuple PyProof.Rows.boot_tuple (pa_cons (pe_lc (own := [("targets", 7)]) rfl sc_init.nd (pi_seq (pv 4)) (blkOk_by (N := n_init) (sc := fnScope s_init) (by decide +kernel)) (fun _ _ _ _ _ => (pg_name (i := 7) sc_init.nd rfl (.inl rfl))) (fun _ _ _ _ _ => pts_nil) (fun _ _ _ _ _ => (pe_callTy (tupleK K) (by rfl) T.m_tuple PyProof.Rows.boot_tuple (pa_cons (pv 7) pa_nil)))) pa_nil)) rfl)
      (pss_cons (ps_fld (pv 0) (pe_dc (own := [("at", 5), ("mark", 6)]) rfl sc_init.nd (pi_enumX (by rfl) T.m_enumerate (pa_cons (fldK K (pv 0) rfl) pa_nil)) (blkOk_by (N := n_init) (sc := fnScope s_init) (by decide +kernel)) (fun _ _ _ _ _ => (tupK K 2 (pgs_cons (pg_name (i := 5) sc_init.nd rfl (.inl rfl)) (pgs_cons (pg_name (i := 6) sc_init.nd rfl (.inl rfl)) pgs_nil)))) (fun _ _ _ _ _ => pts_nil) (fun _ _ _ _ _ => (pv 6)) (fun _ _ _ _ _ => (pv 5))) rfl)
      (pss_cons (ps_fld (pv 0) (pe_dc (own := [("mark", 6), ("targets", 7)]) rfl sc_init.nd (pi_zipX (by rfl) T.m_zip (pa_cons (fldK K (pv 0) rfl) (pa_cons (fldK K (pv 0) rfl) pa_nil))) (blkOk_by (N := n_init) (sc := fnScope s_init) (by decide +kernel)) (fun _ _ _ _ _ => (tupK K 2 (pgs_cons (pg_name (i := 6) sc_init.nd rfl (.inl rfl)) (pgs_cons (pg_name (i := 7) sc_init.nd rfl (.inl rfl)) pgs_nil)))) (fun _ _ _ _ _ => pts_nil) (fun _ _ _ _ _ => (pv 6)) (fun _ _ _ _ _ => (dictZipK K rfl (by rfl) T.m_dict (by rfl) T.m_zip (pa_cons (pv 1) (pa_cons (pv 7) pa_nil))))) rfl)
      (pss_one (ps_fld (pv 0) (pe_c c_cols hr (by first | decide | omega) (by rfl) (pa_cons (pv 1) (pa_cons (pe_c c_table hr (by first | decide | omega) (by rfl) (pa_cons (pv 0) pa_nil)) pa_nil))) rfl)
      ))))))))))), ?_⟩
    refine ⟨_, rfl, sg, rfl, hgd.hsg, fun H1 s1 => ?_⟩
    refine ⟨true, rfl, iteN rfl ?_⟩
    refine ⟨_, rfl, q, b, ms, rfl, s1 _ _ hq, hgd.h1, by have := hgd.h8; omega, hgd.hnd, hgd.hnm, fun H2 s2 => ?_⟩
    refine ⟨true, rfl, iteN rfl ?_⟩
    have s12 := s1.trans s2
    refine ⟨_, rfl, _, rfl, q, txs ms, rfl, (all_of hq s12).or, rfl, flat_txs _, _, rfl, ?_⟩
    refine iteN (by rw [inV_txs, decide_eq_true hgd.hf]; rfl) ?_
    have hpa2 : ∀ (i : Nat) (x : Addr) (ts : List (List Nat)), (ms.map pa)[i]? = some x → (ms.map fun m => sg.map (tg m))[i]? = some ts → H2 x = some (seqB d (txs ts)) ∧ ts.length = sg.length ∧ ∀ t ∈ ts, t ∈ ms := fun i x ts e1 e2 => by
      rw [List.getElem?_map] at e1 e2
      cases e : ms[i]? with
      | none => rw [e] at e1; cases e1
      | some m =>
        rw [e] at e1 e2
        cases e1; cases e2
        have hmm := List.mem_of_getElem? e
        exact ⟨s12 _ _ (hpa m hmm), by rw [List.length_map], fun t ht => let ⟨c, hc, e⟩ := List.mem_map.mp ht; e ▸ hgd.htg m hmm c hc⟩
    refine ⟨_, rfl, _, rfl, _, rfl, p, q, c, d, b, ms.map pa, ms.map fun m => sg.map (tg m), ms, sg, rfl, by rw [List.map_map]; exact s12 _ _ hp, s12 _ _ hq, hgd.hsg.2.2.1, by have := hgd.h8; omega, by rw [List.length_map], by rw [List.length_map, List.length_map], hpa2, fun H3 s3 => ?_⟩
    refine ⟨true, rfl, iteN rfl ?_⟩
    have s13 := s12.trans s3
    have ha3 := s13 _ _ ha
    refine ⟨_, rfl, _, rfl, a, C, dx, [], rfl, ha3, CH.cl, CH.nS, (by show 0 < 1000; decide), ?_⟩
    have nqa : q ≠ a := ne_of (s13 _ _ hq) ha3 (by cases b <;> (intro h; cases h))
    have npa : p ≠ a := ne_of (s13 _ _ hp) ha3 (by cases c <;> (intro h; cases h))
    generalize hH4 : upd H3 a (.ins C dx (putF ("signs" : Str) (.str (S sg)) [])) = H4
    have k4 : ∀ x o, x ≠ a → H3 x = some o → H4 x = some o := fun x o n e => by rw [← hH4, upd_ne n]; exact e
    have ha4 : H4 a = some (.ins C dx [("signs", .str (S sg))]) := by rw [← hH4, upd_same]; rfl
    clear hH4
    unfold tSeq
    dsimp only
    unfold sFld
    refine tCB_tup (i := 2) rfl (k4 _ _ nqa (s13 _ _ hq)) fun m H5 s5 hm5 hmq hmn => ?_
    have ha5 := s5 _ _ ha4
    refine ⟨_, rfl, a, C, dx, _, rfl, ha5, CH.cl, CH.nM, (by show 1 < 1000; decide), ?_⟩
    rw [pf2]
    have nma : m ≠ a := ne_of hm5 ha5 (by intro h; cases h)
    generalize hH6 : upd H5 a (.ins C dx [("signs", .str (S sg)), ("marks", .ref m)]) = H6
    have k6 : ∀ x o, x ≠ a → H3 x = some o → H6 x = some o := fun x o n e => by rw [← hH6, upd_ne n]; exact s5 _ _ (k4 _ _ n e)
    have hm6 : H6 m = some (.tup (txs ms)) := by rw [← hH6, upd_ne nma]; exact hm5
    have ha6 : H6 a = some (.ins C dx [("signs", .str (S sg)), ("marks", .ref m)]) := by rw [← hH6, upd_same]
    clear hmq hmn
    clear hH6 hm5 ha5 s5 k4 ha4 H5 H4
    refine ⟨_, rfl, _, rfl, a, C, dx, _, rfl, ha6, CH.cl, CH.nF, (by show 2 < 1000; decide), ?_⟩
    rw [pf3]
    generalize hH7 : upd H6 a (.ins C dx [("signs", .str (S sg)), ("marks", .ref m), ("first", .str (S f))]) = H7
    have k7 : ∀ x o, x ≠ a → H3 x = some o → H7 x = some o := fun x o n e => by rw [← hH7, upd_ne n]; exact k6 _ _ n e
    have hm7 : H7 m = some (.tup (txs ms)) := by rw [← hH7, upd_ne nma]; exact hm6
    have ha7 : H7 a = some (.ins C dx [("signs", .str (S sg)), ("marks", .ref m), ("first", .str (S f))]) := by rw [← hH7, upd_same]
    clear hH7 hm6 ha6 k6 H6
    have hp7 := k7 _ _ npa (s13 _ _ hp)
    have hpa7 : ∀ x ∈ ms, H7 (pa x) = some (seqB d (txs (sg.map (tg x)))) := fun x hx => k7 _ _ (ne_of (s13 _ _ (hpa x hx)) ha3 (by cases d <;> (intro h; cases h))) (s13 _ _ (hpa x hx))
    have hsgn : sg.Nodup := hgd.hsg.1.imp fun h => by omega
    have h8 := hgd.h8
    refine ⟨_, rfl, p, c, _, rfl, SqB.of hp7, fun D hD => lc_keepH keep_same (walk_seq (K := K) (b := c) (a := p) (xs := ms.map fun x => V.ref (pa x))) hD (by rw [List.length_map]; exact small1000 (by omega)) (fun j y H => ∃ t, y = .ref t ∧ ∀ mm, ms[j]? = some mm → H t = some (.tup (txs (sg.map (tg mm))))) (fun H r => SqB.of (r _ _ hp7))
      (fun _ _ _ _ _ r ⟨t, e, h⟩ => ⟨t, e, fun mm hm => r _ _ (h mm hm)⟩) (fun _ _ _ _ _ _ hDa ⟨t, e, h⟩ => ⟨t, e, fun mm hm => by rw [upd_ne (ne_of (h mm hm) hDa (by intro h; cases h))]; exact h mm hm⟩) (fun i x H8 H8' acc R hi r hDa hy hR => ?_) (fun ys H8 hly hg r8 hDs => ?_)⟩
    · obtain ⟨rfl, e⟩ := hy
      rw [List.getElem?_map] at e
      cases em : ms[i]? with
      | none => rw [em] at e; cases e
      | some mm =>
        rw [em] at e; cases e
        refine ⟨rfl, ?_⟩
        refine ⟨_, rfl, pa mm, _, rfl, tupA (Q := R) (r _ _ (hpa7 mm (List.mem_of_getElem? em))) fun l H9 s9 hl9 _ _ => hR _ _ s9 ⟨l, rfl, fun m2 h2 => by rw [em] at h2; cases h2; exact hl9⟩⟩
    rw [List.length_map] at hly
    obtain ⟨sa, hsa⟩ := fun_of (γ := Addr) hgd.hnd (P := fun j mm t => ys[j]? = some (V.ref t) ∧ H8 t = some (.tup (txs (sg.map (tg mm))))) fun j mm hj => by
      have hjl : j < ys.length := by rw [hly]; exact (List.getElem?_eq_some_iff.mp hj).1
      obtain ⟨t, e, h⟩ := hg j _ (List.getElem?_eq_getElem hjl)
      exact ⟨t, by rw [List.getElem?_eq_getElem hjl, e], h mm hj⟩
    have eys : ys = ms.map fun x => V.ref (sa x) := list_map hly fun j y x e1 e2 => by have := (hsa j x e2).1; rw [e1] at this; exact Option.some.inj this
    have hsa8 : ∀ x ∈ ms, H8 (sa x) = some (.tup (txs (sg.map (tg x)))) := fun x hx => by obtain ⟨j, hj⟩ := List.getElem?_of_mem hx; exact (hsa j x hj).2
    clear hsa
    subst eys
    refine nil1 ⟨D, _, rfl, .inl ⟨SqL.of hDs, fun st hst => ?_⟩⟩
    have ha8 := r8 _ _ ha7
    have nsta : st ≠ a := (ne_of_none ha8 hst).symm
    refine ⟨_, rfl, a, C, dx, _, rfl, (by rw [upd_ne nsta.symm]; exact ha8), CH.cl, CH.nT, (by show 3 < 1000; decide), ?_⟩
    rw [pf4]
    generalize hH9 : upd (upd H8 st (.tup (ms.map fun x => V.ref (sa x)))) a (.ins C dx [("signs", .str (S sg)), ("marks", .ref m), ("first", .str (S f)), ("steps", .ref st)]) = H9
    have k9 : ∀ x o, x ≠ a → H8 x = some o → H9 x = some o := fun x o n e => by rw [← hH9, upd_ne n, upd_ne (ne_of_none e hst)]; exact e
    have hm9 : H9 m = some (.tup (txs ms)) := k9 _ _ nma (r8 _ _ hm7)
    have hst9 : H9 st = some (.tup (ms.map fun x => V.ref (sa x))) := by rw [← hH9, upd_ne nsta, upd_same]
    have hsa9 : ∀ x ∈ ms, H9 (sa x) = some (.tup (txs (sg.map (tg x)))) := fun x hx => k9 _ _ (ne_of (hsa8 x hx) ha8 (by intro h; cases h)) (hsa8 x hx)
    have ha9 : H9 a = some (.ins C dx [("signs", .str (S sg)), ("marks", .ref m), ("first", .str (S f)), ("steps", .ref st)]) := by rw [← hH9, upd_same]
    have kk9 : ∀ x o, x ≠ a → H3 x = some o → H9 x = some o := fun x o n e => k9 _ _ n (r8 _ _ (k7 _ _ n e))
    clear hH9 k9 hsa8 ha8 hst hDs hly hg r8 hD hpa7 hp7 k7 hm7 ha7
    refine ⟨_, rfl, a, C, dx, _, _, rfl, ha9, CH.cl, CH.nM, (show _ = some (V.ref m) by rfl), ?_⟩
    refine nil1 ⟨.ref m, .tup m, rfl, rfl, ⟨_, SqT.of hm9⟩, fun D2 hD2 => ?_⟩
    refine dc_keep keep_same (walk_enumX (K := K) (S := .tup m) (xs := txs ms)) hD2 (by rw [txs_len]; exact small1000 (by omega)) (fun i => tk (ms.getD i [])) (fun j y H => y = .int (j : Nat)) (fun H r => SqT.of (r _ _ hm9)) (fun i j hi hj => key_inj hgd.hnd i j (by rw [txs_len] at hi; exact hi) hj)
      (fun _ _ _ _ _ _ h => h) (fun _ _ _ _ _ _ _ h => h) (fun i x H10 H11 acc R hi r hDa hy hR => ?_) (fun ys H10 hly hg r10 hDs => ?_)
    · obtain ⟨t, x1, x2, rfl, ht, rfl, e1, e2⟩ := hy
      obtain rfl : V.int (i : Nat) = x1 := Option.some.inj e1
      obtain ⟨mm, hmm, rfl⟩ := txs_get (show (txs ms)[i]? = some x2 from e2)
      refine ⟨t, _, rfl, .inl (.inl upd_same), rfl, _, _, rfl, _, _, rfl, rfl, rfl, ?_⟩
      refine ⟨_, rfl, _, rfl, ?_⟩
      rw [getD_of hmm] at hR
      exact hR _ _ (sm_new ht) rfl
    have eys : ys = (List.range ms.length).map fun j => V.int (j : Nat) := list_of (by rw [hly, txs_len]) fun j y e => hg j y e
    subst eys
    have hnu10 : H10 D2 = some (.dK (numK ms)) := by
      rw [hDs, txs_len, zip_self_map (fun i => tk (ms.getD i []))]; rfl
    clear hDs hg hly
    have ha10 := r10 _ _ ha9
    have nD2a : D2 ≠ a := ne_of hnu10 ha10 (by intro h; cases h)
    refine ⟨_, rfl, a, C, dx, _, rfl, ha10, CH.cl, CH.nN, (by show 4 < 1000; decide), ?_⟩
    rw [pf5]
    generalize hH11 : upd H10 a (.ins C dx [("signs", .str (S sg)), ("marks", .ref m), ("first", .str (S f)), ("steps", .ref st), ("_numbers", .ref D2)]) = H11
    have k11 : ∀ x o, x ≠ a → H10 x = some o → H11 x = some o := fun x o n e => by rw [← hH11, upd_ne n]; exact e
    have hm11 := k11 _ _ nma (r10 _ _ hm9)
    have hst11 := k11 _ _ nsta (r10 _ _ hst9)
    have hsa11 : ∀ x ∈ ms, H11 (sa x) = some (.tup (txs (sg.map (tg x)))) := fun x hx => k11 _ _ (ne_of (hsa9 x hx) ha9 (by intro h; cases h)) (r10 _ _ (hsa9 x hx))
    have hnu11 := k11 _ _ nD2a hnu10
    have ha11 : H11 a = some (.ins C dx [("signs", .str (S sg)), ("marks", .ref m), ("first", .str (S f)), ("steps", .ref st), ("_numbers", .ref D2)]) := by rw [← hH11, upd_same]
    have kk11 : ∀ x o, x ≠ a → H3 x = some o → H11 x = some o := fun x o n e => k11 _ _ n (r10 _ _ (kk9 _ _ n e))
    clear hH11 k11 hnu10 ha10 r10 hD2 hm9 hst9 hsa9 ha9 kk9
    refine ⟨_, rfl, a, C, dx, _, _, rfl, ha11, CH.cl, CH.nM, (show _ = some (V.ref m) by rfl), ?_⟩
    refine ⟨_, rfl, a, C, dx, _, _, rfl, ha11, CH.cl, CH.nT, (show _ = some (V.ref st) by rfl), ?_⟩
    refine nil1 ⟨.ref m, .ref st, .tup m, .tup st, rfl, rfl, rfl, ⟨_, SqT.of hm11⟩, ⟨_, SqT.of hst11⟩, fun D3 hD3 => ?_⟩
    refine dc_keep (n := min (txs ms).length (ms.map fun x => V.ref (sa x)).length) keep_same (walk_zipX (K := K) (S1 := .tup m) (S2 := .tup st) (xs := txs ms) (ys := ms.map fun x => V.ref (sa x))) hD3 (Nat.lt_of_le_of_lt (Nat.min_le_left _ _) (by rw [txs_len]; exact small1000 (by omega))) (fun i => tk (ms.getD i [])) (fun j y H => ∃ t, y = .ref t ∧ t ≠ D3 ∧ ∀ mm, ms[j]? = some mm → H t = some (.dK (laK sg (tg mm)))) (fun H r => ⟨SqT.of (r _ _ hm11), SqT.of (r _ _ hst11)⟩)
      (fun i j hi hj => key_inj hgd.hnd i j (by rw [txs_len] at hi; exact Nat.lt_of_lt_of_le hi (Nat.min_le_left _ _)) hj)
      (fun _ _ _ _ _ r ⟨t, e, n, h⟩ => ⟨t, e, n, fun mm hm => r _ _ (h mm hm)⟩) (fun _ _ _ _ _ _ _ ⟨t, e, n, h⟩ => ⟨t, e, n, fun mm hm => by rw [upd_ne n]; exact h mm hm⟩) (fun i x H12 H13 acc R hi r hDa hy hR => ?_) (fun ys H12 hly hg r12 hDs => ?_)
    · obtain ⟨t, x1, x2, rfl, ht, rfl, e1, e2⟩ := hy
      obtain ⟨mm, hmm, rfl⟩ := txs_get (show (txs ms)[i]? = some x1 from e1)
      have e2 : (ms.map fun x => V.ref (sa x))[i]? = some x2 := e2
      rw [List.getElem?_map, hmm] at e2
      obtain rfl : V.ref (sa mm) = x2 := Option.some.inj e2
      have hmem := List.mem_of_getElem? hmm
      refine ⟨t, _, rfl, .inl (.inl upd_same), rfl, _, _, rfl, _, _, rfl, rfl, rfl, ?_⟩
      refine ⟨_, rfl, _, rfl, _, rfl, sg, sa mm, txs (sg.map (tg mm)), rfl, SqT.of ((sm_new ht) _ _ (r _ _ (hsa11 mm hmem))), by rw [txs_len, List.length_map], by have := hgd.hsg.2.2.1; omega, fun d2 hd2 => ?_⟩
      rw [la_dict hsgn]
      have hne : d2 ≠ D3 := fun e => by rw [e, upd_ne (ne_of_none hDa ht)] at hd2; rw [hDa] at hd2; cases hd2
      rw [getD_of hmm] at hR
      exact hR _ _ (sm_put' (sm_new ht) hd2) ⟨d2, rfl, hne, fun m2 h2 => by rw [hmm] at h2; cases h2; exact upd_same⟩
    have hly2 : ys.length = ms.length := by rw [hly, txs_len, List.length_map, Nat.min_self]
    obtain ⟨la, hla⟩ := fun_of (γ := Addr) hgd.hnd (P := fun j mm t => ys[j]? = some (V.ref t) ∧ H12 t = some (.dK (laK sg (tg mm)))) fun j mm hj => by
      have hjl : j < ys.length := by rw [hly2]; exact (List.getElem?_eq_some_iff.mp hj).1
      obtain ⟨t, e, _, h⟩ := hg j _ (List.getElem?_eq_getElem hjl)
      exact ⟨t, by rw [List.getElem?_eq_getElem hjl, e], h mm hj⟩
    have eys : ys = ms.map fun x => V.ref (la x) := list_map hly2 fun j y x e1 e2 => by have := (hla j x e2).1; rw [e1] at this; exact Option.some.inj this
    have hla12 : ∀ x ∈ ms, H12 (la x) = some (.dK (laK sg (tg x))) := fun x hx => by obtain ⟨j, hj⟩ := List.getElem?_of_mem hx; exact (hla j x hj).2
    subst eys
    have hle12 : H12 D3 = some (.dK (leK ms la)) := by
      rw [hDs, txs_len, List.length_map, Nat.min_self]
      have e : (ms.map fun x => V.ref (la x)) = (List.range ms.length).map fun i => V.ref (la (ms.getD i [])) := by
        refine (list_of (by rw [List.length_map]) fun j y hy => ?_)
        rw [List.getElem?_map] at hy
        cases q : ms[j]? with
        | none => rw [q] at hy; cases hy
        | some x => rw [q] at hy; cases hy; rw [getD_of q]
      rw [e, zip_self_map (fun i => tk (ms.getD i []))]
      congr 2
      symm
      unfold leK
      refine list_of (f := fun i => (tk (ms.getD i []), V.ref (la (ms.getD i [])))) (by rw [List.length_map]) fun j y hy => ?_
      rw [List.getElem?_map] at hy
      cases q : ms[j]? with
      | none => rw [q] at hy; cases hy
      | some x => rw [q] at hy; cases hy; rw [getD_of q]
    have ha12 := r12 _ _ ha11
    refine ⟨_, rfl, a, C, dx, _, rfl, ha12, CH.cl, CH.nL, (by show 5 < 1000; decide), ?_⟩
    rw [pf6]
    have hR0 : RdrAt C (upd H12 a (.ins C dx (rdF sg m f st D2 D3 []))) a sg ms f tg dx m st D2 D3 sa la [] := by
      refine ⟨upd_same, ?_, ?_, fun x hx => ?_, ?_, ?_, fun x hx => ?_⟩
      · rw [upd_ne nma]; exact r12 _ _ hm11
      · rw [upd_ne nsta]; exact r12 _ _ hst11
      · rw [upd_ne (ne_of (hsa11 x hx) ha11 (by intro h; cases h))]; exact r12 _ _ (hsa11 x hx)
      · rw [upd_ne nD2a]; exact r12 _ _ hnu11
      · rw [upd_ne (ne_of hle12 ha12 (by intro h; cases h))]; exact hle12
      · rw [upd_ne (ne_of (hla12 x hx) ha12 (by intro h; cases h))]; exact hla12 x hx
    have kk13 : ∀ x o, x ≠ a → H3 x = some o → (upd H12 a (.ins C dx (rdF sg m f st D2 D3 []))) x = some o := fun x o n e => by rw [upd_ne n]; exact r12 _ _ (kk11 _ _ n e)
    show (fun H13 => _) (upd H12 a (.ins C dx (rdF sg m f st D2 D3 [])))
    generalize upd H12 a (.ins C dx (rdF sg m f st D2 D3 [])) = H13 at hR0 kk13 ⊢
    refine ⟨_, rfl, _, rfl, a, sg, ms, f, tg, rfl, ⟨dx, m, st, D2, D3, sa, la, [], .inl rfl, hR0⟩, hgd, fun tb ra H14 s14 n14 h14 hra => ?_⟩
    refine ⟨tb, sg, ms, tg, ra, rfl, h14, hra, by omega, hgd.hsg.2.2.1, hsgn, fun co ca H15 s15 n15 hcol => ?_⟩
    have hR2 := hR0.same (s14.trans s15)
    refine ⟨_, rfl, a, C, dx, _, rfl, hR2.ha, CH.cl, CH.nC, (by show 6 < 1000; decide), ?_⟩
    rw [show putF ("_columns" : Str) (V.ref co) (rdF sg m f st D2 D3 []) = rdF sg m f st D2 D3 [("_columns", .ref co)] from pf7 _ _ _ _ _ _ _]
    have nin : ∀ {x : Addr} {o : HO}, H15 x = some o → (∀ c d fs, o ≠ .ins c d fs) → x ≠ a := fun e n z => by rw [z, hR2.ha] at e; exact n _ _ _ (Option.some.inj e).symm
    refine k _ (fun x o n e => by rw [upd_ne n]; exact (s14.trans s15) _ _ (kk13 _ _ n (s13 _ _ e))) ⟨dx, m, st, D2, D3, sa, la, co, ca, ⟨upd_same, ?_, ?_, fun x hx => ?_, ?_, ?_, fun x hx => ?_⟩, ⟨?_, fun c hc => ?_⟩⟩
    · rw [upd_ne (nin hR2.hm (by intro _ _ _ h; cases h))]; exact hR2.hm
    · rw [upd_ne (nin hR2.hst (by intro _ _ _ h; cases h))]; exact hR2.hst
    · rw [upd_ne (nin (hR2.hsa x hx) (by intro _ _ _ h; cases h))]; exact hR2.hsa x hx
    · rw [upd_ne (nin hR2.hnu (by intro _ _ _ h; cases h))]; exact hR2.hnu
    · rw [upd_ne (nin hR2.hle (by intro _ _ _ h; cases h))]; exact hR2.hle
    · rw [upd_ne (nin (hR2.hla x hx) (by intro _ _ _ h; cases h))]; exact hR2.hla x hx
    · rw [upd_ne (nin hcol.hco (by intro _ _ _ h; cases h))]; exact hcol.hco
    · rw [upd_ne (nin (hcol.hca c hc) (by intro _ _ _ h; cases h))]; exact hcol.hca c hc
end
end Toy
set_option maxHeartbeats 2000000
namespace Toy
open PySem L2 C8 SX LX
section
variable {P : Program} {w : World} {K : PySem.W.Frag} {mg : Str → Option Value} {base : Heap}
abbrev s_ismark : Stmt := top 18
abbrev n_ismark : List Str := ["reader", "value"]
theorem sc_ismark : FnScope n_ismark ["reader", "value"] (fnScope s_ismark) := fnScope_by (by decide +kernel)
def spIsMark (C : Addr) : Sp := fun vs H Q _ => ∃ (a : Addr) (sg : List Nat) (ms : List (List Nat)) (f : List Nat) (tg : List Nat → Nat → List Nat) (x : List Nat), vs = [.ref a, .str (S x)] ∧ Rdr C H a sg ms f tg ∧ Q (.bl (decide (x ∈ ms))) H
theorem ok_ismark {C : Addr} (T : BT mg) (CH : CR K C) {f : Addr} {fd : FuncData} (F : Def K mg "is_mark" s_ismark f fd) (b : Binds K fd ["reader", "value"] []) : Cal P w K mg base 1 "is_mark" (spIsMark C) [] := by
  refine cal0 F b .nil sc_ismark (fun vs H Q E h => ?_) (fun cdv A outer s H vs Q E hr h => ?_)
  · obtain ⟨a, sg, ms, f, tg, x, rfl, _⟩ := h; rfl
  · obtain ⟨a, sg, ms, f, tg, x, rfl, ⟨dx, m, st, nu, le, sa, la, co, ca, r, hcol⟩, k⟩ := h
    refine ⟨_, (pss_one (ps_ret (pe_and (pe_callB (isiK K) (by rfl) T.m_isinstance PyProof.Rows.boot_isinstance (pa_cons (pv 1) (pa_cons (pe_bltn (v := .ty "str") (by rfl) T.m_str PyProof.Rows.boot_str rfl) pa_nil))) (pe_one (pe_cmpR (inK K) (pv 1) (fldK K (pv 0) rfl) rfl))))
      ), ?_⟩
    refine ⟨_, rfl, ?_⟩
    refine ⟨_, _, _, _, true, rfl, .ty _, .base (.str _), kit_ty (by decide +kernel), true, rfl, iteT ?_⟩
    refine ⟨_, rfl, _, rfl, a, C, dx, _, _, rfl, r.ha, CH.cl, CH.nM, rl_marks, ?_⟩
    refine ⟨m, txs ms, rfl, .inr (SqT.of r.hm), rfl, flat_txs _, ?_⟩
    rw [inV_txs]
    exact k
abbrev s_m_led : Stmt := inClass (top 16) 2
abbrev n_m_led : List Str := ["self", "mark", "row", "sign"]
theorem sc_m_led : FnScope n_m_led ["self", "mark", "row"] (fnScope s_m_led) := fnScope_by (by decide +kernel)
def spMLed (C : Addr) : Sp := fun vs H Q _ => ∃ (a : Addr) (sg : List Nat) (ms : List (List Nat)) (f : List Nat) (tg : List Nat → Nat → List Nat) (x row : List Nat), vs = [.ref a, .str (S x), .str (S row)] ∧ Rdr C H a sg ms f tg ∧ Good sg ms f tg ∧ x ∈ ms ∧ Ov sg row ∧ row.length ≤ 1000 ∧
  ∀ H', Same H H' → Q (.str (S (ledTo tg x row))) H'
theorem ok_mled {C : Addr} (T : BT mg) (CH : CR K C) (c_ismark : Cal P w K mg base 1 "is_mark" (spIsMark C) []) (c_isrow : Cal P w K mg base 1 "is_row" spIsRow []) {f : Addr} {fd : FuncData} (me : Meth K C "led" f) (F : C8.Fun K "led" "Reader.led" s_m_led f fd) (b : Binds K fd ["self", "mark", "row"] []) : FnOk P w K mg base C8.CX0 2 f fd ["self", "mark", "row"] (spMLed C) := by
  refine fn0 F sc_m_led (fun vs H Q E h => ?_) (fun cdv A outer s H vs Q E hr h => ?_)
  · obtain ⟨a, sg, ms, f, tg, x, row, rfl, _⟩ := h; rfl
  · obtain ⟨a, sg, ms, f, tg, x, row, rfl, hrd, hgd, hx, ho, hl, k⟩ := h
    obtain ⟨dx, m, st, nu, le, sa, la, co, ca, r, hcol⟩ := id hrd
    refine ⟨_, (pss_cons (ps_if (pt_not (pt_val (pe_c c_ismark hr (by first | decide | omega) (by rfl) (pa_cons (pv 0) (pa_cons (pv 1) pa_nil))))) 
        (pss_one ps_never
        )
       pss_nil)
      (pss_cons (ps_if (pt_not (pt_val (pe_c c_isrow hr (by first | decide | omega) (by rfl) (pa_cons (pv 2) (pa_cons (fldK K (pv 0) rfl) pa_nil))))) 
        (pss_one ps_never
        )
       pss_nil)
      (pss_cons (ps_for PassesOwn.never rfl (pi_str (pv 2)) (pg_name (i := 3) sc_m_led.nd rfl (.inl rfl)) 
        (pss_one (ps_set (i := 1) sc_m_led.nd rfl (.inl rfl) (pe_dget (hu_of hr) (pe_dget (hu_of hr) (fldK K (pv 0) rfl) (pv 1) (fun _ _ => rfl)) (pv 3) (fun _ _ => rfl)))
        ))
      (pss_one (ps_ret (pv 1))
      )))), ?_⟩
    refine ⟨_, rfl, _, rfl, a, sg, ms, f, tg, x, rfl, hrd, ?_⟩
    refine ⟨_, rfl, iteN (by rw [decide_eq_true hx]; rfl) ?_⟩
    refine ⟨_, rfl, _, rfl, a, C, dx, _, _, rfl, r.ha, CH.cl, CH.nS, rl_signs, ?_⟩
    refine ⟨sg, row, rfl, hl, ?_⟩
    rw [decide_eq_true ho]
    refine ⟨true, rfl, iteN rfl ?_⟩
    have s1 := Same.refl H
    refine ⟨_, rfl, _, rfl, for_it walk_str (fun i σ H' => ∃ s3 : Option V, σ = [some (.ref a), some (.str (S (ledTo tg x (row.take i)))), some (.str (S row)), s3] ∧ H' = H) ⟨none, rfl, rfl⟩ (fun _ _ _ _ _ => trivial) ?_ ?_⟩
    · rintro i y σ H2 H2' hi ⟨s3, rfl, rfl⟩ ⟨rfl, c, hc, rfl⟩
      have hc' : row[i]? = some c := by simpa [S] using hc
      have hmi : ledTo tg x (row.take i) ∈ ms := led_in hgd.htg (fun d hd => ho d (List.mem_of_mem_take hd)) hx
      have r1 : RdrAt C _ a sg ms f tg dx m st nu le sa la _ := ⟨s1 _ _ r.ha, s1 _ _ r.hm, s1 _ _ r.hst, fun x hx => s1 _ _ (r.hsa x hx), s1 _ _ r.hnu, s1 _ _ r.hle, fun x hx => s1 _ _ (r.hla x hx)⟩
      refine ⟨_, rfl, a, C, dx, _, _, rfl, r1.ha, CH.cl, CH.nL, rl_leads, ?_⟩
      refine ⟨_, rfl, _, _, rfl, r1.mark hmi, ?_⟩
      refine ⟨_, rfl, _, _, rfl, r1.at_ hmi (ho c (List.mem_of_getElem? hc')), ?_⟩
      have e1 : ledTo tg x (row.take (i + 1)) = tg (ledTo tg x (row.take i)) c := by
        rw [take_more hc']
        unfold ledTo
        rw [List.foldl_append]
        rfl
      exact ⟨_, by rw [e1]; rfl, rfl⟩
    · rintro σ H2 ⟨s3, rfl, rfl⟩
      refine ⟨_, rfl, ?_⟩
      have e : row.take (S row).cps.size = row := by rw [show (S row).cps.size = row.length by simp [S], List.take_length]
      show Q (V.str (S (ledTo tg x (List.take (S row).cps.size row)))) _
      rw [e]
      exact k _ s1
end
end Toy
set_option maxHeartbeats 2000000
namespace LX
open PySem PySem.Spec PyProof.Rows L2 C8 SX
structure Fit (k n : Nat) (d : PyData) : Prop where
  lay : d.canLay0 = true
  int : d.intsShort 13 = true
  sho : d.showable = true
  dep : d.depth ≤ k
  wei : d.weight ≤ n
theorem Fit.mono {k n k' n' : Nat} {d : PyData} (f : Fit k n d) (hk : k ≤ k') (hn : n ≤ n') : Fit k' n' d := ⟨f.lay, f.int, f.sho, Nat.le_trans f.dep hk, Nat.le_trans f.wei hn⟩
theorem Fit.text {k n : Nat} {l : List Nat} (h : ∀ c ∈ l, c < 1114112) (hn : l.length ≤ n) : Fit k n (.str (S l)) := by
  refine ⟨?_, rfl, rfl, Nat.zero_le _, by simpa [PyData.weight, S] using hn⟩
  show (S l).cps.all (· < 0x110000) = true
  rw [← Array.all_toList, List.all_eq_true]
  exact fun c hc => decide_eq_true (h c hc)
theorem Fit.non {k n : Nat} : Fit k n .none := ⟨rfl, rfl, rfl, Nat.zero_le _, Nat.zero_le _⟩
theorem Fit.bl {k n : Nat} {b : Bool} : Fit k n (.bool b) := ⟨rfl, rfl, rfl, Nat.zero_le _, Nat.zero_le _⟩
theorem Fit.all {k n : Nat} : ∀ {ds : List PyData}, (∀ d ∈ ds, Fit k n d) → PyData.canLayAll0 ds = true ∧ PyData.intsShortAll 13 ds = true ∧ PyData.showableAll ds = true ∧ PyData.depthAll ds ≤ k + 1 ∧ PyData.weightAll ds ≤ ds.length * (n + 1)
  | [], _ => ⟨rfl, rfl, rfl, Nat.zero_le _, Nat.zero_le _⟩
  | d :: ds, h => by
    obtain ⟨h1, h2, h3, h4, h5⟩ := Fit.all (ds := ds) fun x hx => h x (List.mem_cons_of_mem _ hx)
    have f := h d List.mem_cons_self
    refine ⟨?_, ?_, ?_, ?_, ?_⟩
    · show (d.canLay0 && PyData.canLayAll0 ds) = true; rw [f.lay, h1]; rfl
    · show (d.intsShort 13 && PyData.intsShortAll 13 ds) = true; rw [f.int, h2]; rfl
    · show (d.showable && PyData.showableAll ds) = true; rw [f.sho, h3]; rfl
    · have e : PyData.depthAll (d :: ds) = max d.depth (PyData.depthAll ds) ∨ PyData.depthAll (d :: ds) ≤ max (d.depth + 1) (PyData.depthAll ds) := by
        first | exact .inl rfl | exact .inr (by unfold PyData.depthAll; omega)
      have := f.dep
      rcases e with e | e
      · rw [e]; omega
      · omega
    · show d.weight + 1 + PyData.weightAll ds ≤ _
      have := f.wei
      rw [List.length_cons, Nat.add_mul]
      omega
theorem Fit.tup {k n m : Nat} {ds : List PyData} (h : ∀ d ∈ ds, Fit k n d) (hm : ds.length ≤ m) : Fit (k + 2) (m * (n + 1)) (.tuple ds) := by
  obtain ⟨h1, h2, h3, h4, h5⟩ := Fit.all h
  refine ⟨h1, h2, h3, ?_, Nat.le_trans h5 (Nat.mul_le_mul_right _ hm)⟩
  show PyData.depthAll ds + 1 ≤ _
  omega
theorem Fit.lst {k n m : Nat} {ds : List PyData} (h : ∀ d ∈ ds, Fit k n d) (hm : ds.length ≤ m) : Fit (k + 2) (m * (n + 1)) (.list ds) := by
  obtain ⟨h1, h2, h3, h4, h5⟩ := Fit.all h
  refine ⟨h1, h2, h3, ?_, Nat.le_trans h5 (Nat.mul_le_mul_right _ hm)⟩
  show PyData.depthAll ds + 1 ≤ _
  omega
theorem Fit.size {k n : Nat} {d : PyData} (f : Fit k n d) (hn : n ≤ 1000000) : d.shown.length ≤ sizeLine := by
  have h := PyData.shown_le 13 (by decide) d (PyData.leavesShort_of_canLay0 13 d f.lay f.int)
  have := f.wei
  have e : sizeLine = 16777216 := rfl
  omega
theorem Fit.shaped {k n : Nat} {d : PyData} (f : Fit k n d) (hk : k ≤ 60) (h : (∃ ds, d = .tuple ds) ∨ ∃ ds, d = .list ds) : SeqAt.shaped d = true := by
  rcases h with ⟨ds, rfl⟩ | ⟨ds, rfl⟩
  · show (PyData.canLayAll0 ds && decide (PyData.depthAll ds + 1 ≤ 64)) = true
    have h1 : PyData.canLayAll0 ds = true := f.lay
    have h2 : PyData.depthAll ds + 1 ≤ k := f.dep
    rw [h1, Bool.true_and, decide_eq_true_eq]; omega
  · show (PyData.canLayAll0 ds && decide (PyData.depthAll ds + 1 ≤ 64)) = true
    have h1 : PyData.canLayAll0 ds = true := f.lay
    have h2 : PyData.depthAll ds + 1 ≤ k := f.dep
    rw [h1, Bool.true_and, decide_eq_true_eq]; omega
section
variable {X : Cx} {j : Nat}
theorem call_reprF (gd : X.A.guards = some []) (room : Room j X.A) (K : PySem.W.Frag) (hK : X.K = K := by rfl) : CallR X (.builtin "repr") (fun xs H Q => ∃ (a : Addr) (d : PyData) (k n : Nat), xs = [.ref a] ∧ Dp K H (.ref a) d ∧ Fit k n d ∧ k ≤ 60 ∧ n ≤ 1000000 ∧ Q (.str d.shown) H) := by
  subst hK
  intro pins s σ H xs us Q I rel want
  obtain ⟨a, d, k, n, rfl, hd, f, hk, hn, q⟩ := want
  exact call_reprG gd room pins s σ H _ us Q I rel ⟨a, d, rfl, hd, f.sho, PyData.hasDict_of_canLay d f.lay, Nat.le_trans f.dep hk, f.size hn, q⟩
end
mutual
theorem Dp.same {K : PySem.W.Frag} {H H' : Hp} (s : Same H H') : ∀ {d : PyData} {v : V}, Dp K H v d → Dp K H' v d
  | .none, _, h => by cases h; exact .non
  | .bool _, _, h => by cases h; exact .bl _
  | .int _, _, h => by cases h; exact .int _
  | .str _, _, h => by cases h; exact .str _
  | .list _, _, h => by cases h with | lst q r => exact .lst (s.seq q) (DpAll.same s r)
  | .tuple _, _, h => by cases h with | tup q r => exact .tup (sm_seqT s q) (DpAll.same s r)
  | .dict _, _, h => by cases h
theorem DpAll.same {K : PySem.W.Frag} {H H' : Hp} (s : Same H H') : ∀ {ds : List PyData} {vs : List V}, DpAll K H vs ds → DpAll K H' vs ds
  | [], _, h => by cases h; exact .nil
  | _ :: _, _, h => by cases h with | cons q r => exact .cons (Dp.same s q) (DpAll.same s r)
end
theorem dpAll_get {K : PySem.W.Frag} {H : Hp} {α : Type} {f : α → V} {g : α → PyData} : ∀ {xs : List α}, (∀ x ∈ xs, Dp K H (f x) (g x)) → DpAll K H (xs.map f) (xs.map g)
  | [], _ => .nil
  | x :: xs, h => .cons (h x List.mem_cons_self) (dpAll_get fun y hy => h y (List.mem_cons_of_mem _ hy))
end LX
set_option maxHeartbeats 2000000
namespace LX
open PySem PySem.Spec PyProof.Rows L2 C8 SX
section
variable {X : Cx}
theorem pe_joinK (K : PySem.W.Frag) {o e : Expr} {to te : TE} {apos pos : Pos} (ho : PE X o to) (he : PE X e te) (hK : X.K = K := by rfl) (hs : starEach [e] X.env = [(false, eval e X.env)] := by rfl) (hbase : attributeBase o "join" X.env (eval o X.env) = eval o X.env := by rfl) (hline : (apos.endLine == pos.line) = true := by rfl) :
    PE X (.Call (.Attribute o "join" apos) [e] [] pos) (tM1 (fun x xs H Q => ∃ a p, ∃ ys : List Str, x = .str a ∧ xs = [.ref p] ∧ (SqL K H p (ys.map V.str) ∨ SqT K H p (ys.map V.str)) ∧
      (ys.map (·.length)).sum + ys.length * a.length ≤ 16777216 ∧ Q (.str (Txt.join a ys)) H) to te) := by subst hK; exact pe_join ho he hs hbase hline
end
def tJd (ts : List TE) : TE := fun σ H Q => tJs ts Str.empty σ H fun out H1 => Q (.str out) H1
theorem pe_joinedD {X : Cx} {v1 v2 : Expr} {rest : List Expr} {ts : List TE} {pos : Pos} (h : PJ X (v1 :: v2 :: rest) ts) : PE X (.JoinedStr (v1 :: v2 :: rest) pos) (tJd ts) := pe_joined h
theorem joinL_len {sep : List Nat} {m : Nat} : ∀ {ys : List (List Nat)}, (∀ y ∈ ys, y.length ≤ m) → (TL.joinL sep ys).length ≤ ys.length * (m + sep.length)
  | [], _ => by simp [TL.joinL]
  | [y], h => by
    have := h y List.mem_cons_self
    simp [TL.joinL]
    omega
  | y :: z :: ys, h => by
    have ih := joinL_len (sep := sep) (ys := z :: ys) fun x hx => h x (List.mem_cons_of_mem _ hx)
    have h1 := h y List.mem_cons_self
    have e : TL.joinL sep (y :: z :: ys) = y ++ sep ++ TL.joinL sep (z :: ys) := by simp [TL.joinL]
    rw [e, List.length_append, List.length_append, List.length_cons, Nat.add_mul]
    omega
theorem sum_lens {m : Nat} : ∀ {ys : List (List Nat)}, (∀ l ∈ ys, l.length ≤ m) → ((ys.map S).map (·.length)).sum ≤ ys.length * m
  | [], _ => by simp
  | y :: ys, h => by
    have ih := sum_lens (m := m) (ys := ys) fun l hl => h l (List.mem_cons_of_mem _ hl)
    have h0 := h y List.mem_cons_self
    simp only [List.map_cons, List.sum_cons, List.length_cons]
    rw [S_len, Nat.add_mul]
    omega
theorem joinS_ok {m n : Nat} {sep : List Nat} {ys : List (List Nat)} (h : ∀ l ∈ ys, l.length ≤ m) (hn : ys.length ≤ n) (hm : n * (m + sep.length) ≤ 16000000) : ((ys.map S).map (·.length)).sum + (ys.map S).length * (S sep).length ≤ 16777216 := by
  rw [S_len, List.length_map]
  have := sum_lens h
  have h2 : ys.length * (m + sep.length) ≤ n * (m + sep.length) := Nat.mul_le_mul_right _ hn
  rw [Nat.mul_add] at h2
  omega
end LX
set_option maxHeartbeats 2000000
namespace LX
open PySem PySem.Spec PyProof.Rows L2 C8 SX
section
variable {X : Cx} {k j : Nat} {C : Addr} {sp : Sp}
theorem met_runV {mth : Str} {pins : List (Addr × Obj)} {σ : L2.St} {H : Hp} {s : Shared} {A : Around} {a : Addr} {y : V} {u : Value} {Q : Value → Shared → Prop} (c : Met X.prog X.w X.K X.mg X.base k C mth sp []) (hr : Room k A) (hfr : A.frames = X.A.frames) (I : Inv X pins σ H s) (ry : RelV y u)
    {R : VK} (hsp : sp [.ref a, y] H R C8.E0) (hQ : ∀ v z H' s', Inv X pins σ H' s' → RelV z v → R z H' → Q v s') :
    ∃ f, PySem.W.findIn X.K (.ref C) mth = some (some (.ref f)) ∧ PySem.W.isFn X.K (.ref f) = true ∧ wpAny (model X.prog X.w) A (call (.ref f) [.ref a, u]) Q X.xe s := by
  obtain ⟨f, fd, ps, ds, hc, hm, F, hb, hd⟩ := c.ex
  refine ⟨f, hm.at_, hm.fn, ?_⟩
  have e0 : Env0 X.prog X.w X.K X.mg X.base A X.stack s H := by
    have e := I.env0
    exact ⟨by rw [hfr]; exact e.frames, e.mod, e.bs, e.bsz, e.funs, e.frf, e.hok, e.bare⟩
  have hds : ds = [] := by cases hd; rfl
  subst hds
  have hl := F.len _ _ _ _ hsp
  have r2 : Vals [V.ref a, y] [Value.ref a, u] := .cons rfl (.cons ry .nil)
  refine wpAny_call (codeAny_mono (F.run A X.stack s H ⟨[.ref a, u], []⟩ [.ref a, u] [.ref a, y] _ C8.E0 hr e0 (by
    have := hb s [.ref a, u] I.kIn (by simpa using hl)
    simpa using this) r2 hsp) fun r s' hq => ?_)
  cases r with
  | error e => exact C8.pass0 (E := C8.E0) pins σ H s e s' I hq
  | ok fl =>
    cases fl with
    | ret w =>
      obtain ⟨z, H', I', rz, q⟩ := I.after hq
      exact hQ w z H' s' I' rz q
    | next => exact False.elim hq
    | brk => exact False.elim hq
    | cont => exact False.elim hq
def rEqIV (K : PySem.W.Frag) (C : Addr) (sp : Sp) : R2 := fun x y H Q => ∃ a dx fs t, x = .ref a ∧ H a = some (.ins C dx fs) ∧ TyX K H y t ∧ PySem.W.notFirst K C t = true ∧ sp [.ref a, y] H (fun v H' => ∃ r, v = .bl r ∧ Q (.bl r) H') C8.E0
theorem op_eqIV (c : Met X.prog X.w X.K X.mg X.base k C "__eq__" sp []) (hr : Room j X.A) (hk : k ≤ j) : OpR X (compareOp .Eq) (rEqIV X.K C sp) := by
  intro pins s σ H x y v u Q I rx ry h
  obtain ⟨a, dx, fs, t, rfl, ha, hty, hnf, hsp⟩ := h
  cases rx
  obtain ⟨mA, J, _⟩ := ins_get I.hok ha
  obtain ⟨od, J, _⟩ := J.look
  obtain ⟨m, hF⟩ := I.fr
  obtain ⟨P, kx, hP, _⟩ := kit_of I ry hty
  obtain ⟨f, hs, hf, hw⟩ := met_runV (Q := PySem.W.CmpBack (EP X pins σ Q)) c (hr.mono hk) rfl I ry hsp (fun v z H' s' I' rz q => by
    obtain ⟨r, rfl, q⟩ := q
    cases rz
    exact ⟨.bl r, H', I', rfl, q⟩)
  exact PySem.W.cmp_K (op := .Eq) (tb := t) hr.units0 hF I.ok.mod.kin J (kx.ty _ _ I.kIn hP) hnf hs hf hw
theorem op_eqDK (K : PySem.W.Frag) (hr : Room j X.A) (h : X.K = K := by rfl) : OpR X (compareOp .Eq) (rEqD K) := by subst h; exact op_eqD hr.units
theorem op_neDK (K : PySem.W.Frag) (hr : Room j X.A) (h : X.K = K := by rfl) : OpR X (compareOp .NotEq) (rNeD K) := by subst h; exact op_neD hr.units
end
def tD (xs : List (List Nat)) : PyData := .tuple (xs.map fun l => .str (S l))
def ttD (xss : List (List (List Nat))) : PyData := .tuple (xss.map tD)
theorem dp_t {K : PySem.W.Frag} {H : Hp} {a : Addr} {xs : List (List Nat)} (h : SqT K H a (txs xs)) : Dp K H (.ref a) (tD xs) := .tup h (dp_strs xs)
theorem eqv_t (xs ys : List (List Nat)) : PyData.eqv (tD xs) (tD ys) = decide (xs = ys) := eqv_strs xs ys
theorem eqv_tts : ∀ xss yss : List (List (List Nat)), PyData.eqvAll (xss.map tD) (yss.map tD) = decide (xss = yss)
  | [], [] => rfl
  | [], _ :: _ => rfl
  | _ :: _, [] => rfl
  | x :: xs, y :: ys => by
    show (PyData.eqv (tD x) (tD y) && PyData.eqvAll (xs.map tD) (ys.map tD)) = _
    rw [eqv_t, eqv_tts xs ys, ← Bool.decide_and]
    exact decide_eq_decide.mpr (by rw [List.cons.injEq])
theorem eqv_tt (xss yss : List (List (List Nat))) : PyData.eqv (ttD xss) (ttD yss) = decide (xss = yss) := eqv_tts xss yss
theorem fit_t {m n : Nat} {xs : List (List Nat)} (hs : Small xs) (hl : ∀ l ∈ xs, l.length ≤ n) (hm : xs.length ≤ m) : Fit 2 (m * (n + 1)) (tD xs) :=
  Fit.tup (k := 0) (n := n) (fun d hd => by obtain ⟨l, hl', rfl⟩ := List.mem_map.mp hd; exact Fit.text (hs l hl') (hl l hl')) (by rw [List.length_map]; exact hm)
theorem fit_tt {m n p : Nat} {xss : List (List (List Nat))} (h : ∀ xs ∈ xss, Small xs ∧ (∀ l ∈ xs, l.length ≤ n) ∧ xs.length ≤ m) (hp : xss.length ≤ p) : Fit 4 (p * (m * (n + 1) + 1)) (ttD xss) :=
  Fit.tup (k := 2) (fun d hd => by obtain ⟨xs, hx, rfl⟩ := List.mem_map.mp hd; obtain ⟨h1, h2, h3⟩ := h xs hx; exact fit_t h1 h2 h3) (by rw [List.length_map]; exact hp)
end LX
set_option maxHeartbeats 4000000
namespace EV
open PySem PySem.HandSPX
open Builtin Builtin.ObjectAttr
section
variable {M : Model} {A : Around} {E : Value → Shared → Prop} {h : Heap} {g : Array GenState} {d : Drawn} {t : Nat} {os : OsState}
variable {nm q : Str} {C N : Addr} {bs bm bmB : List Value} {hdct : Bool} {sn : List Str} {sub : List Value} {ab : Bool} {col : Option Bool} {dd : Option Addr} {k0 k1 k2 k3 k5 : Option Value} {B newId initId : String}
theorem check_new_kw (F : ExcBaseFacts B newId initId bmB) (hB : bm.contains (.type B) = true) {rest : List Value} {kw : List (Str × Value)} {Q : Unit → Shared → Prop}
    (hC : h.get? C = some (excClassObj nm q C N bs bm hdct sn sub ab col dd k0 k1 k2 k3 k5 newId)) (hq : Q () ⟨h, g, d, t, os⟩) : wpAny M A (checkBuiltinCall newId ⟨.ref C :: rest, kw⟩) Q E ⟨h, g, d, t, os⟩ := by
  have hcont : (Value.ref C :: bm).contains (.type B) = true := by rw [List.contains_cons, hB, Bool.or_true]
  have hstar := F.noStar
  simp only [checkBuiltinCall, F.newKind, F.newSplit, F.newRow]
  repeat (first | refine wpAny_loadPart_at hC ?_ | (refine wpAny_isSubtype_exc hC ?_; rw [hcont]) | refine wpAny_staticBase_exc hC ?_ | refine wpAny_madeBy_exc hC ?_ | simp only [bne_self_eq_false, Bool.false_eq_true, if_false] | wp_step)
  exact hq
end
section
variable {prog : Program} {w : World} {A : Around} {E : Value → Shared → Prop} {R : Result → Shared → Prop} {h : Heap} {g : Array GenState} {d : Drawn} {t : Nat} {os : OsState}
variable {nm q : Str} {C N : Addr} {bs bm bmB : List Value} {hdct : Bool} {sn : List Str} {sub : List Value} {ab : Bool} {col : Option Bool} {dd : Option Addr} {k0 k1 k2 k3 k5 : Option Value} {B newId initId : String}
theorem new_kw (F : ExcBaseFacts B newId initId bmB) (hB : bm.contains (.type B) = true) (hA : bm.contains (.type "AttributeError") = false) (hN : bm.contains (.type "NameError") = false) {rest : List Value} {kw : List (Str × Value)}
    (hC : h.get? C = some (excClassObj nm q C N bs bm hdct sn sub ab col dd k0 k1 k2 k3 k5 newId))
    (hq : R (.ok (.ret (.ref (h.objs.size + 1)))) ⟨(h.push { cls := .type "tuple", data := .seq rest.toArray }).push
      { cls := .ref C, data := .fields #[.ref h.objs.size, .none, .none, .none, .bool false, .none] }, g, d, t, os⟩) (hrest : rest.length ≤ sizeLine) :
    codeAny (model prog w) A (.builtin newId ⟨.ref C :: rest, kw⟩) R ⟨h, g, d, t, os⟩ := by
  have hends := F.ends
  have hcB : (Value.ref C :: bm).contains (.type B) = true := by rw [List.contains_cons, hB, Bool.or_true]
  have hcA : (Value.ref C :: bm).contains (.type "AttributeError") = false := by rw [List.contains_cons, hA]; rfl
  have hcN : (Value.ref C :: bm).contains (.type "NameError") = false := by rw [List.contains_cons, hN]; rfl
  refine codeAny_builtinAt F.entry ?_
  unfold Builtin.«BaseException.__new__»
  refine wpAt_bind ?_
  show wpAt _ _ _ (stack >>= _) _ _ _
  refine wpAt_bind (wpAt_stack fun p below => wpAt_of_wpAny ?_)
  wp_walk
  refine wpAt_of_wpAny ?_
  rw [F.owner]
  repeat (first | with_reducible refine wpAny_madeHere_exc F.canon hC ?_ | with_reducible refine wpAny_loadPart_at hC ?_ | (with_reducible refine wpAny_isSubtype_exc hC ?_; first | rw [hcB] | rw [hcA] | rw [hcN]) | wp_step)
  show R _ _
  rw [Heap.size_push]
  exact hq
theorem type_call_kw (F : ExcBaseFacts B newId initId bmB) (hB : bm.contains (.type B) = true) (hA : bm.contains (.type "AttributeError") = false) (hN : bm.contains (.type "NameError") = false) {rest : List Value} {kw : List (Str × Value)} {fI : Addr} {Q : Fin → Shared → Prop}
    (hC : h.get? C = some (excClassObj nm q C N bs bm hdct sn sub ab col dd k0 k1 k2 k3 k5 newId))
    (hi : W.Looks (model prog w) h (typeLookup (.ref C) "__init__") (some (.ref fI))) (hb : ∀ self, W.Looks (model prog w) h (bindSpecial (.ref fI) self) (.ref fI, [self])) (hrest : rest.length ≤ sizeLine)
    (hq : codeAny (model prog w) A (.call (.ref fI) ⟨.ref (h.objs.size + 1) :: rest, kw⟩)
      (fun r s' => match r with | .ok (.ret v) => v = .none ∧ Q (.done (.ret (.ref (h.objs.size + 1)))) s' | .ok _ => False | .error e => E e s')
      ⟨(h.push (W.kdv_tup rest)).push (excO C h.objs.size), g, d, t, os⟩) :
    wpAny (model prog w) A (Builtin.«type.__call__» ⟨.ref C :: rest, kw⟩) Q E ⟨h, g, d, t, os⟩ := by
  repeat (first | with_reducible refine wpAny_loadPart_at hC ?_ | with_reducible refine wpAny_madeBy_exc hC ?_ | wp_step)
  refine codeAny_call_builtin_code (Code.quiet_builtin _ F.quiet) (check_new_kw F hB hC ?_)
  refine new_kw F hB hA hN hC ?_ hrest
  show wpAny _ _ _ _ _ _
  have k : ∀ b o, h.get? b = some o → ((h.push (W.kdv_tup rest)).push (excO C h.objs.size)).get? b = some o := fun b o e => Heap.get?_push_of_some _ (Heap.get?_push_of_some _ e)
  have hC₁ := k _ _ hC
  have hget : ((h.push (W.kdv_tup rest)).push (excO C h.objs.size)).get? (h.objs.size + 1) = some (excO C h.objs.size) := by heap_get
  have hcC : (Value.ref C :: bm).contains (.ref C) = true := by simp
  have i1 := hi.keeps k
  have b1 := (hb (.ref (h.objs.size + 1))).keeps k
  unfold isInstance
  repeat (first | with_reducible refine wpAny_loadPart_at hget ?_ | (with_reducible refine wpAny_isSubtype_exc hC₁ ?_; rw [hcC]) | wp_step)
  show wpAny _ _ (typeLookup (.ref C) _) _ _ _
  refine i1.at ?_
  refine wpAny_holding (wpAny_bind (b1.at ?_))
  refine wpAny_bind (wpAny_call (codeAny_mono hq fun r s' z => ?_))
  rcases r with e | (v | _ | _ | _) <;> first | exact z | exact z.elim | skip
  obtain ⟨rfl, z⟩ := z
  first
    | exact wpAny_pure (wpAny_pure z)
    | (wp_walk; exact z)
theorem call_kw (F : ExcBaseFacts B newId initId bmB) (hB : bm.contains (.type B) = true) (hA : bm.contains (.type "AttributeError") = false) (hN : bm.contains (.type "NameError") = false) {rest : List Value} {kw : List (Str × Value)} {fI : Addr}
    (hC : h.get? C = some (excClassObj nm q C N bs bm hdct sn sub ab col dd k0 k1 k2 k3 k5 newId))
    (hi : W.Looks (model prog w) h (typeLookup (.ref C) "__init__") (some (.ref fI))) (hb : ∀ self, W.Looks (model prog w) h (bindSpecial (.ref fI) self) (.ref fI, [self])) (hrest : rest.length ≤ sizeLine)
    (hq : codeAny (model prog w) (A.under (.builtin "type.__call__" ⟨.ref C :: rest, kw⟩)) (.call (.ref fI) ⟨.ref (h.objs.size + 1) :: rest, kw⟩) (W.InitBack (h.objs.size + 1) R)
      ⟨(h.push (W.kdv_tup rest)).push (excO C h.objs.size), g, d, t, os⟩) :
    codeAny (model prog w) A (.call (.ref C) ⟨rest, kw⟩) R ⟨h, g, d, t, os⟩ := by
  have f1 := tc_lookup
  have f2 := tc_bind (.ref C)
  have hTy : (⟨h, g, d, t, os⟩ : Shared).TypeIs (.ref C) "type" := ⟨_, hC, rfl⟩
  refine codeAny_of_tree ?_
  show wpAny _ _ (callAny (.ref C) _) _ _ _
  repeat (any_goals (first | assumption | with_reducible refine wpAny_loadPart_at hC ?_ | wp_step))
  refine ⟨rfl, ?_⟩
  refine codeAny_call_builtin_at (Code.quiet_builtin _ (by decide +kernel)) entry_typeCall (wpAny_check_type_call_sub hC (type_call_kw F hB hA hN hC hi hb hrest ?_))
  refine codeAny_mono hq fun r s' z => ?_
  rcases r with e | (v | _ | _ | _) <;> exact z
end
section
variable {prog : Program} {w : World} {A : Around} {E : Value → Shared → Prop} {R : Result → Shared → Prop} {hp : Heap} {g : Array GenState} {d : Drawn} {t : Nat} {os : OsState}
theorem exc_osaG {K : W.Frag} {name : Str} {tk : Tok} {v : Value} {x C : Addr} {fv : Array Value} {cd : ClassData}
    (X : K.In hp) (hx : hp.get? x = some { cls := .ref C, data := .fields fv }) (hcd : W.clsIn K C = some cd) (hm : ∀ self, refuseLoop self "__setattr__" cd.mro = pure ()) (ne : cd.mro.isEmpty = false) (hob : cd.mro.contains (.type "object") = true) (hh : cd.hasDict = true) (ha : W.findIn K (.ref C) name = some none)
    (hq : ∀ h' tk' dx, (∀ b o, b ≠ x → hp.get? b = some o → h'.get? b = some o) → hp.objs.size ≤ dx → dx ≠ x → h'.get? x = some { cls := .ref C, dict := some dx, data := .fields fv } →
      h'.Ns1 dx (fun y => if y = name then some v else none) → R (.ok (.ret .none)) ⟨h', g, d, tk', os⟩) :
    codeAny (model prog w) A (.call (.builtin "object.__setattr__") ⟨[.ref x, .str name tk, v], []⟩) R ⟨hp, g, d, t, os⟩ := by
  have I : W.InstAt hp x { cls := .ref C, data := .fields fv } C none := ⟨hx, rfl, rfl, trivial⟩
  have SF := F.store_object
  have hxs : x ≠ hp.objs.size := Nat.ne_of_lt (Heap.lt_size hx)
  have sub : W.Looks (model prog w) hp (isInstance (.ref x) (.type "object")) true := I.type.andThen (W.looks_mroIn X (by unfold W.mroIn; rw [hcd, Option.bind_some, if_neg (by rw [ne]; decide), hob]))
  refine codeAny_call_builtin SF.slot.plain SF.entry (@W.check_slot (model prog w) _ _ ⟨hp, g, d, t, os⟩ "object.__setattr__" "object" "__setattr__" (.ref x) [.str name tk, v] [] _ SF.kind SF.split sub (SF.args (.ref x) (.str name tk) v) ?_)
  have hmr : W.Looks (model prog w) hp (mroOf (.ref C)) cd.mro := (W.looks_clsIn X hcd).andThen .now
  have L3 : W.Looks (model prog w) hp (storeTaker? none) none := .now
  have hcls : W.Looks (model prog w) hp (classData C) cd := W.looks_clsIn X hcd
  rw [W.osa_eq, refuse_eq]
  refine wpAny_bind (wpAny_bind (I.type.at (wpAny_bind (hmr.at ?_))))
  rw [hm]
  refine wpAny_pure (wpAny_bind (I.type.at (wpAny_bind ((W.looks_findIn X ha).at (wpAny_bind (L3.at ?_))))))
  show wpAny _ _ (storeInOwnDict (.ref x) (.ref C) (.str name tk) name v false) _ _ _
  obtain ⟨nm, bs, mro, ns, qn, hd, sn, sb, ab, col, del⟩ := cd
  dsimp only at hh
  subst hh
  unfold storeInOwnDict ownDictForStores
  repeat (first | with_reducible refine store_in_new ?_ ?_ | with_reducible refine wpAny_loadPart_at hx ?_ | with_reducible refine hcls.at ?_ | wp_step)
  · exact ⟨_, #[], _, (Heap.get?_update_ne _ _ _ _ hxs.symm).trans (Heap.get?_push_at rfl rfl), rfl, fun e he => absurd he (by simp), fun _ => rfl⟩
  · intro h' tk' hn' hs
    have hx₁ : (hp.push { cls := .type "dict", data := .dict #[] }).get? x = some { cls := .ref C, data := .fields fv } := Heap.get?_push_of_some _ hx
    refine hq h' tk' hp.objs.size (fun b o hb ho => ?_) (Nat.le_refl _) hxs.symm ?_ hn'
    · exact (hs.2 b (Nat.ne_of_lt (Heap.lt_size ho))).trans ((Heap.get?_update_ne _ _ _ _ hb).trans (Heap.get?_push_of_some _ ho))
    · exact (hs.2 x hxs).trans (Heap.get?_update_self _ hx₁ rfl)
end
end EV
namespace EV
open PySem PySem.W PySem.Calls PyProof.Rows PySem.HandSPX
section
variable {prog : Program} {w : World} {A : Around} {E : Value → Shared → Prop} {s : Shared} {K : Frag} {x D : Addr} {ox : Obj} {od : Option Obj}
theorem findObj_dataD {C : Addr} {name : Str} {a g : Value} (hc : (clsIn K C).isSome = true) (ha : findIn K (.ref C) name = some (some a)) (hg : specialIn K a "__get__" = some (some g)) (ht : takesIn K a = some true) : findObj K C od name = some (.bind g a) := by
  obtain ⟨cd, hc⟩ := Option.isSome_iff_exists.mp hc
  unfold findObj
  rw [hc, Option.bind_some, ha, Option.bind_some]
  cases od <;> simp [hg, ht]
theorem kin_classD {Q : Option Value → Shared → Prop} (hga : findIn K (.ref D) "__getattribute__" = some (some (.builtin "BaseException.__getattribute__"))) (hgt : findIn K (.ref D) "__getattr__" = some none) (hsub : subIn K (.ref D) (.type "BaseException") = some true)
    (hdct : hasDictIn K D = true) (ha : findIn K (.ref D) "__class__" = some (some (.builtin "object.__class__")))
    (hn : specialIn K (.builtin "object.__class__") "__get__" = some (some (.builtin "getset_descriptor.__get__"))) (htk : takesIn K (.builtin "object.__class__") = some true) (hm : mroIn K D (.type "object") = some true)
    (X : K.In s.heap) (I : InstAt s.heap x ox D od) (h : Q (some (.ref D)) { s with toks := s.toks + 1 }) : wpAny (model prog w) A (getAttr? (.ref x) "__class__") Q E s := by
  have hf : findObj K D od "__class__" = some (.bind (.builtin "getset_descriptor.__get__") (.builtin "object.__class__")) := findObj_dataD (by obtain ⟨cd, hc, _⟩ := any_some hdct; rw [hc]; rfl) ha hn htk
  obtain ⟨hp, g, d, t, os⟩ := s
  have L0 := I.type (M := model prog w)
  have L1 := looks_findIn (M := model prog w) X hga
  have L2 := looks_findIn (M := model prog w) X hgt
  have L3 := looks_find (M := model prog w) X I hf
  have sub : Looks (model prog w) hp (isInstance (.ref x) (.type "BaseException")) true := L0.andThen (looks_subIn X hsub)
  have hx0 : (false && onTheHeap (Value.builtin "BaseException.__getattribute__")) = false := rfl
  have hx2 : (Value.builtin "BaseException.__getattribute__" == Value.builtin "object.__getattribute__") = false := by decide +kernel
  have hx1 : (onTheHeap (Value.ref D) && Value.builtin "BaseException.__getattribute__" == Value.builtin "object.__getattribute__") = false := by rw [hx2]; rfl
  unfold getAttr? getAttrBy? getAttrBy
  refine wpAny_bind (wpAny_mkText (wpAny_bind (wpAny_attempt (wpAny_holding (wpAny_bind (L0.at (wpAny_bind (L1.at ?_))))))))
  show wpAny _ _ (if (onTheHeap (Value.ref D) && Value.builtin "BaseException.__getattribute__" == Value.builtin "object.__getattribute__") = true then _ else _) _ _ _
  rw [hx1, if_neg Bool.false_ne_true]
  unfold getAttrByItsOwn hookBefore
  refine wpAny_bind ?_
  rw [if_pos (show onTheHeap (Value.ref D) = true from rfl)]
  refine L2.at ?_
  refine wpAny_bind (wpAny_attempt (wpAny_holding ?_))
  unfold callGetattribute
  rw [hx0, if_neg Bool.false_ne_true]
  unfold boundAndCalled
  rw [PySem.F.excAttr_ValueError.ga.bind (.ref x)]
  refine wpAny_bind (wpAny_pure ?_)
  show wpAny _ _ (call (.builtin "BaseException.__getattribute__") [.ref x, .str "__class__" t]) _ _ _
  refine wpAny_call (codeAny_call_builtin PySem.F.excAttr_ValueError.ga.plain PySem.F.entry_bexc_ga ?_)
  refine @check_slot (model prog w) _ _ ⟨hp, g, d, t + 1, os⟩ "BaseException.__getattribute__" "BaseException" "__getattribute__" (.ref x) [.str "__class__" t] [] _ (by decide +kernel) (by decide +kernel) sub (PySem.F.args_bexc_ga (.ref x) (.str "__class__" t)) ?_
  unfold Builtin.«object.__getattribute__»
  refine wpAny_bind (wpAny_of_eq (a := ((Value.ref x : Value), [Value.str "__class__" t])) (by first | rfl | (simp only [slotArgs]; rfl)) ?_)
  refine wpAny_bind (wpAny_pure (wpAny_bind (L0.at (wpAny_bind (L3.at ?_)))))
  show wpAny _ _ (holding [Value.builtin "object.__class__"] (call (.builtin "getset_descriptor.__get__") [.builtin "object.__class__", .ref x, .ref D]) >>= ret) _ _ _
  refine wpAny_bind (wpAny_holding (wpAny_call (class_get (s := ⟨hp, g, d, t + 1, os⟩) (ox := ox) (od := od) X I hm ?_)))
  refine wpAny_pure ?_
  show wpAny _ _ (handedOut (.ref D)) _ _ _
  rw [handedOut_of (v := .ref D) rfl]
  first
    | exact wpAny_pure (wpAny_pure h)
    | exact wpAny_pure h
    | exact wpAny_pure (wpAny_bind (wpAny_pure (wpAny_pure h)))
theorem kitx_excD (hga : findIn K (.ref D) "__getattribute__" = some (some (.builtin "BaseException.__getattribute__"))) (hgt : findIn K (.ref D) "__getattr__" = some none) (hsub : subIn K (.ref D) (.type "BaseException") = some true) (hdct : hasDictIn K D = true) (ha : findIn K (.ref D) "__class__" = some (some (.builtin "object.__class__")))
    (hn : specialIn K (.builtin "object.__class__") "__get__" = some (some (.builtin "getset_descriptor.__get__"))) (htk : takesIn K (.builtin "object.__class__") = some true) (hm : mroIn K D (.type "object") = some true) :
    KitX K (.ref x) (.ref D) (fun h => InstAt h x ox D od) where
  ty := fun _ _ _ I => I.type
  it := fun _ _ X _ => by
    obtain ⟨cdD, hcD, _⟩ := any_some hdct
    unfold clsIn at hcD
    split at hcD
    · rename_i c' d' cd' sl' ho
      intro A' Q' E' s' k q
      unfold isType loadHead
      exact wpAny_bind (wpAny_loadPart (k _ _ (X _ _ ho)) (wpAny_pure q))
    · cases hcD
  ne := fun h tp dd its n sl X htp => by
    obtain ⟨cdD, hcD, _⟩ := any_some hdct
    refine Bool.eq_false_iff.mpr fun q => ?_
    have e : D = tp := Value.ref.inj (beq_iff_eq.mp q)
    subst e
    unfold clsIn at hcD
    split at hcD
    · rename_i c' d' cd' sl' ho
      have z := (X _ _ ho).symm.trans htp
      cases z
    · cases hcD
  ca := fun X I k => kin_classD hga hgt hsub hdct ha hn htk hm X I k
end
end EV
set_option maxHeartbeats 4000000
namespace LX
open PySem PySem.Spec PyProof.Rows L2 C8 SX
structure XC (K : PySem.W.Frag) (C : Addr) : Prop where
  obj : ∃ (tail bmF : List Value) (B newId initId : String), ExcBaseFacts B newId initId bmF ∧ PySem.W.excInitIn K C tail newId = true ∧ tail.contains (.type B) = true ∧ tail.contains (.type "AttributeError") = false ∧ tail.contains (.type "NameError") = false ∧
    tail.contains (.type "object") = true ∧ ∀ self, PySem.refuseLoop self "__setattr__" tail = pure ()
  hd : PySem.W.hasDictIn K C = true
  sa : PySem.W.findIn K (.ref C) "__setattr__" = some (some (.builtin "object.__setattr__"))
  ga : PySem.W.findIn K (.ref C) "__getattribute__" = some (some (.builtin "BaseException.__getattribute__"))
  gg : PySem.W.findIn K (.ref C) "__getattr__" = some none
  exC : PySem.W.subIn K (.ref C) (.type "BaseException") = some true
  tyC : PySem.W.typeIn K (.ref C) = some (.type "type")
  kC : PySem.W.keepIn K (.ref C) = true
  ha : PySem.W.findIn K (.ref C) "__class__" = some (some (.builtin "object.__class__"))
  hn : PySem.W.specialIn K (.builtin "object.__class__") "__get__" = some (some (.builtin "getset_descriptor.__get__"))
  ht : PySem.W.takesIn K (.builtin "object.__class__") = some true
  hm : PySem.W.mroIn K C (.type "object") = some true
def veT : List Value := [.type "ValueError", .type "Exception", .type "BaseException", .type "object"]
def keT : List Value := [.type "KeyError", .type "LookupError", .type "Exception", .type "BaseException", .type "object"]
theorem veT_pass (self : Value) : PySem.refuseLoop self "__setattr__" veT = pure () := HandSPX.refsVE_pass self veT (by decide +kernel)
theorem keT_pass (self : Value) : PySem.refuseLoop self "__setattr__" keT = pure () := by kernel_rfl
theorem XC.ve {K : PySem.W.Frag} {C : Addr} (q : PySem.W.excInitIn K C veT "ValueError.__new__" = true) (hd : PySem.W.hasDictIn K C = true) (sa : PySem.W.findIn K (.ref C) "__setattr__" = some (some (.builtin "object.__setattr__")))
    (ga : PySem.W.findIn K (.ref C) "__getattribute__" = some (some (.builtin "BaseException.__getattribute__"))) (gg : PySem.W.findIn K (.ref C) "__getattr__" = some none) (exC : PySem.W.subIn K (.ref C) (.type "BaseException") = some true) (tyC : PySem.W.typeIn K (.ref C) = some (.type "type"))
    (kC : PySem.W.keepIn K (.ref C) = true) (ha : PySem.W.findIn K (.ref C) "__class__" = some (some (.builtin "object.__class__"))) (hn : PySem.W.specialIn K (.builtin "object.__class__") "__get__" = some (some (.builtin "getset_descriptor.__get__"))) (ht : PySem.W.takesIn K (.builtin "object.__class__") = some true)
    (hm : PySem.W.mroIn K C (.type "object") = some true) : XC K C :=
  ⟨⟨veT, _, _, _, _, PySem.F.excBase_ValueError, q, by decide +kernel, by decide +kernel, by decide +kernel, by decide +kernel, veT_pass⟩, hd, sa, ga, gg, exC, tyC, kC, ha, hn, ht, hm⟩
theorem XC.ke {K : PySem.W.Frag} {C : Addr} (q : PySem.W.excInitIn K C keT "LookupError.__new__" = true) (hd : PySem.W.hasDictIn K C = true) (sa : PySem.W.findIn K (.ref C) "__setattr__" = some (some (.builtin "object.__setattr__")))
    (ga : PySem.W.findIn K (.ref C) "__getattribute__" = some (some (.builtin "BaseException.__getattribute__"))) (gg : PySem.W.findIn K (.ref C) "__getattr__" = some none) (exC : PySem.W.subIn K (.ref C) (.type "BaseException") = some true) (tyC : PySem.W.typeIn K (.ref C) = some (.type "type"))
    (kC : PySem.W.keepIn K (.ref C) = true) (ha : PySem.W.findIn K (.ref C) "__class__" = some (some (.builtin "object.__class__"))) (hn : PySem.W.specialIn K (.builtin "object.__class__") "__get__" = some (some (.builtin "getset_descriptor.__get__"))) (ht : PySem.W.takesIn K (.builtin "object.__class__") = some true)
    (hm : PySem.W.mroIn K C (.type "object") = some true) : XC K C :=
  ⟨⟨keT, _, _, _, _, PySem.F.excBase_LookupError, q, by decide +kernel, by decide +kernel, by decide +kernel, by decide +kernel, keT_pass⟩, hd, sa, ga, gg, exC, tyC, kC, ha, hn, ht, hm⟩
theorem XC.data {K : PySem.W.Frag} {C : Addr} (T : XC K C) : ∃ (nm q : Str) (N : Addr) (bs bm : List Value) (sn : List Str) (sub : List Value) (ab : Bool) (col : Option Bool) (dd : Option Addr) (k0 k1 k2 k3 k5 : Option Value) (B newId initId : String) (bmF : List Value),
    ExcBaseFacts B newId initId bmF ∧ K.lookup C = some (excClassObj nm q C N bs bm true sn sub ab col dd k0 k1 k2 k3 k5 newId) ∧ bm.contains (.type B) = true ∧ bm.contains (.type "AttributeError") = false ∧ bm.contains (.type "NameError") = false ∧
    (∀ self, PySem.refuseLoop self "__setattr__" (.ref C :: bm) = pure ()) ∧ (Value.ref C :: bm).contains (.type "object") = true := by
  obtain ⟨tail, bmF, B, newId, initId, F, q, hB, hA, hN, hO, hp⟩ := T.obj
  have hdct := T.hd
  unfold PySem.W.excInitIn at q
  unfold PySem.W.hasDictIn PySem.W.clsIn at hdct
  split at q
  · rename_i dd cd sl ho
    rw [ho] at hdct
    split at q
    · rename_i C' bm k0 k1 k2 k3 n k5 hm hs
      simp only [Bool.and_eq_true, beq_iff_eq, Bool.not_eq_true'] at q
      obtain ⟨⟨⟨rfl, rfl⟩, hdel⟩, ht⟩ := q
      obtain ⟨nm, bs, mro, ns, qn, hd, sn, sub, ab, col, del⟩ := cd
      have hdct : hd = true := hdct
      dsimp only at hm hdel
      subst hm hdel hdct
      have hsl : sl = #[k0, k1, k2, k3, some (.builtin n), k5] := by
        obtain ⟨l⟩ := sl
        simp only at hs
        rw [hs]
      subst hsl
      have hT : ∀ X : String, bm.contains (.type X) = tail.contains (.type X) := fun X => PySem.W.excTail_contains X _ ht
      refine ⟨nm, qn, ns, bs, bm, sn, sub, ab, col, dd, k0, k1, k2, k3, k5, B, n, initId, bmF, F, ho, (hT _).trans hB, (hT _).trans hA, (hT _).trans hN, fun self => ?_, ?_⟩
      · exact PySem.W.excTail_pass self (hp self) _ ht
      · rw [List.contains_cons, hT, hO, Bool.or_true]
    · cases q
  · cases q
section
variable {X : Cx} {pins : List (Addr × Obj)} {σ : L2.St} {H : Hp} {s : Shared} {a C dx : Addr} {f : Str} {y : V} {u : Value} {Q : Unit → Shared → Prop} {E : Value → Shared → Prop} {A : Around}
theorem ost_newG (T : XC X.K C) (I : Inv X pins σ H s) (e : H a = some (exo a C none)) (hno : PySem.W.findIn X.K (.ref C) f = some none) (ry : RelV y u)
    (h : ∀ dx s', H dx = none → dx ≠ a → Inv X pins σ (upd (upd H dx (exd dx [(f, y)])) a (exo a C (some dx))) s' → Q () s') : wpAny (model X.prog X.w) A (setAttr (.ref a) f u) Q E s := by
  obtain ⟨nm, q, N, bs, bm, sn, sub, ab, col, dd, k0, k1, k2, k3, k5, B, newId, initId, bmF, F, hC, hB, hA, hN, hp0, hob⟩ := T.data
  have hcl : PySem.W.clsIn X.K C = some { name := nm, bases := bs, mro := .ref C :: bm, ns := N, qualname := q, hasDict := true, slotNames := sn, subclasses := sub, abstract := ab, collection := col, hasDel := false } := by unfold PySem.W.clsIn; rw [hC] <;> rfl
  obtain ⟨t1, ho⟩ := exo_at I.hok e
  obtain ⟨hp, g, d, t, os⟩ := s
  refine PySem.W.set_plain I.kIn (ox := { cls := .ref C, dict := none, data := .fields #[.ref t1, .none, .none, .none, .bool false, .none] }) (od := none) ⟨ho, rfl, rfl, trivial⟩ T.sa ?_
  refine EV.exc_osaG I.kIn ho hcl hp0 rfl hob rfl hno (fun h' tk' dx k dn dne hx hn => ?_)
  have hnd : H dx = none := I.hok.fresh dn
  have nd : ∀ {b : Addr} {o : Obj}, hp.get? b = some o → b ≠ dx := fun {b o} q => Nat.ne_of_lt (Nat.lt_of_lt_of_le (Heap.lt_size q) dn)
  have na : ∀ {b : Addr}, H b = none → b ≠ a := fun {b} n z => by
    rw [z, e] at n
    cases n
  have Un1 : Un X.fs [] H (upd (upd H dx (exd dx [(f, y)])) a (exo a C (some dx))) hp h' := {
    keep := fun b o q n _ _ => k b o (na n) q
    slot := fun b o q n _ _ => ⟨o.slots, k b o (na n) q⟩
    free := fun b o q n _ => by rw [upd_ne (na n), upd_ne (nd q)]; exact n
    there := fun b o q _ => by
      by_cases hb : b = a
      · exact ⟨_, by rw [hb]; exact hx⟩
      · exact ⟨o, k b o hb q⟩
    tups := fun b xs q => by rw [upd_ne (at_ne e q exo_tup), upd_ne (ne_of_none q hnd)]; exact q
    frzs := fun b o v q => by rw [upd_ne (at_ne e q exo_frz), upd_ne (ne_of_none q hnd)]; exact q
    tbls := fun b ps q => ⟨#[], by rw [upd_ne (at_ne e q exo_tbl), upd_ne (ne_of_none q hnd), q]; simp⟩ }
  refine h dx _ hnd dne (I.un (t' := tk') Un1 fun b o q => ?_)
  by_cases hb : b = a
  · subst hb
    rw [upd_same] at q
    cases q
    exact exo_ok hx
  · rw [upd_ne hb] at q
    by_cases hd : b = dx
    · subst hd
      rw [upd_same] at q
      cases q
      exact exd_ok hn (relO_put (fs := []) ry fun g => True.intro)
    · rw [upd_ne hd] at q
      exact (I.hok b o q).stay (fun c v hc z => k c v (by
          rcases hc with hc | hc
          · rw [hc]
            exact hb
          · exact at_ne e hc exo_own) z)
        (fun c hc => by rw [upd_ne (at_ne e hc exo_own), upd_ne (ne_of_none hc hnd)]; exact hc) (fun c xs hc => by rw [upd_ne (at_ne e hc exo_tup), upd_ne (ne_of_none hc hnd)]; exact hc)
end
def tOstG (K : PySem.W.Frag) (f : Str) (to te : TE) : TS := fun D σ H => te σ H fun y H1 => to σ H1 fun x H2 => ∃ a C : Addr, x = .ref a ∧ XC K C ∧ PySem.W.findIn K (.ref C) f = some none ∧
  H2 a = some (exo a C none) ∧ ∀ dx, H2 dx = none → dx ≠ a → D.nx σ (upd (upd H2 dx (exd dx [(f, y)])) a (exo a C (some dx)))
section
variable {X : Cx} {o e : Expr} {es : List Expr} {to te : TE} {ta : TA} {f : Str} {p p' p1 p2 pos : Pos}
theorem ps_ostG (ho : PE X o to) (he : PE X e te) (hs : swapsWith e (some (.Attribute o f p')) pos.line X.env = pure false := by rfl) : PS X (.Assign [.Attribute o f p'] e pos) (tOstG X.K f to te) := by
  refine ⟨fun pins s σ H D I h => ?_⟩
  refine plainObj_wpAny_Assign_Attribute (thn (he.run pins s σ H _ I h) fun v s1 ⟨y, H1, I1, r1, q1⟩ => thn (ho.run pins s1 σ H1 _ I1 q1) fun u s2 ⟨x, H2, I2, r2, a, C, ex, T, hno, ea, q⟩ => ?_) hs
  subst ex
  obtain rfl : u = Value.ref a := r2
  exact ost_newG T I2 ea hno r1 fun dx s' n ne J => ⟨σ, _, J, q dx n ne⟩
theorem pmk_xc {CX : CXT} {x : Str} {C fI : Addr} {k : Nat} {fd : FuncData} {ps : List Str} {sp : Sp} {ds : List Value} {dvs : List V} (T : XC X.K C) (iC : PySem.W.findIn X.K (.ref C) "__init__" = some (some (.ref fI))) (tI : PySem.W.typeIn X.K (.ref fI) = some (.type "function"))
    (F1 : FnOk X.prog X.w X.K X.mg X.base CX k fI fd ps sp) (hr : Room (k + 1) X.A) (hb : Binds X.K fd ps ds) (hd : Vals dvs ds) (hx : Passes CX X (fun _ _ _ => False)) (hg : Gl X x) (hm : X.mg x = some (.ref C)) (ha : PA X (e :: es) ta)
    (hdb : (x == ("__debug__" : Str)) = false := by decide) (he : starEach (e :: es) X.env = (false, eval e X.env) :: starEach es X.env := by rfl) (hpl : (backTo pos (starEach es X.env)).any (·.1) = false := by rfl) :
    PMk X (.Call (.Name x p) (e :: es) [] pos) (tMkO C sp dvs ta) := by
  intro pins s σ H Q I h
  obtain ⟨nm, q, N, bs, bm, sn, sub, ab, col, dd, k0, k1, k2, k3, k5, B, newId, initId, bmF, F, hC, hB, hA, hN, hp0, hob⟩ := T.data
  refine wpAny_Call_Name_kw (ld_glob I hg hm ?_ hdb)
  refine PySem.W.callWith_K (h₀ := X.base) I.ok.mod.kin T.kC (thn (ha.run pos pins s σ H _ I h) fun us s1 ⟨vs, H1, I1, r1, hz, q1⟩ => ⟨I1.kIn, ?_⟩) he hpl
  show wpAny _ _ (call (.ref C) us) _ _ _
  obtain ⟨hp, g, dr, tk, os⟩ := s1
  have hsz : hp.objs.size ≤ hp.objs.size + 1 := Nat.le_succ _
  have hn : H1 (hp.objs.size + 1) = none := I1.hok.fresh hsz
  have hq := q1 (hp.objs.size + 1) hn
  have kk : ∀ b o, hp.get? b = some o → ((hp.push (PySem.W.kdv_tup us)).push (PySem.HandSPX.excO C hp.objs.size)).get? b = some o := fun b o e => Heap.get?_push_of_some _ (Heap.get?_push_of_some _ e)
  have hget : ((hp.push (PySem.W.kdv_tup us)).push (PySem.HandSPX.excO C hp.objs.size)).get? (hp.objs.size + 1) = some (PySem.HandSPX.excO C hp.objs.size) := by heap_get
  have I2 : Inv X pins σ (upd H1 (hp.objs.size + 1) (exo (hp.objs.size + 1) C none)) ⟨(hp.push (PySem.W.kdv_tup us)).push (PySem.HandSPX.excO C hp.objs.size), g, dr, tk, os⟩ :=
    I1.laid (t' := tk) (a := hp.objs.size + 1) (o := exo (hp.objs.size + 1) C none) (h' := (hp.push (PySem.W.kdv_tup us)).push (PySem.HandSPX.excO C hp.objs.size)) kk hsz (exo_ok hget)
  have r2 : Vals (V.ref (hp.objs.size + 1) :: (vs ++ dvs)) (Value.ref (hp.objs.size + 1) :: (us ++ ds)) := .cons rfl (r1.append hd)
  have hl : (Value.ref (hp.objs.size + 1) :: us ++ ds).length = ps.length := by
    have e := r2.length
    rw [F1.len _ _ _ _ hq] at e
    exact e.symm
  have hus : us.length ≤ sizeLine := by
    rw [← Paired.length r1, sizeLine_eq]
    omega
  refine wpAny_call (EV.call_kw (kw := []) F hB hA hN (I1.kIn _ _ hC) (PySem.W.looks_findIn I1.kIn iC) (fun self => PySem.W.bind_fn I1.kIn self tI) hus
    (codeAny_mono (F1.run _ X.stack _ _ ⟨Value.ref (hp.objs.size + 1) :: us, []⟩ (Value.ref (hp.objs.size + 1) :: (us ++ ds)) _ _ (fun _ _ _ => False) (hr.make C us []) (I2.env0.make C us []) (hb _ (Value.ref (hp.objs.size + 1) :: us) I2.kIn hl) r2 hq) fun r s' hq' => ?_))
  cases r with
  | error er => exact hx pins σ _ _ er s' I2 hq'
  | ok fl =>
    cases fl with
    | ret u =>
      obtain ⟨v, H2, os2, bare2, un2, hok2, rv, ev, d, fs, ea, ed, hd1, q2⟩ := hq'
      subst ev
      obtain ⟨h2, g2, d2, t2, os'⟩ := s'
      exact ⟨rv, mk_end (raises_own T.exC T.tyC) I1 hsz kk un2 hok2 os2 bare2 ea ed hd1 q2⟩
    | next => exact False.elim hq'
    | brk => exact False.elim hq'
    | cont => exact False.elim hq'
theorem pmk_own0 {C : Addr} {bmB : List Value} {B newId initId : String} {x : Str} {p pos : Pos} (F : ExcBaseFacts B newId initId bmB) (q : PySem.W.excIn X.K C bmB newId = true) (gC : X.mg x = some (.ref C)) (kC : PySem.W.keepIn X.K (.ref C) = true) (r : Raises X (.ref C)) (hg : Gl X x)
    (hdb : (x == ("__debug__" : Str)) = false := by decide) : PMk X (.Call (.Name x p) [] [] pos) (fun σ H Q => Q (.ref C) none H) := by
  intro pins s σ H Q I h
  refine wpAny_Call_Name_kw (ld_glob I hg gC ?_ hdb)
  refine PySem.W.callWith_K0 I.kIn kC ?_
  show wpAny _ _ (call (.ref C) []) _ _ _
  obtain ⟨bm, N, nm, qn, bs, hdct, sn, sub, ab, col, dd, k0, k1, k2, k3, k5, mN, hC, hN, hni, T⟩ := exc_obj I.kIn q
  refine wpAny_call_exc_subT F T hC hN hni (fun h' e hm => ?_) (by show 0 ≤ sizeLine; exact Nat.zero_le _)
  exact mk_of I hm r h (I.hok.gone hm.new)
end
def rIsX (K : PySem.W.Frag) (a : Addr) (cls : Value) (d : Option Addr) : List V → Hp → VK → Prop := fun xs H Q => ∃ (D : Addr) (c : V) (cv : Value) (b : Bool), cls = .ref D ∧ ExcC K D ∧ xs = [.ref a, c] ∧ (∀ u, RelV c u → u = cv) ∧ PySem.W.kitOne K (.ref D) cv = some b ∧
  (d = none ∨ ∃ dd fs, d = some dd ∧ H dd = some (.xd fs)) ∧ Q (.bl b) H
theorem call_isX {X : Cx} {a : Addr} {cls : Value} {d : Option Addr} {oe : Obj} {pn : List (Addr × Obj)} (hz : Zc cls d oe) (hf : ∃ vs, oe.data = .fields vs) : CallR (X.suite a ((a, oe) :: pn)) (.builtin "isinstance") (rIsX X.K a cls d) := by
  intro pins s σ H xs us Q I r h
  obtain ⟨D, c, cv, b, ecls, C, rfl, hcv, e, hd, q⟩ := h
  subst ecls
  cases r with
  | cons rx rr =>
    cases rr with
    | cons rt rr =>
      cases rr
      cases rx
      have ec := hcv _ rt
      subst ec
      obtain ⟨hget, _⟩ := I.pin (a, oe) (List.mem_append.mpr (.inl List.mem_cons_self))
      obtain ⟨vs, hv⟩ := hf
      have J : ∃ od : Option Obj, PySem.W.InstAt s.heap a oe D od := by
        obtain ⟨oc, od, oda, osl⟩ := oe
        obtain ⟨h1, h2⟩ := hz
        dsimp only at h1 h2 hv
        subst h1 h2 hv
        rcases hd with rfl | ⟨dd, fs, rfl, hdd⟩
        · exact ⟨none, hget, rfl, rfl, trivial⟩
        · have hx : ObjOk X.prog X.w H s.heap dd (.xd fs) := I.hok dd _ hdd
          obtain ⟨mA, hns, _⟩ := hx
          obtain ⟨o, _, _, ho, _⟩ := hns
          exact ⟨some o, hget, rfl, rfl, ho⟩
      obtain ⟨od, J⟩ := J
      exact PySem.W.kia_one (EV.kitx_excD (od := od) C.hg C.hk C.hs C.hd C.ha C.hn C.ht C.hm) I.kIn J e (fun z => nomatch z) fun tk => ⟨.bl b, H, I.kept (t' := tk) fun _ _ z => z, rfl, q⟩
theorem XC.exc {K : PySem.W.Frag} {C : Addr} (T : XC K C) : ExcC K C := ⟨T.ga, T.gg, T.exC, T.hd, T.ha, T.hn, T.ht, T.hm⟩
theorem XC.xf {K : PySem.W.Frag} {C : Addr} (T : XC K C) : XfC K C := ⟨T.ga, T.gg, T.exC, T.hd⟩
theorem XC.raises {X : Cx} {C : Addr} (T : XC X.K C) : Raises X (.ref C) := raises_own T.exC T.tyC
theorem XC.exm {K : PySem.W.Frag} {C : Addr} {cls : Value} {b : Bool} (T : XC K C) (h : PySem.W.subIn K cls (.ref C) = some b) : PySem.W.exmOne K cls (.ref C) = some b := PySem.W.exm_ref T.exC T.hd T.tyC h
end LX
set_option maxHeartbeats 4000000
namespace LX
open PySem PySem.Spec PyProof.Rows L2 C8 SX
section
variable {P : Program} {w : World} {K : PySem.W.Frag} {mg : Str → Option Value} {base : Heap}
theorem fnX {x qual : Str} {st : Stmt} {f : Addr} {fd : FuncData} {N ps : List Str} {k : Nat} {sp : Sp} (F : C8.Fun K x qual st f fd) (S : FnScope N ps (C8.fnScope st)) (len : ∀ vs H Q E, sp vs H Q E → vs.length = ps.length)
    (hbody : ∀ (cdv : Value) (A : Around) (outer : List Env) (s : Shared) (H : Hp) (vs : List V) (Q : VK) (E : XK), Room k (A.deeper (envOfC qual (C8.fnScope st) s.heap.objs.size f cdv)) → sp vs H Q E →
      ∃ t, PSs (cxOf (L2.CX P w) P w K mg base N qual (C8.fnScope st) f cdv A outer s H E) (C8.fnBody st) t ∧ t { nx := fun _ H' => Q .non H', rt := Q } (L2.start N vs) H) : FnOk P w K mg base (L2.CX P w) (k + 1) f fd ps sp := by
  obtain ⟨oc, od, dV, kV, doc, pm, an, cdv, ct, osl, rfl, lk, hcd⟩ := F.ex
  exact fn_of lk hcd S len fun A outer s H vs Q E hr hsp => hbody cdv A outer s H vs Q E hr hsp
structure CalX (P : Program) (w : World) (K : PySem.W.Frag) (mg : Str → Option Value) (base : Heap) (k : Nat) (x : Str) (sp : Sp) : Prop where
  ex : ∃ (f : Addr) (fd : FuncData) (ps : List Str), FnOk P w K mg base (L2.CX P w) k f fd ps sp ∧ mg x = some (.ref f) ∧ PySem.W.keepIn K (.ref f) = true ∧ Binds K fd ps []
structure MetX (P : Program) (w : World) (K : PySem.W.Frag) (mg : Str → Option Value) (base : Heap) (k : Nat) (C : Addr) (m : Str) (sp : Sp) : Prop where
  ex : ∃ (f : Addr) (fd : FuncData) (ps : List Str), Cls K C ∧ Meth K C m f ∧ FnOk P w K mg base (L2.CX P w) k f fd ps sp ∧ Binds K fd ps []
structure MakX (P : Program) (w : World) (K : PySem.W.Frag) (mg : Str → Option Value) (base : Heap) (k : Nat) (x : Str) (C : Addr) (sp : Sp) : Prop where
  ex : ∃ (f : Addr) (fd : FuncData) (ps : List Str), Mk K C f ∧ FnOk P w K mg base (L2.CX P w) k f fd ps sp ∧ mg x = some (.ref C) ∧ Binds K fd ps []
structure RaiX (P : Program) (w : World) (K : PySem.W.Frag) (mg : Str → Option Value) (base : Heap) (k : Nat) (x : Str) (C : Addr) (sp : Sp) : Prop where
  ex : ∃ (f : Addr) (fd : FuncData) (ps : List Str), XC K C ∧ PySem.W.findIn K (.ref C) "__init__" = some (some (.ref f)) ∧ PySem.W.typeIn K (.ref f) = some (.type "function") ∧ FnOk P w K mg base C8.CX0 k f fd ps sp ∧ mg x = some (.ref C) ∧ Binds K fd ps []
theorem calX {x : Str} {st : Stmt} {f : Addr} {fd : FuncData} {N ps : List Str} {k : Nat} {sp : Sp} (F : Def K mg x st f fd) (b : Binds K fd ps []) (S : FnScope N ps (C8.fnScope st)) (len : ∀ vs H Q E, sp vs H Q E → vs.length = ps.length)
    (hbody : ∀ (cdv : Value) (A : Around) (outer : List Env) (s : Shared) (H : Hp) (vs : List V) (Q : VK) (E : XK), Room k (A.deeper (envOfC x (C8.fnScope st) s.heap.objs.size f cdv)) → sp vs H Q E →
      ∃ t, PSs (cxOf (L2.CX P w) P w K mg base N x (C8.fnScope st) f cdv A outer s H E) (C8.fnBody st) t ∧ t { nx := fun _ H' => Q .non H', rt := Q } (L2.start N vs) H) : CalX P w K mg base (k + 1) x sp :=
  ⟨f, fd, ps, fnX F.fn S len hbody, F.mgf, F.kp, b⟩
theorem metX {m qual : Str} {C : Addr} {st : Stmt} {f : Addr} {fd : FuncData} {N ps : List Str} {k : Nat} {sp : Sp} (c : Cls K C) (me : Meth K C m f) (F : C8.Fun K m qual st f fd) (b : Binds K fd ps []) (S : FnScope N ps (C8.fnScope st)) (len : ∀ vs H Q E, sp vs H Q E → vs.length = ps.length)
    (hbody : ∀ (cdv : Value) (A : Around) (outer : List Env) (s : Shared) (H : Hp) (vs : List V) (Q : VK) (E : XK), Room k (A.deeper (envOfC qual (C8.fnScope st) s.heap.objs.size f cdv)) → sp vs H Q E →
      ∃ t, PSs (cxOf (L2.CX P w) P w K mg base N qual (C8.fnScope st) f cdv A outer s H E) (C8.fnBody st) t ∧ t { nx := fun _ H' => Q .non H', rt := Q } (L2.start N vs) H) : MetX P w K mg base (k + 1) C m sp :=
  ⟨f, fd, ps, c, me, fnX F S len hbody, b⟩
theorem makX {x qual : Str} {C : Addr} {st : Stmt} {f : Addr} {fd : FuncData} {N ps : List Str} {k : Nat} {sp : Sp} (M : Mk K C f) (hm : mg x = some (.ref C)) (F : C8.Fun K "__init__" qual st f fd) (b : Binds K fd ps []) (S : FnScope N ps (C8.fnScope st)) (len : ∀ vs H Q E, sp vs H Q E → vs.length = ps.length)
    (hbody : ∀ (cdv : Value) (A : Around) (outer : List Env) (s : Shared) (H : Hp) (vs : List V) (Q : VK) (E : XK), Room k (A.deeper (envOfC qual (C8.fnScope st) s.heap.objs.size f cdv)) → sp vs H Q E →
      ∃ t, PSs (cxOf (L2.CX P w) P w K mg base N qual (C8.fnScope st) f cdv A outer s H E) (C8.fnBody st) t ∧ t { nx := fun _ H' => Q .non H', rt := Q } (L2.start N vs) H) : MakX P w K mg base (k + 1) x C sp :=
  ⟨f, fd, ps, M, fnX F S len hbody, hm, b⟩
theorem raiX {x qual : Str} {C : Addr} {st : Stmt} {f : Addr} {fd : FuncData} {N ps : List Str} {k : Nat} {sp : Sp} (T : XC K C) (iC : PySem.W.findIn K (.ref C) "__init__" = some (some (.ref f))) (tI : PySem.W.typeIn K (.ref f) = some (.type "function")) (hm : mg x = some (.ref C)) (F : C8.Fun K "__init__" qual st f fd) (b : Binds K fd ps []) (S : FnScope N ps (C8.fnScope st)) (len : ∀ vs H Q E, sp vs H Q E → vs.length = ps.length)
    (hbody : ∀ (cdv : Value) (A : Around) (outer : List Env) (s : Shared) (H : Hp) (vs : List V) (Q : VK) (E : XK), Room k (A.deeper (envOfC qual (C8.fnScope st) s.heap.objs.size f cdv)) → sp vs H Q E →
      ∃ t, PSs (cxOf C8.CX0 P w K mg base N qual (C8.fnScope st) f cdv A outer s H E).nox (C8.fnBody st) t ∧ t { nx := fun _ H' => Q .non H', rt := Q } (L2.start N vs) H) : RaiX P w K mg base (k + 1) x C sp :=
  ⟨f, fd, ps, T, iC, tI, fn0 F S len hbody, hm, b⟩
end
def tMethS (C : Addr) (m : Str) (sp : Sp) (E : L2.St → XK) (ta : TE) (t : TA) : TE := fun σ H Q => ta σ H fun x H1 => ∃ a dx fs, x = .ref a ∧ H1 a = some (.ins C dx fs) ∧ fs.lookup m = none ∧ t σ H1 fun vs H2 => sp (x :: vs) H2 Q (E σ)
def tMakeS (C : Addr) (sp : Sp) (E : L2.St → XK) (t : TA) : TE := fun σ H Q => t σ H fun vs H1 => ∀ x dx, H1 x = none → H1 dx = none → dx ≠ x → sp (.ref x :: vs) (upd (upd H1 dx (.own x)) x (.ins C dx [])) (fun v H2 => v = .non ∧ Q (.ref x) H2) (E σ)
section
variable {X : Cx} {k j : Nat} {f C : Addr} {sp : Sp} {W : WX} {x m : Str} {p pos apos : Pos} {e o : Expr} {es : List Expr} {ta : TE} {t : TA}
theorem pe_cX (c : CalX X.prog X.w X.K X.mg X.base k x sp) (tk : Takes X W) (hr : Room j X.A) (hk : k ≤ j) (hg : Gl X x) (ha : PA X (e :: es) t) (hdb : (x == ("__debug__" : Str)) = false := by decide)
    (he : starEach (e :: es) X.env = (false, eval e X.env) :: starEach es X.env := by rfl) (hpl : (backTo pos (starEach es X.env)).any (·.1) = false := by rfl) : PE X (.Call (.Name x p) (e :: es) [] pos) (tCallS sp (WE W) t) := by
  obtain ⟨f, fd, ps, F, hm, kp, b⟩ := c.ex
  exact pe_callS F (hr.mono hk) hg hm kp b (fun σ => passAt tk σ) ha hdb he hpl
theorem pe_mtX {pl : Sem Bool} (c : MetX X.prog X.w X.K X.mg X.base k C m sp) (tk : Takes X W) (hr : Room j X.A) (hk : k ≤ j) (he : PE X o ta) (ha : PA X (e :: es) t)
    (hst : starEach (e :: es) X.env = (false, eval e X.env) :: starEach es X.env := by rfl) (hpl : (backTo pos (starEach es X.env)).any (·.1) = false := by rfl)
    (ht : eval (.Call (.Attribute o m apos) (e :: es) [] pos) X.env = (do
      let ov ← eval o X.env
      standAt apos.atName
      let (f, first) ← holding [ov] (getMethod ov m pl)
      callWith pos f first (backTo pos (starEach (e :: es) X.env)) (backToKw pos (keywordEach [] X.env))) := by rfl) :
    PE X (.Call (.Attribute o m apos) (e :: es) [] pos) (tMethS C m sp (WE W) ta t) := by
  obtain ⟨f, fd, ps, cl, hm, F, hb⟩ := c.ex
  refine ⟨fun pins s σ H Q I h => ?_⟩
  refine PySem.W.methodCall_KW (pl := pl) (thn (he.run pins s σ H _ I h) fun u s1 ⟨x, H1, I1, rx, a, dx, fs, ex, ea, l, q⟩ => ?_) ht
  subst ex
  obtain rfl : u = Value.ref a := rx
  refine getmeth_ok I1 ea cl hm l ?_
  refine PySem.W.callWith_K (first := [.ref a]) (h₀ := X.base) I.ok.mod.kin hm.kp (thn (ha.run pos pins s1 σ H1 _ I1 q) fun us s2 ⟨vs, H2, I2, r, q2⟩ => ⟨I2.kIn, ?_⟩) hst hpl
  exact run_fnS (us := .ref a :: us) (vs := .ref a :: vs) F (hr.mono hk) hb (passAt tk σ) I2 (.cons rfl r) q2
theorem pe_mkX (c : MakX X.prog X.w X.K X.mg X.base k x C sp) (tk : Takes X W) (hr : Room j X.A) (hk : k + 1 ≤ j) (hg : Gl X x) (ha : PA X (e :: es) t) (hdb : (x == ("__debug__" : Str)) = false := by decide)
    (he : starEach (e :: es) X.env = (false, eval e X.env) :: starEach es X.env := by rfl) (hpl : (backTo pos (starEach es X.env)).any (·.1) = false := by rfl) : PE X (.Call (.Name x p) (e :: es) [] pos) (tMakeS C sp (WE W) t) := by
  obtain ⟨f, fd, ps, M, F, hm, hb⟩ := c.ex
  refine ⟨fun pins s σ H Q I h => ?_⟩
  refine wpAny_Call_Name_kw (ld_glob I hg hm ?_ hdb)
  refine PySem.W.callWith_K (h₀ := X.base) I.ok.mod.kin M.kp (thn (ha.run pos pins s σ H _ I h) fun us s1 ⟨vs, H1, I1, r, q⟩ => ⟨I1.kIn, ?_⟩) he hpl
  have hq := q (s1.heap.objs.size + 1) s1.heap.objs.size (I1.hok.fresh (Nat.le_succ _)) (I1.hok.fresh (Nat.le_refl _)) (Nat.ne_of_lt (Nat.lt_succ_self _))
  have I2 := Inv.made (C := C) I1
  have r2 : Vals (V.ref (s1.heap.objs.size + 1) :: vs) (Value.ref (s1.heap.objs.size + 1) :: us) := .cons rfl r
  have hl : (Value.ref (s1.heap.objs.size + 1) :: us ++ []).length = ps.length := by
    have e := r2.length
    rw [F.len _ _ _ _ hq] at e
    rw [List.append_nil]
    exact e.symm
  have hb2 := hb _ (Value.ref (s1.heap.objs.size + 1) :: us) I2.kIn hl
  rw [List.append_nil] at hb2
  refine wpAny_call (make_map (f := f) I1.kIn M.makes M.init (beq_iff_eq.mp M.fn) (codeAny_mono (F.run _ X.stack _ _ ⟨Value.ref (s1.heap.objs.size + 1) :: us, []⟩ (Value.ref (s1.heap.objs.size + 1) :: us) _ _ (WE W σ) ((hr.mono hk).make C us [])
    (I2.env0.make C us []) hb2 r2 hq) fun r s' hq' => ?_))
  cases r with
  | error e => exact passAt tk σ pins _ _ e s' I2 hq'
  | ok fl =>
    cases fl with
    | ret u =>
      obtain ⟨v, H', I3, rv, ev, q3⟩ := I2.after hq'
      subst ev
      exact ⟨rv, ⟨V.ref (s1.heap.objs.size + 1), H', I3, rfl, q3⟩⟩
    | next => exact False.elim hq'
    | brk => exact False.elim hq'
    | cont => exact False.elim hq'
theorem pmk_rai (c : RaiX X.prog X.w X.K X.mg X.base k x C sp) (hr : Room j X.A) (hk : k + 1 ≤ j) (hg : Gl X x) (ha : PA X (e :: es) t) (hdb : (x == ("__debug__" : Str)) = false := by decide)
    (he : starEach (e :: es) X.env = (false, eval e X.env) :: starEach es X.env := by rfl) (hpl : (backTo pos (starEach es X.env)).any (·.1) = false := by rfl) : PMk X (.Call (.Name x p) (e :: es) [] pos) (tMkO C sp [] t) := by
  obtain ⟨f, fd, ps, T, iC, tI, F, hm, b⟩ := c.ex
  exact pmk_xc T iC tI F (hr.mono hk) b .nil C8.pass0 hg hm ha hdb he hpl
end
def wManyA (K : PySem.W.Frag) (Wout : WX) (D : Ends) : List (Value × Option Nat × (Addr → Value → Option Addr → TS)) → WX
  | [] => Wout
  | (c, none, ts) :: r => fun cls d σ H => ∃ b, PySem.W.exmOne K cls c = some b ∧ (b = true → ∀ a, H a = none → ts a cls d D σ H) ∧ (b = false → wManyA K Wout D r cls d σ H)
  | (c, some i, ts) :: r => fun cls d σ H => ∃ b, PySem.W.exmOne K cls c = some b ∧ (b = true → ∀ a, H a = none → ts a cls d { nx := fun σ' H' => D.nx (σ'.set i none) H', rt := D.rt, bk := fun σ' H' => D.bk (σ'.set i none) H', ct := fun σ' H' => D.ct (σ'.set i none) H' } (σ.set i (some (.ref a))) H) ∧
      (b = false → wManyA K Wout D r cls d σ H)
inductive HdsA (X : Cx) : List ExceptHandler → List (Value × Option Nat × (Addr → Value → Option Addr → TS)) → Prop
  | nil : HdsA X [] []
  | cons {x : Str} {c : Value} {ts : Addr → Value → Option Addr → TS} {b₀ : Stmt} {suite : List Stmt} {np pos' : Pos} {hds : List ExceptHandler} {l : List (Value × Option Nat × (Addr → Value → Option Addr → TS))} (hc : Names X x c)
      (hsu : ∀ (a : Addr) (oe : Obj) (cls : Value) (d : Option Addr) (pn : List (Addr × Obj)), Zc cls d oe → (∃ vs, oe.data = .fields vs) → PSs (X.suite a ((a, oe) :: pn)) (b₀ :: suite) (ts a cls d)) (r : HdsA X hds l) :
      HdsA X (.ExceptHandler (some (.Name x np)) none (b₀ :: suite) pos' :: hds) ((c, none, ts) :: l)
  | consA {x n : Str} {i : Nat} {c : Value} {ts : Addr → Value → Option Addr → TS} {b₀ : Stmt} {suite : List Stmt} {np pos' : Pos} {hds : List ExceptHandler} {l : List (Value × Option Nat × (Addr → Value → Option Addr → TS))} (hi : X.N[i]? = some n) (hln : X.env.kindOf n = some .local) (hc : Names X x c)
      (hsu : ∀ (a : Addr) (oe : Obj) (cls : Value) (d : Option Addr) (pn : List (Addr × Obj)), Zc cls d oe → (∃ vs, oe.data = .fields vs) → PSs (X.suite a ((a, oe) :: pn)) (b₀ :: suite) (ts a cls d)) (r : HdsA X hds l) :
      HdsA X (.ExceptHandler (some (.Name x np)) (some n) (b₀ :: suite) pos' :: hds) ((c, some i, ts) :: l)
section
variable {X : Cx} {body : List Stmt} {h₀ : ExceptHandler} {hds : List ExceptHandler} {l : List (Value × Option Nat × (Addr → Value → Option Addr → TS))} {pos : Pos} {tb : WX → TS} {Wout : WX}
theorem ps_try_manyA (hs : X.stack = X.env :: X.outer) (hf : X.env.frame = some X.env.locals) (hN : X.N.Nodup) (tk : Takes X Wout)
    (hb : ∀ (W : WX) (pn : List (Addr × Obj)) (xe : Value → Shared → Prop), Takes (X.tr pn xe) W → PassesOwn (model X.prog X.w) X.A X.env xe → PSs (X.tr pn xe) body (tb W))
    (hh : HdsA X (h₀ :: hds) l) : PS X (.Try body (h₀ :: hds) [] [] pos) (fun D σ H => tb (wManyA X.K Wout D l) D σ H) := by
  refine ⟨fun pins s σ H D I h => ?_⟩
  have ok := I.ok
  have hfr : X.A.frames = some (X.env :: X.outer) := by rw [ok.frames, hs]
  refine wpAny_Try_except ?_
  refine wpAny_mono ((hb (wManyA X.K Wout D l) (X.pn ++ pins) (fun e s₁ => wpAny (model X.prog X.w) X.A (noteFrame e X.env) (fun _ s₂ => wpAny (model X.prog X.w) X.A (setFlight e none) (fun _ s₃ =>
    wpAny (model X.prog X.w) X.A (handleBy e X.env (h₀ :: hds)) (SP X pins D) X.xe s₃) X.xe s₂) X.xe s₁) (fun u s' xx => ?_) PassesOwn.looking).run [] s σ H D (I.toTry _) h) (fun f s1 hsp => ?_) (fun e s1 he => he)
  · obtain ⟨a, B, sI, pins', σ', H', cls, d, rfl, J', nb, up, sky, na, os, ag, w⟩ := xx
    have J : Inv X pins σ' H' sI := J'.ofTry ok
    have sky' : Sky B (X.env :: X.outer) a (Zc cls d) X.env.locals s'.heap := by rw [← hs]; exact sky
    show wpAny (model X.prog X.w) X.A (noteFrame (.ref a) X.env) _ _ _
    refine Sky.land Zc.steady hfr hf sky' fun h3 fl3 up3 => ?_
    have J3 : Inv X pins σ' H' { s' with heap := h3 } := J.landed nb fl3.1 (up.trans up3) os ag
    obtain ⟨oe3, vs3, he3, hz3, hd3⟩ := fl3.there
    have notFr : ∀ {h : Heap} {o : Obj} {vs : Array Value}, h.FunFrames B (X.env :: X.outer) → h.get? a = some o → o.data = .fields vs → a ∉ frs (X.env :: X.outer) := fun {h o vs} ff e dd hm => by
      obtain ⟨_, o', e', hnf⟩ := ff.mem hm
      rw [e] at e'; cases e'
      exact hnf _ dd
    have nfr := notFr fl3.2.2.1 he3 hd3
    have nL : a ≠ X.env.locals := fun z => nfr (List.mem_filterMap.mpr ⟨X.env, List.mem_cons_self, by rw [hf, z]⟩)
    have nF : a ∉ X.fs := fun hm => by
      obtain ⟨e, he, q⟩ := List.mem_filterMap.mp hm
      exact nfr (List.mem_filterMap.mpr ⟨e, List.mem_cons_of_mem _ he, q⟩)
    have S3 := J3.suite he3 hd3 na nL nF
    have LT : PySem.W.Looks (model X.prog X.w) h3 (typeOf (.ref a)) cls := fun A Q E s k q => wpAny_typeOf_ref (k _ _ he3) (by rw [hz3.1]; exact q)
    have test : ∀ {x : Str} {c : Value} {np : Pos} (hc : Names X x c) {Q : Value → Shared → Prop} {E : Value → Shared → Prop}, Q c { s' with heap := h3 } → wpAny (model X.prog X.w) (X.A.mark (some (.ref a))) (eval (.Name x np) X.env) Q E { s' with heap := h3 } := fun {x c np} hc {Q E} q => by
      obtain ⟨hg, hdbg, hm | ⟨hm, hv, hnn⟩⟩ := hc
      · exact ld_glob (X := X.suite a ((a, oe3) :: (X.pn ++ pins))) S3 hg hm q hdbg
      · exact ld_blt (X := X.suite a ((a, oe3) :: (X.pn ++ pins))) S3 hg hm hv q hnn hdbg
    have go : ∀ {hds' : List ExceptHandler} {l' : List (Value × Option Nat × (Addr → Value → Option Addr → TS))}, HdsA X hds' l' → wManyA X.K Wout D l' cls d σ' H' →
        wpAny (model X.prog X.w) X.A (handleBy (.ref a) X.env hds') (SP X pins D) X.xe { s' with heap := h3 } := by
      intro hds' l' hk
      induction hk with
      | nil =>
        intro w
        refine wpAny_handleBy_nil ?_
        obtain ⟨k1, k2, k3, oe, vs, T, oT, ts', he, hz, hd, h1, hr⟩ := id fl3
        unfold PySem.passOn
        refine wpAny_bind (wpAny_field he hd h1 ?_)
        rw [if_neg (show ¬ ((Value.ref T == Value.none) = true) from by simp)]
        have fin : wpAny (model X.prog X.w) X.A (setFlight (.ref a) X.env.frame) (fun _ s4 => wpAny (model X.prog X.w) X.A (throw (.ref a) : Sem Flow) (SP X pins D) X.xe s4) X.xe { s' with heap := h3 } := by
          rw [hf]
          refine HandSPX.setFlight_upZ fl3 fun h4 hh4 up4 => wpAny_throw (tk _ _ ?_)
          exact ⟨a, B, sI, pins, σ', H', cls, d, rfl, J, nb, (up.trans up3).trans up4, .inr (.inr (by rw [hs]; exact hh4)), na, os, ag, w⟩
        first
          | exact wpAny_bind (wpAny_pure (wpAny_bind fin))
          | exact wpAny_bind fin
      | @cons x c ts b₀ suite np pos' hds2 l2 hc hsu r ih =>
        intro w
        obtain ⟨b, hb1, hyes, hno⟩ := w
        refine wpAny_handleBy_cons (codeAny_handlers_test ?_) (by intro q; cases q)
        have LM := PySem.W.exm_one (M := model X.prog X.w) (J3.kIn) LT hb1
        refine test hc (LM.here ?_)
        cases b with
        | true =>
          refine codeAny_handlers_suite ?_
          refine HandSPX.lands_againZ fl3 fun h4 fl4 up4 => ?_
          have J4 : Inv X pins σ' H' { s' with heap := h4 } := J.landed nb fl4.1 ((up.trans up3).trans up4) os ag
          obtain ⟨oe4, vs4, he4, hz4, hd4⟩ := fl4.there
          have S4 := J4.suite he4 hd4 na nL nF
          refine wpAny_mono ((hsu a oe4 cls d (X.pn ++ pins) hz4 ⟨_, hd4⟩).run [] _ _ H' _ S4 (hyes rfl a na)) (fun f s6 hsp => ?_) (fun _ _ z => False.elim z)
          cases f with
          | next =>
            obtain ⟨σ6, H6, S6, q6⟩ := hsp
            exact ⟨_, _, S6.unsuite ok, q6⟩
          | brk =>
            obtain ⟨σ6, H6, S6, q6⟩ := hsp
            exact ⟨_, _, S6.unsuite ok, q6⟩
          | cont =>
            obtain ⟨σ6, H6, S6, q6⟩ := hsp
            exact ⟨_, _, S6.unsuite ok, q6⟩
          | ret u =>
            obtain ⟨v6, σ6, H6, S6, r6, q6⟩ := hsp
            exact ⟨_, _, _, S6.unsuite ok, r6, q6⟩
        | false =>
          show wpAny _ X.A (handleBy (.ref a) X.env hds2) _ _ _
          exact ih (hno rfl)
      | @consA x n i c ts b₀ suite np pos' hds2 l2 hi hln hc hsu r ih =>
        intro w
        obtain ⟨b, hb1, hyes, hno⟩ := w
        refine wpAny_handleBy_cons (codeAny_handlers_test ?_) (by intro q; cases q)
        have LM := PySem.W.exm_one (M := model X.prog X.w) (J3.kIn) LT hb1
        refine test hc (LM.here ?_)
        cases b with
        | true =>
          refine codeAny_handlers_suite_as ?_
          refine HandSPX.lands_againZ fl3 fun h4 fl4 up4 => ?_
          have J4 : Inv X pins σ' H' { s' with heap := h4 } := J.landed nb fl4.1 ((up.trans up3).trans up4) os ag
          obtain ⟨oe4, vs4, he4, hz4, hd4⟩ := fl4.there
          have S4 := J4.suite he4 hd4 na nL nF
          refine store_ok (X := X.suite a ((a, oe4) :: (X.pn ++ pins))) (v := .ref a) S4 hN hi (.inl hln) rfl (fun s5 S5 => ?_) (.inr hln)
          refine wpAny_mono ((hsu a oe4 cls d (X.pn ++ pins) hz4 ⟨_, hd4⟩).run [] s5 _ H' _ S5 (hyes rfl a na)) (fun f s6 hsp => ?_) (fun _ _ z => False.elim z)
          have end_ : ∀ {σ6 : L2.St} {H6 : Hp} {Q : Shared → Prop}, Inv (X.suite a ((a, oe4) :: (X.pn ++ pins))) [] σ6 H6 s6 → (∀ s7, Inv X pins (σ6.set i none) H6 s7 → Q s7) →
              wpAny (model X.prog X.w) X.A (do bindName X.env n .none; unbindBehindTheSuite X.env n pos') (fun _ s7 => Q s7) X.xe s6 := fun {σ6 H6 Q} S6 hq => gone_ok (S6.unsuite ok) hN hi hln hq
          cases f with
          | next =>
            obtain ⟨σ6, H6, S6, q6⟩ := hsp
            exact end_ S6 fun s7 J7 => ⟨_, _, J7, q6⟩
          | brk =>
            obtain ⟨σ6, H6, S6, q6⟩ := hsp
            exact end_ S6 fun s7 J7 => ⟨_, _, J7, q6⟩
          | cont =>
            obtain ⟨σ6, H6, S6, q6⟩ := hsp
            exact end_ S6 fun s7 J7 => ⟨_, _, J7, q6⟩
          | ret u =>
            obtain ⟨v6, σ6, H6, S6, r6, q6⟩ := hsp
            exact end_ S6 fun s7 J7 => ⟨_, _, _, J7, r6, q6⟩
        | false =>
          show wpAny _ X.A (handleBy (.ref a) X.env hds2) _ _ _
          exact ih (hno rfl)
    exact go hh w
  · cases f with
    | next =>
      obtain ⟨σ', H', J', q⟩ := hsp
      exact wpAny_execs_nil ⟨σ', H', J'.ofTry ok, q⟩
    | brk =>
      obtain ⟨σ', H', J', q⟩ := hsp
      exact ⟨σ', H', J'.ofTry ok, q⟩
    | cont =>
      obtain ⟨σ', H', J', q⟩ := hsp
      exact ⟨σ', H', J'.ofTry ok, q⟩
    | ret u =>
      obtain ⟨v, σ', H', J', r, q⟩ := hsp
      exact ⟨v, σ', H', J'.ofTry ok, r, q⟩
end
end LX
set_option maxHeartbeats 2000000
namespace Toy
open PySem L2 C8 SX LX
local macro_rules | `(tactic| walk_at "c") => `(tactic| refine And.intro (by first | (show (0 : Int) < _; omega) | exact Or.inr ⟨by decide, by decide⟩ | exact Or.inl ⟨by decide, by decide⟩ | (exact ⟨by omega, by omega⟩)) ?_)
local macro_rules | `(tactic| walk_at "s1") => `(tactic| first | refine ⟨_, rfl, ?_⟩ | refine ⟨_, _, rfl, rfl, ?_⟩ | refine .inl ⟨_, rfl, ?_⟩ | walk_at "c")
local macro_rules | `(tactic| walk_at "s") => `(tactic| repeat (walk_at "s1"))
inductive Kv (K : PySem.W.Frag) (H : Hp) : V → Option (List Nat) → Prop
  | txt (l : List Nat) : Kv K H (.str (S l)) (some l)
  | no {v : V} {t : Value} (ty : TyX K H v t) (h : PySem.W.kitOne K t (.type "str") = some false) : Kv K H v none
def tyN : PyData → String
  | .none => "NoneType"
  | .bool _ => "bool"
  | .int _ => "int"
  | .str _ => "str"
  | .list _ => "list"
  | .tuple _ => "tuple"
  | .dict _ => "dict"
def txtO : PyData → Option (List Nat)
  | .str s => some s.cps.toList
  | _ => none
def isSeqD : PyData → Bool
  | .list _ => true
  | .tuple _ => true
  | _ => false
theorem S_self (s : Str) : S s.cps.toList = s := by
  obtain ⟨c⟩ := s
  simp [S]
theorem ty_seqL {K : PySem.W.Frag} {H : Hp} {a : Addr} {xs : List V} (h : SqL K H a xs) : TyX K H (.ref a) (.type "list") := by
  rcases h with (h | ⟨o, h⟩) | ⟨o, its, n, h1, h2, _⟩
  · exact .base (.lst h)
  · exact .base (.frz h)
  · exact .kList h1 h2
theorem ty_seqT {K : PySem.W.Frag} {H : Hp} {a : Addr} {xs : List V} (h : SqT K H a xs) : TyX K H (.ref a) (.type "tuple") := by
  rcases h with (h | ⟨o, h⟩) | ⟨o, its, n, h1, h2, _⟩
  · exact .base (.tup h)
  · exact .fTuple h
  · exact .kTuple h1 h2
theorem dp_ty {K : PySem.W.Frag} {H : Hp} {v : V} {d : PyData} (h : Dp K H v d) : TyX K H v (.type (tyN d)) := by
  cases h with
  | non => exact .base .non
  | bl b => exact .base (.bl b)
  | int i => exact .base (.int i)
  | str x => exact .base (.str x)
  | lst h _ => exact ty_seqL h
  | tup h _ => exact ty_seqT h
theorem dp_kv {K : PySem.W.Frag} {H : Hp} {v : V} {d : PyData} (h : Dp K H v d) : Kv K H v (txtO d) := by
  have ty := dp_ty h
  cases h with
  | non => exact .no ty (kit_ty (a := "NoneType") (by decide +kernel))
  | bl b => exact .no ty (kit_ty (a := "bool") (by decide +kernel))
  | int i => exact .no ty (kit_ty (a := "int") (by decide +kernel))
  | str x =>
    have e : V.str x = V.str (S x.cps.toList) := by rw [S_self]
    rw [e]
    exact .txt _
  | lst h _ => exact .no ty (kit_ty (a := "list") (by decide +kernel))
  | tup h _ => exact .no ty (kit_ty (a := "tuple") (by decide +kernel))
theorem kv_ins {K : PySem.W.Frag} {H : Hp} {a C dx : Addr} {fs : List (Str × V)} (I : InsC K C) (hk : PySem.W.kitOne K (.ref C) (.type "str") = some false) (h : H a = some (.ins C dx fs)) : Kv K H (.ref a) none :=
  .no (.base (.ins h I.cl I.ha I.hn I.htk I.hm)) hk
mutual
theorem dp_same {K : PySem.W.Frag} {H H' : Hp} (s : Same H H') : ∀ (d : PyData) (v : V), Dp K H v d → Dp K H' v d
  | .none, _, h => by cases h; exact .non
  | .bool b, _, h => by cases h; exact .bl b
  | .int i, _, h => by cases h; exact .int i
  | .str x, _, h => by cases h; exact .str x
  | .list ds, _, h => by
    cases h with
    | lst hs ha => exact .lst (s.seq hs) (dpa_same s ds _ ha)
  | .tuple ds, _, h => by
    cases h with
    | tup hs ha => exact .tup (sm_seqT s hs) (dpa_same s ds _ ha)
  | .dict _, _, h => by cases h
theorem dpa_same {K : PySem.W.Frag} {H H' : Hp} (s : Same H H') : ∀ (ds : List PyData) (vs : List V), DpAll K H vs ds → DpAll K H' vs ds
  | [], _, h => by cases h; exact .nil
  | d :: ds, _, h => by
    cases h with
    | cons h1 h2 => exact .cons (dp_same s d _ h1) (dpa_same s ds _ h2)
end
theorem dpa_len {K : PySem.W.Frag} {H : Hp} : ∀ {vs : List V} {ds : List PyData}, DpAll K H vs ds → vs.length = ds.length
  | _, _, .nil => rfl
  | _, _, .cons _ h => by rw [List.length_cons, List.length_cons, dpa_len h]
theorem dpa_at {K : PySem.W.Frag} {H : Hp} : ∀ {vs : List V} {ds : List PyData}, DpAll K H vs ds → ∀ (i : Nat) (v : V), vs[i]? = some v → ∃ d, ds[i]? = some d ∧ Dp K H v d
  | _, _, .nil, i, v, h => by simp at h
  | _, _, .cons h _, 0, v, e => by cases e; exact ⟨_, rfl, h⟩
  | _, _, .cons _ h, i + 1, v, e => dpa_at h i v e
def seqD (b : Bool) (ds : List PyData) : PyData := if b = true then .list ds else .tuple ds
theorem dp_seq {K : PySem.W.Frag} {H : Hp} {v : V} {b : Bool} {ds : List PyData} (h : Dp K H v (seqD b ds)) : ∃ a xs, v = .ref a ∧ SqB K b H a xs ∧ DpAll K H xs ds := by
  cases b with
  | true =>
    have h : Dp K H v (.list ds) := h
    cases h with
    | lst hs ha => exact ⟨_, _, rfl, hs, ha⟩
  | false =>
    have h : Dp K H v (.tuple ds) := h
    cases h with
    | tup hs ha => exact ⟨_, _, rfl, hs, ha⟩
theorem isSeq_of {d : PyData} (h : isSeqD d = true) : ∃ b ds, d = seqD b ds := by
  cases d with
  | list ds => exact ⟨true, ds, rfl⟩
  | tuple ds => exact ⟨false, ds, rfl⟩
  | _ => cases h
theorem bools_of {ys : List V} {n : Nat} {f : Nat → Bool} (hl : ys.length = n) (h : ∀ (j : Nat) y, ys[j]? = some y → y = .bl (f j)) : ys = ((List.range n).map f).map V.bl := by
  rw [List.map_map]
  exact list_of hl h
theorem all_range {n : Nat} {f : Nat → Bool} : ((List.range n).map f).all id = decide (∀ i, i < n → f i = true) := by
  rw [Bool.eq_iff_iff, List.all_eq_true, decide_eq_true_eq]
  constructor
  · intro h i hi
    exact h _ (List.mem_map.mpr ⟨i, List.mem_range.mpr hi, rfl⟩)
  · intro h b hb
    obtain ⟨i, hi, rfl⟩ := List.mem_map.mp hb
    exact h i (List.mem_range.mp hi)
section
variable {P : Program} {w : World} {K : PySem.W.Frag} {mg : Str → Option Value} {base : Heap}
def spIsSeqD (K : PySem.W.Frag) : Sp := fun vs H Q _ => ∃ (v : V) (d : PyData), vs = [v] ∧ Dp K H v d ∧ ∀ H', Same H H' → Q (.bl (isSeqD d)) H'
theorem ok_isseqD (T : BT mg) {f : Addr} {fd : FuncData} (F : Def K mg "is_sequence" s_isseq f fd) (b : Binds K fd ["value"] []) : Cal P w K mg base 1 "is_sequence" (spIsSeqD K) [] := by
  refine cal0 F b .nil sc_isseq (fun vs H Q E h => ?_) (fun cdv A outer s H vs Q E hr h => ?_)
  · obtain ⟨v, d, rfl, _⟩ := h; rfl
  · obtain ⟨v, d, rfl, hd, k⟩ := h
    refine ⟨_, (pss_one (ps_ret (pe_callB (isiTK K) (by rfl) T.m_isinstance PyProof.Rows.boot_isinstance (pa_cons (pv 0) (pa_cons (pe_tup (pa_cons (pe_bltn (v := .ty "list") (by rfl) T.m_list PyProof.Rows.boot_list rfl) (pa_cons (pe_bltn (v := .ty "tuple") (by rfl) T.m_tuple PyProof.Rows.boot_tuple rfl) pa_nil))) pa_nil))))
      ), ?_⟩
    walk_at "s"
    refine ⟨by decide, fun t ht => ?_⟩
    have ty := dp_ty (dp_same (sm_new (o := .tup [.ty "list", .ty "tuple"]) ht) d v hd)
    refine ⟨_, t, _, _, _, isSeqD d, rfl, upd_same, .cons (.ty _) (.cons (.ty _) .nil), ty, ?_, k _ (sm_new ht)⟩
    cases d with
    | list ds => exact kitAny_cons (b := true) (kit_ty (a := "list") (by decide +kernel)) (fun h => nomatch h) (fun _ => rfl)
    | tuple ds => exact kitAny_cons (b := false) (kit_ty (a := "tuple") (by decide +kernel)) (fun _ => kitAny_cons (b := true) (kit_ty (a := "tuple") (by decide +kernel)) (fun h => nomatch h) (fun _ => rfl)) (fun h => nomatch h)
    | dict ds => cases hd
    | none => exact kitAny_cons (b := false) (kit_ty (a := "NoneType") (by decide +kernel)) (fun _ => kitAny_cons (b := false) (kit_ty (a := "NoneType") (by decide +kernel)) (fun _ => rfl) (fun h => nomatch h)) (fun h => nomatch h)
    | bool _ => exact kitAny_cons (b := false) (kit_ty (a := "bool") (by decide +kernel)) (fun _ => kitAny_cons (b := false) (kit_ty (a := "bool") (by decide +kernel)) (fun _ => rfl) (fun h => nomatch h)) (fun h => nomatch h)
    | int _ => exact kitAny_cons (b := false) (kit_ty (a := "int") (by decide +kernel)) (fun _ => kitAny_cons (b := false) (kit_ty (a := "int") (by decide +kernel)) (fun _ => rfl) (fun h => nomatch h)) (fun h => nomatch h)
    | str _ => exact kitAny_cons (b := false) (kit_ty (a := "str") (by decide +kernel)) (fun _ => kitAny_cons (b := false) (kit_ty (a := "str") (by decide +kernel)) (fun _ => rfl) (fun h => nomatch h)) (fun h => nomatch h)
def rowO (sg : List Nat) : Option (List Nat) → Bool
  | some l => decide (Ov sg l)
  | none => false
def Sm (o : Option (List Nat)) : Prop := ∀ l, o = some l → l.length ≤ 1000
def spIsRowD (K : PySem.W.Frag) : Sp := fun vs H Q _ => ∃ (v : V) (o : Option (List Nat)) (sg : List Nat), vs = [v, .str (S sg)] ∧ Kv K H v o ∧ Sm o ∧ Q (.bl (rowO sg o)) H
theorem ok_isrowD (T : BT mg) {f : Addr} {fd : FuncData} (F : Def K mg "is_row" s_isrow f fd) (b : Binds K fd ["value", "signs"] []) : Cal P w K mg base 1 "is_row" (spIsRowD K) [] := by
  refine cal0 F b .nil sc_isrow (fun vs H Q E h => ?_) (fun cdv A outer s H vs Q E hr h => ?_)
  · obtain ⟨v, o, sg, rfl, _⟩ := h; rfl
  · obtain ⟨v, o, sg, rfl, hv, hl, k⟩ := h
    refine ⟨_, (pss_one (ps_ret (pe_and (pe_callB (isiK K) (by rfl) T.m_isinstance PyProof.Rows.boot_isinstance (pa_cons (pv 0) (pa_cons (pe_bltn (v := .ty "str") (by rfl) T.m_str PyProof.Rows.boot_str rfl) pa_nil))) (pe_one (pe_cmpR op_eq (pe_bm PySem.F.plainAttrs_str PySem.F.slot_str_strip PySem.F.type_str_strip mt_stripChars (pv 0) (pa_cons (pv 1) pa_nil)) pe_str (nomark _)))))
      ), ?_⟩
    walk_at "s"
    cases hv with
    | no ty hk =>
      exact ⟨_, _, _, _, false, rfl, .ty _, ty, hk, false, rfl, iteN rfl k⟩
    | txt l =>
      have hl := hl l rfl
      refine ⟨_, _, _, _, true, rfl, .ty _, .base (.str _), kit_ty (by decide +kernel), true, rfl, ?_⟩
      refine iteT ?_
      refine ⟨_, rfl, rfl, _, rfl, S l, S sg, rfl, rfl, by rw [S_len]; exact sz hl (by decide), rfl, ?_⟩
      have e : V.bl (decide (V.str (Txt.stripChars (S l) (S sg)) = V.str (Str.ofString ""))) = V.bl (decide (Ov sg l)) := by
        rw [s_nil]
        refine congrArg V.bl (decide_eq_decide.mpr ?_)
        rw [V.str.injEq]
        exact strip_nil
      show Q (V.bl (decide (V.str (Txt.stripChars (S l) (S sg)) = V.str (Str.ofString "")))) H
      rw [e]
      exact k
def spIsLettersD (K : PySem.W.Frag) : Sp := fun vs H Q _ => ∃ (v : V) (o : Option (List Nat)), vs = [v] ∧ Kv K H v o ∧ Sm o ∧ Q (.bl (rowO az o)) H
theorem ok_islettersD (T : BT mg) {tz : Tok} (mgZ : mg "_LETTERS" = some (.str (S az) tz)) (c_isrow : Cal P w K mg base 1 "is_row" (spIsRowD K) []) {f : Addr} {fd : FuncData} (F : Def K mg "is_letters" s_isletters f fd) (b : Binds K fd ["value"] []) : Cal P w K mg base 2 "is_letters" (spIsLettersD K) [] := by
  refine cal0 F b .nil sc_isletters (fun vs H Q E h => ?_) (fun cdv A outer s H vs Q E hr h => ?_)
  · obtain ⟨v, o, rfl, _⟩ := h; rfl
  · obtain ⟨v, o, rfl, hv, hl, k⟩ := h
    refine ⟨_, (pss_one (ps_ret (pe_c c_isrow hr (by first | decide | omega) (by rfl) (pa_cons (pv 0) (pa_cons (pe_glob (v := .str (S az)) (by rfl) mgZ ⟨_, rfl⟩) pa_nil))))
      ), ?_⟩
    exact ⟨_, rfl, v, o, az, rfl, hv, hl, k⟩
instance (l : List Nat) : Decidable (Sg l) := by unfold Sg; infer_instance
def sgO : Option (List Nat) → Bool
  | some l => decide (Sg l)
  | none => false
end
end Toy
set_option maxHeartbeats 2000000
namespace Toy
open PySem L2 C8 SX LX
local macro_rules | `(tactic| walk_at "c") => `(tactic| refine And.intro (by first | (show (0 : Int) < _; omega) | exact Or.inr ⟨by decide, by decide⟩ | exact Or.inl ⟨by decide, by decide⟩ | (exact ⟨by omega, by omega⟩)) ?_)
local macro_rules | `(tactic| walk_at "s1") => `(tactic| first | refine ⟨_, rfl, ?_⟩ | refine ⟨_, _, rfl, rfl, ?_⟩ | refine .inl ⟨_, rfl, ?_⟩ | walk_at "c")
local macro_rules | `(tactic| walk_at "s") => `(tactic| repeat (walk_at "s1"))
section
variable {P : Program} {w : World} {K : PySem.W.Frag} {mg : Str → Option Value} {base : Heap}
def spIsSignsD (K : PySem.W.Frag) : Sp := fun vs H Q _ => ∃ (v : V) (o : Option (List Nat)), vs = [v] ∧ Kv K H v o ∧ Sm o ∧ ∀ H', Same H H' → Q (.bl (sgO o)) H'
theorem ok_issignsD (T : BT mg) (c_isletters : Cal P w K mg base 2 "is_letters" (spIsLettersD K) []) {f : Addr} {fd : FuncData} (F : Def K mg "is_signs" s_issigns f fd) (b : Binds K fd ["value"] []) : Cal P w K mg base 3 "is_signs" (spIsSignsD K) [] := by
  refine cal0 F b .nil sc_issigns (fun vs H Q E h => ?_) (fun cdv A outer s H vs Q E hr h => ?_)
  · obtain ⟨v, o, rfl, _⟩ := h; rfl
  · obtain ⟨v, o, rfl, hv, hl, k⟩ := h
    refine ⟨_, (pss_cons (ps_if (PW.pt (pw_or (pt_not (pt_val (pe_c c_isletters hr (by first | decide | omega) (by rfl) (pa_cons (pv 0) pa_nil)))) (pw_or (pt_cmpR op_lt (pe_callB call_len_str (by rfl) T.m_len PySem.boot_len (pa_cons (pv 0) pa_nil)) pe_int (nomark _)) (pw_or1 (pt_cmpR op_gt (pe_callB call_len_str (by rfl) T.m_len PySem.boot_len (pa_cons (pv 0) pa_nil)) pe_int (nomark _)))))) 
        (pss_one (ps_ret pe_bl)
        )
       pss_nil)
      (pss_one (ps_ret (pe_callB (cr_all rfl) (by rfl) T.m_all PyProof.Rows.boot_all (pa_cons (pe_lc (own := [("one", 1), ("other", 2)]) rfl sc_issigns.nd (pi_zipX (by rfl) T.m_zip (pa_cons (pv 0) (pa_cons (pe_slice sl_txt (pv 0) (po_some pe_int) po_none) pa_nil))) (blkOk_by (N := n_issigns) (sc := fnScope s_issigns) (by decide +kernel)) (fun _ _ _ _ _ => (tupK K 2 (pgs_cons (pg_name (i := 1) sc_issigns.nd rfl (.inl rfl)) (pgs_cons (pg_name (i := 2) sc_issigns.nd rfl (.inl rfl)) pgs_nil)))) (fun _ _ _ _ _ => pts_nil) (fun _ _ _ _ _ => (pe_cmpR op_lt_str (pv 1) (pv 2) (nomark _)))) pa_nil)))
      )), ?_⟩
    refine ⟨_, rfl, v, o, rfl, hv, hl, ?_⟩
    cases hv with
    | no ty hk => exact ⟨_, rfl, iteB rfl (k H (Same.refl H))⟩
    | txt l =>
      have hl := hl l rfl
      by_cases ha : Ov az l
      · rw [show rowO az (some l) = true from decide_eq_true ha]
        have hsl : (S l).length ≤ sizeLine := by rw [S_len]; exact Nat.le_trans hl (by decide)
        refine ⟨_, rfl, iteN rfl ?_⟩
        walk_at "s"
        refine ⟨hsl, ?_⟩
        walk_at "s"
        by_cases h1 : l.length < 1
        · refine iteB (by rw [S_len]; exact decide_eq_true (by omega)) ?_
          have e : sgO (some l) = false := decide_eq_false fun h => by have := h.2.1; omega
          rw [e] at k
          exact k H (Same.refl H)
        refine iteN (by rw [S_len]; exact decide_eq_false (by omega)) ?_
        walk_at "s"
        refine ⟨hsl, ?_⟩
        walk_at "s"
        by_cases h3 : 3 < l.length
        · refine iteB (by rw [S_len]; exact decide_eq_true (by omega)) ?_
          have e : sgO (some l) = false := decide_eq_false fun h => by have := h.2.2.1; omega
          rw [e] at k
          exact k H (Same.refl H)
        refine iteN (by rw [S_len]; exact decide_eq_false (by omega)) ?_
        walk_at "s"
        refine ⟨hsl, _, _, .txt (S l), .txt (S (l.drop 1)), rfl, rfl, slice_from (by decide), trivial, trivial, fun D hD => ?_⟩
        have hn : min (l.map fun c => V.str (S [c])).length ((l.drop 1).map fun c => V.str (S [c])).length = l.length - 1 := by
          rw [List.length_map, List.length_map, List.length_drop]; omega
        refine lc_keep (n := min (l.map fun c => V.str (S [c])).length ((l.drop 1).map fun c => V.str (S [c])).length) keep_same walk_zipX hD (by rw [hn]; exact small1000 (by omega)) (fun j y => y = .bl (decide (l.getD j 0 < l.getD (1 + j) 0))) (fun _ _ => ⟨rfl, rfl⟩) (fun i x H2 H3 R hii r1 hy hR => ?_) (fun ys H2 hly hg r1 hDs => ?_)
        · obtain ⟨t, x1, x2, rfl, ht, rfl, e1, e2⟩ := hy
          have e1 : (l.map fun c => V.str (S [c]))[i]? = some x1 := e1
          have e2 : ((l.drop 1).map fun c => V.str (S [c]))[i]? = some x2 := e2
          rw [List.getElem?_map] at e1 e2
          rw [List.getElem?_drop] at e2
          cases q1 : l[i]? with
          | none => rw [q1] at e1; cases e1
          | some c =>
            cases q2 : l[1 + i]? with
            | none => rw [q2] at e2; cases e2
            | some d =>
              rw [q1] at e1; rw [q2] at e2
              cases e1; cases e2
              refine ⟨t, _, rfl, .inl (.inl upd_same), rfl, _, _, rfl, _, _, rfl, rfl, rfl, ?_⟩
              walk_at "s"
              refine hR _ _ (sm_new ht) (congrArg V.bl ?_)
              rw [List.getD_eq_getElem?_getD, List.getD_eq_getElem?_getD, q1, q2]
              show decide (([c] : List Nat) < [d]) = decide (c < d)
              refine decide_eq_decide.mpr ?_
              rw [List.cons_lt_cons_iff]
              exact ⟨fun h => h.elim id fun h => absurd h.2 (by simp), .inl⟩
        · refine ⟨D, (List.range (l.length - 1)).map fun j => decide (l.getD j 0 < l.getD (1 + j) 0), rfl, SqL.of (by rw [← bools_of (hly.trans hn) hg]; exact hDs), ?_⟩
          rw [all_range]
          have e : sgO (some l) = decide (∀ i, i < l.length - 1 → decide (l.getD i 0 < l.getD (1 + i) 0) = true) := by
            refine decide_eq_decide.mpr ⟨fun h i hi => decide_eq_true ?_, fun h => ⟨?_, by omega, by omega, ov_az.mp ha⟩⟩
            · have i1 : i < l.length := by omega
              have i2 : i + 1 < l.length := by omega
              rw [List.getD_eq_getElem?_getD, List.getD_eq_getElem?_getD, Nat.add_comm 1 i, List.getElem?_eq_getElem i1, List.getElem?_eq_getElem i2]
              exact sg_asc h i _ _ (List.getElem?_eq_getElem i1) (List.getElem?_eq_getElem i2)
            · have key : ∀ i, i + 1 < l.length → l.getD i 0 < l.getD (i + 1) 0 := fun i hi => by
                have := of_decide_eq_true (h i (by omega))
                rw [Nat.add_comm 1 i] at this
                exact this
              match l, key with
              | [], _ => exact .nil
              | [a], _ => exact List.pairwise_singleton _ _
              | [a, b], key =>
                have := key 0 (by simp)
                simp at this
                exact .cons (fun x hx => by rw [List.mem_singleton.mp hx]; exact this) (List.pairwise_singleton _ _)
              | [a, b, c], key =>
                have k1 := key 0 (by simp)
                have k2 := key 1 (by simp)
                simp at k1 k2
                exact .cons (fun x hx => by rcases List.mem_cons.mp hx with rfl | hx; exact k1; rw [List.mem_singleton.mp hx]; omega) (.cons (fun x hx => by rw [List.mem_singleton.mp hx]; exact k2) (List.pairwise_singleton _ _))
              | _ :: _ :: _ :: _ :: _, _ => simp at h3
          rw [← e]
          exact k H2 r1
      · rw [show rowO az (some l) = false from decide_eq_false ha]
        refine ⟨_, rfl, iteB rfl ?_⟩
        have e : sgO (some l) = false := decide_eq_false fun h => ha (ov_az.mpr h.2.2.2)
        rw [e] at k
        exact k H (Same.refl H)
def nameO : Option (List Nat) → Bool
  | some m => decide (Name m)
  | none => false
def spIsNameD (K : PySem.W.Frag) : Sp := fun vs H Q _ => ∃ (v : V) (o : Option (List Nat)), vs = [v] ∧ Kv K H v o ∧ Sm o ∧ Q (.bl (nameO o)) H
theorem ok_isnameD (T : BT mg) {NN : Addr} (mgN : mg "_NO_NAMES" = some (.ref NN)) (hN : ∀ H, SqT K H NN (txs no10)) (c_isletters : Cal P w K mg base 2 "is_letters" (spIsLettersD K) []) {f : Addr} {fd : FuncData} (F : Def K mg "is_name" s_isname f fd) (b : Binds K fd ["value"] []) : Cal P w K mg base 3 "is_name" (spIsNameD K) [] := by
  refine cal0 F b .nil sc_isname (fun vs H Q E h => ?_) (fun cdv A outer s H vs Q E hr h => ?_)
  · obtain ⟨v, o, rfl, _⟩ := h; rfl
  · obtain ⟨v, o, rfl, hv, hl, k⟩ := h
    refine ⟨_, (pss_one (ps_ret (pe_and (pe_callB (isiK K) (by rfl) T.m_isinstance PyProof.Rows.boot_isinstance (pa_cons (pv 0) (pa_cons (pe_bltn (v := .ty "str") (by rfl) T.m_str PyProof.Rows.boot_str rfl) pa_nil))) (pe_and (pe_chain op_le op_le pe_int (pe_callB call_len_str (by rfl) T.m_len PySem.boot_len (pa_cons (pv 0) pa_nil)) pe_int) (pe_and (pe_c c_isletters hr (by first | decide | omega) (by rfl) (pa_cons (pv 0) pa_nil)) (pe_one (pe_cmpR (notInK K) (pv 0) (pe_glob (v := .ref NN) (by rfl) mgN rfl) rfl))))))
      ), ?_⟩
    walk_at "s"
    cases hv with
    | no ty hk => exact ⟨_, _, _, _, false, rfl, .ty _, ty, hk, false, rfl, iteN rfl k⟩
    | txt m =>
      have hm := hl m rfl
      have hsl : (S m).length ≤ sizeLine := by rw [S_len]; exact Nat.le_trans hm (by decide)
      refine ⟨_, _, _, _, true, rfl, .ty _, .base (.str _), kit_ty (by decide +kernel), true, rfl, ?_⟩
      refine iteT ?_
      have fin : ∀ {b : Bool}, (b = true ↔ Name m) → Q (.bl b) H := fun {b} h => by
        have : b = decide (Name m) := by
          rw [Bool.eq_iff_iff, decide_eq_true_eq]; exact h
        rw [this]; exact k
      refine ⟨_, rfl, S m, rfl, hsl, _, _, rfl, rfl, _, rfl, ?_⟩
      rw [S_len]
      by_cases h2 : 2 ≤ m.length
      · refine iteB (decide_eq_true (by omega)) ?_
        refine ⟨_, _, rfl, rfl, ?_⟩
        by_cases h6 : m.length ≤ 6
        · refine ⟨_, rfl, iteB (decide_eq_true (by omega)) ?_⟩
          refine ⟨_, rfl, _, some m, rfl, .txt m, hl, _, rfl, ?_⟩
          by_cases ho : Ov az m
          · refine iteB (decide_eq_true ho) ?_
            refine ⟨_, rfl, NN, txs no10, rfl, .inr (hN H), rfl, flat_txs _, ?_⟩
            rw [inV_txs]
            refine fin ?_
            rw [if_pos rfl, Bool.not_eq_true', decide_eq_false_iff_not]
            exact ⟨fun h => ⟨h2, h6, ov_az.mp ho, h⟩, fun h => h.2.2.2⟩
          · refine iteN (decide_eq_false ho) ?_
            exact fin ⟨fun h => (nomatch h), fun h => absurd (ov_az.mpr h.2.2.1) ho⟩
        · refine ⟨_, rfl, iteN (decide_eq_false (by omega)) ?_⟩
          exact fin ⟨fun h => (nomatch h), fun h => absurd h.2.1 h6⟩
      · refine iteN (decide_eq_false (by omega)) ⟨_, rfl, iteN rfl ?_⟩
        exact fin ⟨fun h => (nomatch h), fun h => absurd h.1 h2⟩
end
end Toy
set_option maxHeartbeats 4000000
namespace LX
open PySem PySem.Spec PyProof.Rows L2 C8 SX
section
variable {prog : Program} {w : World} {A : Around} {R : Result → Shared → Prop} {I S : Addr} {fp wr : List Addr} {G : Array GenState → Array GenState → Prop} {n : Nat} {P : Nat → Value → Prop} {St : Nat → Shared → Prop}
def cntT (xs : List Str) : Nat → Nat
  | 0 => 0
  | i + 1 => if (xs.take i).contains (xs.getD i default) then cntT xs i else cntT xs i + 1
theorem cntT_succ {xs : List Str} {i : Nat} {x : Str} (h : xs[i]? = some x) : (if decide (x ∈ xs.take i) = true then cntT xs i else cntT xs i + 1) = cntT xs (i + 1) := by
  have e : xs.getD i default = x := by rw [List.getD_eq_getElem?_getD, h]; rfl
  show _ = if (xs.take i).contains (xs.getD i default) then cntT xs i else cntT xs i + 1
  rw [e]
  by_cases q : x ∈ xs.take i <;> simp [q]
theorem cntT_le (xs : List Str) : ∀ i, cntT xs i ≤ i
  | 0 => Nat.le_refl _
  | i + 1 => by
    have := cntT_le xs i
    unfold cntT
    split <;> omega
abbrev ElemG (prog : Program) (w : World) (xs : List Str) (i : Nat) (S : Addr) (h : Heap) : Prop := h.SetOf (PySem.strKind prog w) S (fun k => decide (k ∈ xs.take i)) (cntT xs i)
theorem ElemG.stay {xs : List Str} {i : Nat} {h h' : Heap} (e : ElemG prog w xs i S h) (k : ∀ o, h.get? S = some o → h'.get? S = some o) : ElemG prog w xs i S h' :=
  let ⟨o, es, ep, tb, ho, rest⟩ := e; ⟨o, es, ep, tb, k o ho, rest⟩
theorem set_loopG (W : WalksS prog w A.in1 I fp wr G n P St) (off : S ∉ fp) {xs : List Str} (hl : xs.length = n) (room : n < scanBound) (val : ∀ i v, P i v → ∃ x t, xs[i]? = some x ∧ v = .str x t) :
    ∀ (k i : Nat) (s : Shared), i + k = n → St i s → ElemG prog w xs i S s.heap → (∀ s', Moved (S :: wr) G s s' → ElemG prog w xs n S s'.heap → R (.ok (.ret .none)) s') →
      codeAny (model prog w) A (.builtin "set.update.loop" ⟨[.ref S, .ref I], []⟩) R s
  | 0, i, s, hk, hst, he, hR => by
    obtain rfl : i = n := hk
    refine codeAny_builtin PyProof.Rows.F.entry_set_update_loop ?_
    rw [Around.under_plainId PyProof.Rows.F.plain_set_update_loop _]
    refine wpAny_bind (W.done s _ _ hst fun s' hm => wpAny_pure (hR s' (hm.mono fun b hb => List.mem_cons_of_mem _ hb) (he.stay fun o e => hm.heap S o (fun h => off (W.sub _ h)) e)))
  | k + 1, i, s, hk, hst, he, hR => by
    refine codeAny_builtin PyProof.Rows.F.entry_set_update_loop ?_
    rw [Around.under_plainId PyProof.Rows.F.plain_set_update_loop _]
    refine wpAny_bind (W.item i s _ _ (by omega) hst fun v s' hP hst' hm => ?_)
    obtain ⟨x, t, hx, rfl⟩ := val i v hP
    have he' : ElemG prog w xs i S s'.heap := he.stay fun o e => hm.heap S o (fun h => off (W.sub _ h)) e
    show wpAny _ A.in1 (holding [Value.str x t] (setAdd S (.str x t)) >>= _) _ _ s'
    refine wpAny_bind (wpAny_holding ?_)
    unfold setAdd
    refine wpAny_holding (wpAny_bind ((PySem.strKind prog w).pyHash (k := x) (strKind_is _ _ _ _) ?_))
    refine wpAny_setAddHashed_of (knd := PySem.strKind prog w) (s := { s' with toks := s'.toks + 1 }) (strKind_is _ _ _ _) rfl he' (by have := cntT_le xs i; omega) fun h' hsb hS2 => ?_
    have he2 : ElemG prog w xs (i + 1) S h' := SetOf_congr hS2 (fun y => by rw [take_more hx]; by_cases e : y ∈ xs.take i <;> by_cases e2 : y = x <;> simp [e, e2]) (cntT_succ hx)
    refine wpAny_pure ⟨plainId_quiet PyProof.Rows.F.plain_set_update_loop _, set_loopG W off hl room val k (i + 1) _ (by omega) (W.frame _ s' _ _ hst' (Nat.le_succ _) fun b hb o e => ?_) he2 fun s2 hm2 he3 => ?_⟩
    · rw [hsb.2 b (fun h => off (h ▸ hb))]; exact e
    · refine hR s2 (Moved.trans W.gtrans ((hm.mono fun b hb => List.mem_cons_of_mem _ hb).then_heap (Nat.le_succ _) fun b o hb e => ?_) hm2) he3
      rw [hsb.2 b (fun h => hb (by rw [h]; exact List.mem_cons_self))]; exact e
end
section
variable {prog : Program} {w : World} {A : Around} {E : Value → Shared → Prop} {s : Shared}
theorem set_of_listG {l : Addr} {items : Array Value} {xs : List Str} {Q : Value → Shared → Prop} (hh : A.handled = none) (hl : s.heap.IsList l items) (hi : PyProof.Rows.StrsAre items.toList xs) (room : xs.length < scanBound)
    (h : ∀ (h' : Heap) (tk : Nat), ElemG prog w xs xs.length s.heap.objs.size h' → (∀ b o, s.heap.get? b = some o → h'.get? b = some o) → Q (.ref s.heap.objs.size) { s with heap := h', toks := tk }) :
    wpAny (model prog w) A (call (.type "set") [.ref l]) Q E s := by
  obtain ⟨c, tl, hmro⟩ := PySem.F.called_set.mro
  have hmade := PySem.F.called_set.made
  have hsub := PySem.F.called_set.sub
  refine wpAny_call (codeAny_of_tree ?_)
  refine wpAny_pure ⟨Code.quiet_builtin _ (by decide +kernel), codeAny_builtin PySem.F.entry_type_call ?_⟩
  rw [Around.under_plain (weight_type_call_type "set" [.ref l] []) rfl]
  have nt := PySem.F.called_set.notType
  have cc := PySem.F.called_set.canCreate
  have ct := PySem.F.typeCall_set_1 (.ref l)
  repeat (any_goals (first | assumption | wp_step))
  refine codeAny_mono (code_set_new_1 (.ref l) (E := E) (Q₁ := fun obj s1 => ∃ led : Bool, obj = .ref s.heap.objs.size ∧ s1 = { s with heap := s.heap.push { cls := .type "set", dict := none, data := .set #[] 0 (.fresh 0 0 led) } }) fun led => ⟨led, rfl, rfl⟩) fun r s1 hr => ?_
  match r, hr with
  | .ok (.ret obj), hr =>
    obtain ⟨led, rfl, rfl⟩ := hr
    have hS : (s.heap.push (setO led)).get? s.heap.objs.size = some (setO led) := Heap.get?_push_size _ rfl
    have hTy : Shared.TypeIs { s with heap := s.heap.push (setO led) } (.ref s.heap.objs.size) "set" := ⟨_, hS, rfl⟩
    have li := PySem.F.called_set.init.lookup
    have bi := PySem.F.called_set.init.bind (.ref s.heap.objs.size)
    repeat (any_goals (first | assumption | wp_step))
    refine codeAny_mono (codeAny_call_builtin (R := wants (fun r s2 => r = .none ∧ ∃ h' tk, s2 = { s with heap := h', toks := tk } ∧ ElemG prog w xs xs.length s.heap.objs.size h' ∧ (∀ b o, s.heap.get? b = some o → h'.get? b = some o)) E)
      PySem.F.called_set.init.plain PySem.F.entry_set_init (check_set_init_1 hTy ?_)) fun r2 s2 hr2 => ?_
    · obtain ⟨⟨oc, od, odt, osl⟩, hol, hcl, nl, hdl⟩ := hl
      dsimp only at hcl hdl
      subst hcl hdl
      have hol' : (s.heap.push (setO led)).get? l = some { cls := .type "list", dict := od, data := .seq items nl, slots := osl } := Heap.get?_push_of_some _ hol
      have ss := PySem.F.sub_list_set
      have sf := PySem.F.sub_list_frozenset
      have ne : (Value.type "list" == Value.type "dict") = false := by decide
      have hl1 : (s.heap.push (setO led)).IsList l items := ⟨_, hol', rfl, nl, rfl⟩
      unfold Builtin.«set.__init__» noKeywords Builtin.Frozenset.updateFrom
      generalize hPI : pyIter = PI
      wp_walk
      subst hPI
      refine wpAny_pyIter_list hl1 ?_
      refine wpAny_bind (wpAny_runValue ?_)
      have hlS : l < s.heap.objs.size := Heap.lt_size hol
      have hz : (s.heap.push (setO led)).objs.size = s.heap.objs.size + 1 := Heap.size_push ..
      have neI : l ≠ (s.heap.push (setO led)).objs.size := by rw [hz]; exact Nat.ne_of_lt (Nat.lt_succ_of_lt hlS)
      have off : s.heap.objs.size ∉ [(s.heap.push (setO led)).objs.size, l] := by
        rw [hz]; simp only [List.mem_cons, List.not_mem_nil, or_false, not_or]
        exact ⟨Nat.ne_of_lt (Nat.lt_succ_self _), Nat.ne_of_gt hlS⟩
      have hsz : xs.length = items.size := by rw [← StrsAre.len_eq hi, Array.length_toList]
      refine set_loopG (xs := xs) ((Walks.list (A := A.in1.in1.in1) (by simp [hh]) _ l neI items).toS) off hsz (by rw [← hsz]; exact room) (fun i v hv => ?_) items.size 0 _ (Nat.zero_add _) ⟨⟨_, Heap.get?_push_size _ rfl, rfl, rfl⟩, hl1.push _⟩ ?_ fun s' hm hS' => ?_
      · obtain ⟨t, e⟩ := SS.strs_at hi i v (by rw [Array.getElem?_toList]; exact hv)
        have hlt : i < xs.length := by rw [hsz]; exact (Array.getElem?_eq_some_iff.mp hv).1
        exact ⟨xs[i], t, List.getElem?_eq_getElem hlt, by rw [e, List.getD_eq_getElem?_getD, List.getElem?_eq_getElem hlt]; rfl⟩
      · exact PyProof.Rows.SetOf_congr ((PyProof.Rows.setObjOf_fresh (knd := PySem.strKind prog w) led).setOf (Heap.get?_push_of_some _ hS) (by unfold scanBound; omega)) (fun _ => by simp) rfl
      · obtain ⟨h', g', d', tk', os'⟩ := s'
        obtain rfl : g' = s.gens := hm.gens
        obtain rfl : d' = s.drawn := hm.drawn
        obtain rfl : os' = s.os := hm.os
        refine wpAny_pure (wpAny_pure ⟨rfl, h', tk', rfl, by rw [hsz]; exact hS', fun b o e => ?_⟩)
        have hb : b < s.heap.objs.size := Heap.lt_size e
        refine hm.heap b o (fun hmem => ?_) (Heap.get?_push_of_some _ (Heap.get?_push_of_some _ e))
        have e' : b = s.heap.objs.size ∨ b = (s.heap.push (setO led)).objs.size := by simpa using hmem
        rcases e' with e' | e'
        · exact Nat.ne_of_lt hb e'
        · rw [hz] at e'; exact Nat.ne_of_lt (Nat.lt_succ_of_lt hb) e'
    · match r2, hr2 with
      | .ok (.ret r), hr2 =>
        obtain ⟨rfl, h', tk, rfl, hS', hk'⟩ := hr2
        repeat (any_goals (first | assumption | wp_step))
        exact h _ _ hS' hk'
      | .error e, hr2 => exact hr2
  | .error e, hr => exact hr
end
section
variable {X : Cx}
def tLenSetG (K : PySem.W.Frag) (ta : TE) : TE := fun σ H Q => ta σ H fun x H1 => ∃ (l : Addr) (xs : List (List Nat)), x = V.ref l ∧ SqL K H1 l (txs xs) ∧ xs.length < 60 ∧ Q (.int (cntT (xs.map S) xs.length : Nat)) H1
theorem pe_lenSetG {a : Expr} {ta : TE} {p p2 q pos : Pos} (hc : X.calm = true) (hg : Gl X "len") (hm : X.mg "len" = none) (hg2 : Gl X "set") (hm2 : X.mg "set" = none) (ha : PE X a ta)
    (na : starEach [a] X.env = (false, eval a X.env) :: starEach [] X.env := by rfl) : PE X (.Call (.Name "len" p) [.Call (.Name "set" p2) [a] [] q] [] pos) (tLenSetG X.K ta) := by
  refine ⟨fun pins s σ H Q I h => ?_⟩
  refine Call_ (ld_blt I hg hm PySem.boot_len (PyProof.Rows.callWith_builtin1 (PyProof.Rows.args_cons ?_ rfl) rfl rfl))
  refine Call_ (ld_blt I hg2 hm2 PyProof.Rows.boot_set (PyProof.Rows.callWith_type1 (PyProof.Rows.args_cons (thn (ha.run pins s σ H _ I h) fun v s1 ⟨x, H1, I1, r1, q1⟩ => PyProof.Rows.args_nil ?_) na) na rfl))
  obtain ⟨l, xs, rfl, hq, h1, q1⟩ := q1
  cases r1
  have e0 : txs xs = (xs.map S).map V.str := by unfold txs; rw [List.map_map]; rfl
  have room : (xs.map S).length < scanBound := by rw [List.length_map]; unfold scanBound; omega
  rw [e0] at hq
  obtain ⟨its, r, pl, hz⟩ := I1.list hq
  refine set_of_listG (I1.ok.hd hc) pl.isList (by simpa using strsAre_of r) room fun h' tk hS hk => ?_
  refine PyProof.Rows.args_nil ?_
  obtain ⟨o, es, ep, t, ho, hex, hd, _, _, _, hf, hn⟩ := hS
  have I2 : Inv X pins σ H1 { s1 with heap := h', toks := tk } := I1.kept hk
  rw [List.length_map] at hn
  have := cntT_le (xs.map S) xs.length
  exact call_len_set ho hex hd hf (by rw [hn]; omega) ⟨.int (cntT (xs.map S) xs.length : Nat), H1, I2.tok _, ⟨_, by rw [hn]⟩, q1⟩
end
end LX
set_option maxHeartbeats 2000000
namespace Toy
open PySem L2 C8 SX LX
local macro_rules | `(tactic| walk_at "c") => `(tactic| refine And.intro (by first | (show (0 : Int) < _; omega) | exact Or.inr ⟨by decide, by decide⟩ | exact Or.inl ⟨by decide, by decide⟩ | (exact ⟨by omega, by omega⟩)) ?_)
local macro_rules | `(tactic| walk_at "s1") => `(tactic| first | refine ⟨_, rfl, ?_⟩ | refine ⟨_, _, rfl, rfl, ?_⟩ | refine .inl ⟨_, rfl, ?_⟩ | walk_at "c")
local macro_rules | `(tactic| walk_at "s") => `(tactic| repeat (walk_at "s1"))
theorem all_false : ∀ {ys : List V}, (∀ (j : Nat) y, ys[j]? = some y → y = .bl false) → ys = (List.replicate ys.length false).map V.bl
  | [], _ => rfl
  | y :: ys, h => by
    rw [List.length_cons, List.replicate_succ, List.map_cons, ← all_false (ys := ys) fun j z e => h (j + 1) z e, h 0 y rfl]
theorem rep_none {n : Nat} (h : 1 ≤ n) : (List.replicate n false).all id = false := by
  cases n with
  | zero => omega
  | succ n => simp [List.replicate_succ]
theorem dpa_txs {K : PySem.W.Frag} {H : Hp} : ∀ {ms : List (List Nat)} {xs : List V}, DpAll K H xs (ms.map fun m => .str (S m)) → xs = txs ms
  | [], _, h => by cases h; rfl
  | m :: ms, _, h => by
    cases h with
    | cons h1 h2 => cases h1; rw [dpa_txs h2]; rfl
theorem cnt_take {xs : List Str} : ∀ n, n ≤ xs.length → cntT xs n = n → (xs.take n).Nodup
  | 0, _, _ => by rw [List.take_zero]; exact List.nodup_nil
  | n + 1, hn, h => by
    have hx : xs[n]? = some xs[n] := List.getElem?_eq_getElem (by omega)
    have e := cntT_succ hx
    have hle := cntT_le xs n
    by_cases q : xs[n] ∈ xs.take n
    · rw [decide_eq_true q, if_pos rfl, h] at e; omega
    · rw [decide_eq_false q, if_neg Bool.false_ne_true, h] at e
      have ih := cnt_take (xs := xs) n (by omega) (by omega)
      rw [List.take_succ, hx]
      show (xs.take n ++ [xs[n]]).Nodup
      rw [List.nodup_append]
      exact ⟨ih, by simp, fun a ha b hb => by rw [List.mem_singleton.mp hb]; exact fun e => q (e ▸ ha)⟩
theorem nodup_of_map {f : List Nat → Str} : ∀ {ms : List (List Nat)}, (ms.map f).Nodup → ms.Nodup
  | [], _ => List.nodup_nil
  | m :: ms, h => by
    rw [List.map_cons, List.nodup_cons] at h
    exact List.nodup_cons.mpr ⟨fun hm => h.1 (List.mem_map.mpr ⟨m, hm, rfl⟩), nodup_of_map h.2⟩
theorem cnt_nodup {ms : List (List Nat)} (h : cntT (ms.map S) ms.length = ms.length) : ms.Nodup := by
  have h1 := cnt_take (xs := ms.map S) ms.length (by rw [List.length_map]; exact Nat.le_refl _) h
  rw [List.take_of_length_le (by rw [List.length_map]; exact Nat.le_refl _)] at h1
  exact nodup_of_map h1
section
variable {P : Program} {w : World} {K : PySem.W.Frag} {mg : Str → Option Value} {base : Heap}
def BadMk (d : PyData) : Prop := isSeqD d = false ∨ ∃ b ds, d = seqD b ds ∧ ds.length < 60 ∧ (∀ x ∈ ds, Sm (txtO x)) ∧ (ds = [] ∨ (∃ x ∈ ds, nameO (txtO x) = false) ∨ (b = true ∧ ∃ ms : List (List Nat), (∀ m ∈ ms, Name m) ∧ ¬ ms.Nodup ∧ ds = ms.map fun m => .str (S m)))
def spIsMarksD (K : PySem.W.Frag) : Sp := fun vs H Q _ => ∃ (v : V) (d : PyData), vs = [v] ∧ Dp K H v d ∧ BadMk d ∧ ∀ H', Same H H' → Q (.bl false) H'
theorem ok_ismarksDF (T : BT mg) (c_isseq : Cal P w K mg base 1 "is_sequence" (spIsSeqD K) []) (c_isname : Cal P w K mg base 3 "is_name" (spIsNameD K) []) {f : Addr} {fd : FuncData} (F : Def K mg "_is_marks" s_ismarks f fd) (b : Binds K fd ["value"] []) : FnOk P w K mg base C8.CX0 4 f fd ["value"] (spIsMarksD K) := by
  refine fn0 F.fn sc_ismarks (fun vs H Q E h => ?_) (fun cdv A outer s H vs Q E hr h => ?_)
  · obtain ⟨v, d, rfl, _⟩ := h; rfl
  · obtain ⟨v, d, rfl, hd, hb, k⟩ := h
    refine ⟨_, (pss_cons (ps_if (PW.pt (pw_or (pt_not (pt_val (pe_c c_isseq hr (by first | decide | omega) (by rfl) (pa_cons (pv 0) pa_nil)))) (pw_or (pt_cmpR op_eq (pe_callB (lenK K) (by rfl) T.m_len PySem.boot_len (pa_cons (pv 0) pa_nil)) pe_int (nomark _)) (pw_or1 (pt_not (pt_val (pe_callB (cr_all rfl) (by rfl) T.m_all PyProof.Rows.boot_all (pa_cons (pe_lc (own := [("mark", 1)]) rfl sc_ismarks.nd (pi_seq (pv 0)) (blkOk_by (N := n_ismarks) (sc := fnScope s_ismarks) (by decide +kernel)) (fun _ _ _ _ _ => (pg_name (i := 1) sc_ismarks.nd rfl (.inl rfl))) (fun _ _ _ _ _ => pts_nil) (fun _ _ _ _ _ => (pe_c c_isname hr (by first | decide | omega) (by rfl) (pa_cons (pv 1) pa_nil)))) pa_nil)))))))) 
        (pss_one (ps_ret pe_bl)
        )
       pss_nil)
      (pss_one (ps_ret (pe_cmpR op_eq (pe_lenSetG rfl (by rfl) T.m_len (by rfl) T.m_set (pv 0)) (pe_callB (lenK K) (by rfl) T.m_len PySem.boot_len (pa_cons (pv 0) pa_nil)) (nomark _)))
      )), ?_⟩
    refine ⟨_, rfl, v, d, rfl, hd, fun H1 s1 => ?_⟩
    rcases hb with hb | ⟨b, ds, rfl, h60, hsm, hb⟩
    · exact ⟨_, rfl, iteB (by rw [hb]; rfl) (k H1 s1)⟩
    obtain ⟨p, xs, rfl, hq, ha⟩ := dp_seq (dp_same s1 _ _ hd)
    have hl := dpa_len ha
    refine ⟨_, rfl, iteN (by cases b <;> rfl) ?_⟩
    refine ⟨_, rfl, p, _, rfl, hq.or, rfl, _, rfl, ?_⟩
    by_cases he : ds = []
    · subst he
      exact iteB (by rw [hl]; rfl) (k H1 s1)
    have hpos : 1 ≤ ds.length := by
      cases ds with
      | nil => exact absurd rfl he
      | cons _ _ => simp
    refine iteN (decide_eq_false fun h => by have := V.int.inj h; omega) ?_
    refine ⟨_, rfl, p, b, xs, rfl, hq, fun D hD => lc_keep keep_same (walk_seq (K := K) (b := b) (a := p) (xs := xs)) hD (by rw [hl]; exact small1000 (by omega)) (fun j y => ∀ x, ds[j]? = some x → y = .bl (nameO (txtO x))) (fun H2 r => hq.same r) (fun i x H2 H3 R hii r1 hy hR => ?_) (fun ys H2 hly hg r1 hDs => ?_)⟩
    · obtain ⟨rfl, e⟩ := hy
      obtain ⟨d, e2, hd2⟩ := dpa_at ha i x e
      refine ⟨rfl, ?_⟩
      refine ⟨_, rfl, x, _, rfl, dp_kv (dp_same r1 _ _ hd2), hsm _ (List.mem_of_getElem? e2), ?_⟩
      exact hR _ _ (Same.refl _) fun z hz => by rw [e2] at hz; cases hz; rfl
    · have eb : ys = (ds.map fun x => nameO (txtO x)).map V.bl := by
        rw [List.map_map]
        refine list_map (hly.trans hl) fun j y x e1 e2 => hg j y e1 x e2
      refine ⟨D, ds.map fun x => nameO (txtO x), rfl, SqL.of (by rw [← eb]; exact hDs), ?_⟩
      rcases hb with hb | ⟨x, hx, hn⟩ | ⟨rfl, ms, hms, hnd, rfl⟩
      · exact absurd hb he
      · have e : ((ds.map fun x => nameO (txtO x)).all id) = false := by
          rw [List.all_map, Bool.eq_false_iff]
          intro h
          have := List.all_eq_true.mp h x hx
          rw [show (id ∘ fun x => nameO (txtO x)) x = nameO (txtO x) from rfl, hn] at this
          cases this
        rw [e]
        exact ⟨_, rfl, k H2 (s1.trans r1)⟩
      · have e : (((ms.map fun m => PyData.str (S m)).map fun x => nameO (txtO x)).all id) = true := by
          rw [List.map_map, List.all_map, List.all_eq_true]
          intro m hm
          exact decide_eq_true (show Name (S m).cps.toList by simpa [S] using hms m hm)
        rw [e]
        refine ⟨_, rfl, ?_⟩
        have hxs : xs = txs ms := dpa_txs ha
        subst hxs
        have hq2 : SqL K H2 p (txs ms) := hq.same r1
        refine ⟨_, rfl, p, ms, rfl, hq2, by rw [List.length_map] at h60; omega, ?_⟩
        refine ⟨_, rfl, p, _, rfl, .inl hq2, rfl, ?_⟩
        have e2 : decide (V.int ((cntT (ms.map S) ms.length : Nat) : Int) = V.int ((txs ms).length : Nat)) = false := by
          refine decide_eq_false fun h => hnd ?_
          have := V.int.inj h
          rw [txs_len] at this
          exact cnt_nodup (by omega)
        rw [e2]
        exact k H2 (s1.trans r1)
theorem fn_or {k : Nat} {f : Addr} {fd : FuncData} {ps : List Str} {sp1 sp2 : Sp} (F1 : FnOk P w K mg base C8.CX0 k f fd ps sp1) (F2 : FnOk P w K mg base C8.CX0 k f fd ps sp2) : FnOk P w K mg base C8.CX0 k f fd ps (fun vs H Q E => sp1 vs H Q E ∨ sp2 vs H Q E) :=
  ⟨fun vs H Q E h => h.elim (F1.len vs H Q E) (F2.len vs H Q E), fun A outer s H args us vs Q E hr he hb hv h => h.elim (F1.run A outer s H args us vs Q E hr he hb hv) (F2.run A outer s H args us vs Q E hr he hb hv)⟩
def spMarksA (K : PySem.W.Frag) : Sp := fun vs H Q E => spIsMarks vs H Q E ∨ spIsMarksD K vs H Q E
theorem ok_marksA (T : BT mg) (c_isseq : Cal P w K mg base 1 "is_sequence" spIsSeq []) (c_isname : Cal P w K mg base 3 "is_name" spIsName []) (c_isseqD : Cal P w K mg base 1 "is_sequence" (spIsSeqD K) []) (c_isnameD : Cal P w K mg base 3 "is_name" (spIsNameD K) []) {f : Addr} {fd : FuncData} (F : Def K mg "_is_marks" s_ismarks f fd) (b : Binds K fd ["value"] []) : Cal P w K mg base 4 "_is_marks" (spMarksA K) [] :=
  ⟨f, fd, _, _, fn_or (ok_ismarksF T c_isseq c_isname F b) (ok_ismarksDF T c_isseqD c_isnameD F b), F.mgf, F.kp, b, .nil⟩
def FlatIt (x : PyData) : Prop := x = .none ∨ ∃ l : List Nat, x = .str (S l)
def itO (ms : List (List Nat)) : PyData → Bool
  | .str s => decide (s.cps.toList ∈ ms)
  | _ => false
theorem flat_it {K : PySem.W.Frag} {H : Hp} {v : V} {x : PyData} {ms : List (List Nat)} (h : Dp K H v x) (b : FlatIt x) : flatV v = true ∧ inV v (txs ms) = itO ms x := by
  rcases b with rfl | ⟨l, rfl⟩
  · cases h
    refine ⟨rfl, ?_⟩
    show inV .non (txs ms) = false
    unfold inV txs
    rw [List.any_map, Bool.eq_false_iff]
    intro h
    obtain ⟨m, _, h⟩ := List.any_eq_true.mp h
    cases h
  · cases h
    exact ⟨rfl, by rw [inV_txs]; show _ = decide ((S l).cps.toList ∈ ms); simp [S]⟩
def tgO (n : Nat) (ms : List (List Nat)) : PyData → Bool
  | .list ds => decide (ds.length = n) && ds.all (itO ms)
  | .tuple ds => decide (ds.length = n) && ds.all (itO ms)
  | _ => false
theorem tgO_seq (n : Nat) (ms : List (List Nat)) (b : Bool) (ds : List PyData) : tgO n ms (seqD b ds) = (decide (ds.length = n) && ds.all (itO ms)) := by cases b <;> rfl
def OkTg (d : PyData) : Prop := ∀ b ds, d = seqD b ds → ds.length < 60 ∧ ∀ x ∈ ds, FlatIt x
def spIsTargetsD (K : PySem.W.Frag) : Sp := fun vs H Q _ => ∃ (v : V) (d : PyData) (q : Addr) (c : Bool) (ms : List (List Nat)) (sg : List Nat), vs = [v, .str (S sg), .ref q] ∧ Dp K H v d ∧ H q = some (seqB c (txs ms)) ∧ sg.length ≤ 3 ∧ OkTg d ∧ ∀ H', Same H H' → Q (.bl (tgO sg.length ms d)) H'
theorem ok_istargetsD (T : BT mg) (c_isseq : Cal P w K mg base 1 "is_sequence" (spIsSeqD K) []) {f : Addr} {fd : FuncData} (F : Def K mg "_is_targets" s_istargets f fd) (b : Binds K fd ["value", "signs", "marks"] []) : Cal P w K mg base 2 "_is_targets" (spIsTargetsD K) [] := by
  refine cal0 F b .nil sc_istargets (fun vs H Q E h => ?_) (fun cdv A outer s H vs Q E hr h => ?_)
  · obtain ⟨v, d, q, c, ms, sg, rfl, _⟩ := h; rfl
  · obtain ⟨v, d, q, c, ms, sg, rfl, hd, hqm, hl3, hb, k⟩ := h
    refine ⟨_, (pss_cons (ps_if (PW.pt (pw_or (pt_not (pt_val (pe_c c_isseq hr (by first | decide | omega) (by rfl) (pa_cons (pv 0) pa_nil)))) (pw_or1 (pt_cmpR op_ne (pe_callB (lenK K) (by rfl) T.m_len PySem.boot_len (pa_cons (pv 0) pa_nil)) (pe_callB call_len_str (by rfl) T.m_len PySem.boot_len (pa_cons (pv 1) pa_nil)) (nomark _))))) 
        (pss_one (ps_ret pe_bl)
        )
       pss_nil)
      (pss_one (ps_ret (pe_callB (cr_all rfl) (by rfl) T.m_all PyProof.Rows.boot_all (pa_cons (pe_lc (own := [("mark", 3)]) rfl sc_istargets.nd (pi_seq (pv 0)) (blkOk_by (N := n_istargets) (sc := fnScope s_istargets) (by decide +kernel)) (fun _ _ _ _ _ => (pg_name (i := 3) sc_istargets.nd rfl (.inl rfl))) (fun _ _ _ _ _ => pts_nil) (fun _ _ _ _ _ => (pe_cmpR (inK K) (pv 3) (pv 2) rfl))) pa_nil)))
      )), ?_⟩
    refine ⟨_, rfl, v, d, rfl, hd, fun H1 s1 => ?_⟩
    by_cases hs : isSeqD d = false
    · have e : tgO sg.length ms d = false := by cases d <;> first | rfl | cases hs
      rw [e] at k
      exact ⟨_, rfl, iteB (by rw [hs]; rfl) (k H1 s1)⟩
    rw [Bool.not_eq_false] at hs
    obtain ⟨b, ds, rfl⟩ := isSeq_of hs
    obtain ⟨h60, hfl⟩ := hb b ds rfl
    rw [tgO_seq] at k
    obtain ⟨p, xs, rfl, hq, ha⟩ := dp_seq (dp_same s1 _ _ hd)
    have hl := dpa_len ha
    refine ⟨_, rfl, iteN (by cases b <;> rfl) ?_⟩
    refine ⟨_, rfl, p, _, rfl, hq.or, _, rfl, _, rfl, by rw [S_len]; exact sz (m := 3) hl3 (by decide), rfl, _, rfl, ?_⟩
    by_cases hn : ds.length = sg.length
    · refine iteN (by rw [hl, S_len, hn]; simp) ?_
      rw [decide_eq_true hn, Bool.true_and] at k
      have hC1 : SqB K c H1 q (txs ms) := all_of hqm s1
      refine ⟨_, rfl, p, b, xs, rfl, hq, fun D hD => lc_keep keep_same (walk_seq (K := K) (b := b) (a := p) (xs := xs)) hD (by rw [hl]; exact small1000 (by omega)) (fun j y => ∀ x, ds[j]? = some x → y = .bl (itO ms x)) (fun H2 r => hq.same r) (fun i x H2 H3 R hii r1 hy hR => ?_) (fun ys H2 hly hg r1 hDs => ?_)⟩
      · obtain ⟨rfl, e⟩ := hy
        obtain ⟨d, e2, hd2⟩ := dpa_at ha i x e
        obtain ⟨f1, f2⟩ := flat_it (ms := ms) hd2 (hfl d (List.mem_of_getElem? e2))
        refine ⟨rfl, ?_⟩
        refine ⟨_, rfl, _, rfl, q, txs ms, rfl, (hC1.same r1).or, f1, flat_txs _, ?_⟩
        refine hR _ _ (Same.refl _) fun z hz => ?_
        rw [e2] at hz; cases hz
        rw [f2]; rfl
      · have eb : ys = (ds.map fun x => itO ms x).map V.bl := by
          rw [List.map_map]
          refine list_map (hly.trans hl) fun j y x e1 e2 => hg j y e1 x e2
        refine ⟨D, ds.map fun x => itO ms x, rfl, SqL.of (by rw [← eb]; exact hDs), ?_⟩
        rw [List.all_map]
        exact k H2 (s1.trans r1)
    · rw [decide_eq_false hn, Bool.false_and] at k
      exact iteB (by rw [hl, S_len]; simp; omega) (k H1 s1)
def stO (n : Nat) (ms : List (List Nat)) : PyData → Bool
  | .list ds => decide (ds.length = ms.length) && ds.all (tgO n ms)
  | .tuple ds => decide (ds.length = ms.length) && ds.all (tgO n ms)
  | _ => false
theorem stO_seq (n : Nat) (ms : List (List Nat)) (b : Bool) (ds : List PyData) : stO n ms (seqD b ds) = (decide (ds.length = ms.length) && ds.all (tgO n ms)) := by cases b <;> rfl
def OkSt (d : PyData) : Prop := ∀ b ds, d = seqD b ds → ds.length < 60 ∧ ∀ x ∈ ds, OkTg x
def BadSt (n : Nat) (ms : List (List Nat)) (d : PyData) : Prop := OkSt d ∧ stO n ms d = false
def spIsStepsD (K : PySem.W.Frag) : Sp := fun vs H Q _ => ∃ (v : V) (d : PyData) (q : Addr) (c : Bool) (ms : List (List Nat)) (sg : List Nat), vs = [v, .str (S sg), .ref q] ∧ Dp K H v d ∧ H q = some (seqB c (txs ms)) ∧ sg.length ≤ 3 ∧ BadSt sg.length ms d ∧ ∀ H', Same H H' → Q (.bl false) H'
theorem ok_isstepsD (T : BT mg) (c_isseq : Cal P w K mg base 1 "is_sequence" (spIsSeqD K) []) (c_istargets : Cal P w K mg base 2 "_is_targets" (spIsTargetsD K) []) {f : Addr} {fd : FuncData} (F : Def K mg "_is_steps" s_issteps f fd) (b : Binds K fd ["value", "signs", "marks"] []) : Cal P w K mg base 3 "_is_steps" (spIsStepsD K) [] := by
  refine cal0 F b .nil sc_issteps (fun vs H Q E h => ?_) (fun cdv A outer s H vs Q E hr h => ?_)
  · obtain ⟨v, d, q, c, ms, sg, rfl, _⟩ := h; rfl
  · obtain ⟨v, d, q, c, ms, sg, rfl, hd, hqm, hl3, ⟨hb, hbad⟩, k⟩ := h
    refine ⟨_, (pss_cons (ps_if (PW.pt (pw_or (pt_not (pt_val (pe_c c_isseq hr (by first | decide | omega) (by rfl) (pa_cons (pv 0) pa_nil)))) (pw_or1 (pt_cmpR op_ne (pe_callB (lenK K) (by rfl) T.m_len PySem.boot_len (pa_cons (pv 0) pa_nil)) (pe_callB (lenK K) (by rfl) T.m_len PySem.boot_len (pa_cons (pv 2) pa_nil)) (nomark _))))) 
        (pss_one (ps_ret pe_bl)
        )
       pss_nil)
      (pss_one (ps_ret (pe_callB (cr_all rfl) (by rfl) T.m_all PyProof.Rows.boot_all (pa_cons (pe_lc (own := [("targets", 3)]) rfl sc_issteps.nd (pi_seq (pv 0)) (blkOk_by (N := n_issteps) (sc := fnScope s_issteps) (by decide +kernel)) (fun _ _ _ _ _ => (pg_name (i := 3) sc_issteps.nd rfl (.inl rfl))) (fun _ _ _ _ _ => pts_nil) (fun _ _ _ _ _ => (pe_c c_istargets hr (by first | decide | omega) (by rfl) (pa_cons (pv 3) (pa_cons (pv 1) (pa_cons (pv 2) pa_nil)))))) pa_nil)))
      )), ?_⟩
    refine ⟨_, rfl, v, d, rfl, hd, fun H1 s1 => ?_⟩
    by_cases hs : isSeqD d = false
    · exact ⟨_, rfl, iteB (by rw [hs]; rfl) (k H1 s1)⟩
    rw [Bool.not_eq_false] at hs
    obtain ⟨b, ds, rfl⟩ := isSeq_of hs
    obtain ⟨h60, hfl⟩ := hb b ds rfl
    rw [stO_seq] at hbad
    obtain ⟨p, xs, rfl, hq, ha⟩ := dp_seq (dp_same s1 _ _ hd)
    have hl := dpa_len ha
    have hC1 : SqB K c H1 q (txs ms) := all_of hqm s1
    refine ⟨_, rfl, iteN (by cases b <;> rfl) ?_⟩
    refine ⟨_, rfl, p, _, rfl, hq.or, _, rfl, q, _, rfl, hC1.or, rfl, _, rfl, ?_⟩
    by_cases hn : ds.length = ms.length
    · refine iteN (by rw [hl, txs_len, hn]; simp) ?_
      rw [decide_eq_true hn, Bool.true_and] at hbad
      refine ⟨_, rfl, p, b, xs, rfl, hq, fun D hD => lc_keep keep_same (walk_seq (K := K) (b := b) (a := p) (xs := xs)) hD (by rw [hl]; exact small1000 (by omega)) (fun j y => ∀ x, ds[j]? = some x → y = .bl (tgO sg.length ms x)) (fun H2 r => hq.same r) (fun i x H2 H3 R hii r1 hy hR => ?_) (fun ys H2 hly hg r1 hDs => ?_)⟩
      · obtain ⟨rfl, e⟩ := hy
        obtain ⟨d, e2, hd2⟩ := dpa_at ha i x e
        refine ⟨rfl, ?_⟩
        refine ⟨_, rfl, _, rfl, _, rfl, x, d, q, c, ms, sg, rfl, dp_same r1 _ _ hd2, (s1.trans r1) _ _ hqm, hl3, hfl d (List.mem_of_getElem? e2), fun H4 s4 => hR _ _ s4 fun z hz => ?_⟩
        rw [e2] at hz; cases hz; rfl
      · have eb : ys = (ds.map fun x => tgO sg.length ms x).map V.bl := by
          rw [List.map_map]
          refine list_map (hly.trans hl) fun j y x e1 e2 => hg j y e1 x e2
        refine ⟨D, ds.map fun x => tgO sg.length ms x, rfl, SqL.of (by rw [← eb]; exact hDs), ?_⟩
        rw [List.all_map]
        rw [show (ds.all (id ∘ fun x => tgO sg.length ms x)) = false from hbad]
        exact k H2 (s1.trans r1)
    · exact iteB (by rw [hl, txs_len]; simp; omega) (k H1 s1)
end
end Toy
set_option maxHeartbeats 2000000
namespace Toy
open PySem L2 C8 SX LX
local macro_rules | `(tactic| walk_at "c") => `(tactic| refine And.intro (by first | (show (0 : Int) < _; omega) | exact Or.inr ⟨by decide, by decide⟩ | exact Or.inl ⟨by decide, by decide⟩ | (exact ⟨by omega, by omega⟩)) ?_)
local macro_rules | `(tactic| walk_at "s1") => `(tactic| first | refine ⟨_, rfl, ?_⟩ | refine ⟨_, _, rfl, rfl, ?_⟩ | refine .inl ⟨_, rfl, ?_⟩ | walk_at "c")
local macro_rules | `(tactic| walk_at "s") => `(tactic| repeat (walk_at "s1"))
theorem op_notInDK {X : Cx} {j : Nat} (K : PySem.W.Frag) (hr : Room j X.A) (h : X.K = K := by rfl) : OpR X (compareOp .NotIn) (rNotInD K) := by subst h; exact op_notInD (by have := hr.un; omega)
structure XQ (K : PySem.W.Frag) (mg : Str → Option Value) (n : Str) (C : Addr) : Prop where
  x : XC K C
  g : mg n = some (.ref C)
structure XN (K : PySem.W.Frag) (mg : Str → Option Value) (n : Str) (C : Addr) : Prop where
  q : PySem.W.excIn K C veT "ValueError.__new__" = true
  g : mg n = some (.ref C)
  k : PySem.W.keepIn K (.ref C) = true
  hb : PySem.W.subIn K (.ref C) (.type "BaseException") = some true
  ht : PySem.W.typeIn K (.ref C) = some (.type "type")
theorem XN.r {K : PySem.W.Frag} {mg : Str → Option Value} {n : Str} {C : Addr} (h : XN K mg n C) {X : Cx} (hX : X.K = K := by rfl) : Raises X (.ref C) := raises_own (by rw [hX]; exact h.hb) (by rw [hX]; exact h.ht)
def spXInit (C : Addr) (f : Str) : Sp := fun vs H Q _ => ∃ (a : Addr) (v : V), vs = [.ref a, v] ∧ H a = some (exo a C none) ∧ ∀ dx, H dx = none → dx ≠ a → Q .non (upd (upd H dx (exd dx [(f, v)])) a (exo a C (some dx)))
theorem exo_ne_exd {a C d : Addr} {dd : Option Addr} {fs : List (Str × V)} {H : Hp} (h1 : H a = none) : (upd H a (exo a C dd)) a ≠ none := by rw [upd_same]; simp
theorem raise_read {C : Addr} {f : Str} {v : V} {H : Hp} {Q : XK} (k : ∀ d, H d = none → Q (.ref C) (some d) (upd H d (.xd [(f, v)]))) (a : Addr) (ha : H a = none) :
    spXInit C f (.ref a :: ([v] ++ [])) (upd H a (exo a C none)) (fun v H2 => v = .non ∧ ∃ (d : Addr) (fs : List (Str × V)), H2 a = some (exo a C (some d)) ∧ H2 d = some (exd d fs) ∧ H d = none ∧ Q (.ref C) (some d) (upd (del H2 a) d (.xd fs))) (fun _ _ _ => False) := by
  refine ⟨a, v, rfl, upd_same, fun dx hdx nda => ⟨rfl, dx, [(f, v)], upd_same, by rw [upd_ne nda, upd_same], by rw [upd_ne nda] at hdx; exact hdx, ?_⟩⟩
  rw [upd_ne nda] at hdx
  have e : upd (del (upd (upd (upd H a (exo a C none)) dx (exd dx [(f, v)])) a (exo a C (some dx))) a) dx (.xd [(f, v)]) = upd H dx (.xd [(f, v)]) := by
    funext b
    by_cases h1 : b = dx
    · rw [h1, upd_same, upd_same]
    · rw [upd_ne h1, upd_ne h1]
      by_cases h2 : b = a
      · rw [h2, del_same, ha]
      · rw [del_ne h2, upd_ne h2, upd_ne h1, upd_ne h2]
  rw [e]
  exact k dx hdx
section
variable {P : Program} {w : World} {K : PySem.W.Frag} {mg : Str → Option Value} {base : Heap}
abbrev s_xir : Stmt := inClass (top 3) 0
abbrev n_xir : List Str := ["self", "word"]
theorem sc_xir : FnScope n_xir ["self", "word"] (fnScope s_xir) := fnScope_by (by decide +kernel)
theorem ok_xir {C : Addr} (x_ : XQ K mg "InvalidReader" C) (n_ : PySem.W.findIn K (.ref C) "word" = some none) {f : Addr} (iC : PySem.W.findIn K (.ref C) "__init__" = some (some (.ref f))) (tI : PySem.W.typeIn K (.ref f) = some (.type "function")) {fd : FuncData} (F : C8.Fun K "__init__" "InvalidReader.__init__" s_xir f fd) (b : Binds K fd ["self", "word"] []) : RaiX P w K mg base 1 "InvalidReader" C (spXInit C "word") := by
  refine raiX x_.x iC tI x_.g F b sc_xir (fun vs H Q E h => ?_) (fun cdv A outer s H vs Q E hr h => ?_)
  · obtain ⟨a, v, rfl, _⟩ := h; rfl
  · obtain ⟨a, v, rfl, ha, k⟩ := h
    refine ⟨_, (pss_one (ps_ostG (pv 0) (pv 1))
      ), ?_⟩
    exact ⟨_, rfl, _, rfl, a, C, rfl, x_.x, n_, ha, fun dx h1 h2 => k dx h1 h2⟩
abbrev s_xnm : Stmt := inClass (top 6) 0
abbrev n_xnm : List Str := ["self", "mark"]
theorem sc_xnm : FnScope n_xnm ["self", "mark"] (fnScope s_xnm) := fnScope_by (by decide +kernel)
theorem ok_xnm {C : Addr} (x_ : XQ K mg "NoMark" C) (n_ : PySem.W.findIn K (.ref C) "mark" = some none) {f : Addr} (iC : PySem.W.findIn K (.ref C) "__init__" = some (some (.ref f))) (tI : PySem.W.typeIn K (.ref f) = some (.type "function")) {fd : FuncData} (F : C8.Fun K "__init__" "NoMark.__init__" s_xnm f fd) (b : Binds K fd ["self", "mark"] []) : RaiX P w K mg base 1 "NoMark" C (spXInit C "mark") := by
  refine raiX x_.x iC tI x_.g F b sc_xnm (fun vs H Q E h => ?_) (fun cdv A outer s H vs Q E hr h => ?_)
  · obtain ⟨a, v, rfl, _⟩ := h; rfl
  · obtain ⟨a, v, rfl, ha, k⟩ := h
    refine ⟨_, (pss_one (ps_ostG (pv 0) (pv 1))
      ), ?_⟩
    exact ⟨_, rfl, _, rfl, a, C, rfl, x_.x, n_, ha, fun dx h1 h2 => k dx h1 h2⟩
end
end Toy
set_option maxHeartbeats 2000000
namespace Toy
open PySem L2 C8 SX LX
local macro_rules | `(tactic| walk_at "c") => `(tactic| refine And.intro (by first | (show (0 : Int) < _; omega) | exact Or.inr ⟨by decide, by decide⟩ | exact Or.inl ⟨by decide, by decide⟩ | (exact ⟨by omega, by omega⟩)) ?_)
local macro_rules | `(tactic| walk_at "s1") => `(tactic| first | refine ⟨_, rfl, ?_⟩ | refine ⟨_, _, rfl, rfl, ?_⟩ | refine .inl ⟨_, rfl, ?_⟩ | walk_at "c")
local macro_rules | `(tactic| walk_at "s") => `(tactic| repeat (walk_at "s1"))
theorem Sm_sg {sg : List Nat} (h : Sg sg) : Sm (some sg) := fun l e => by cases e; have := h.2.2.1; omega
section
variable {P : Program} {w : World} {K : PySem.W.Frag} {mg : Str → Option Value} {base : Heap}
def BadRd (K : PySem.W.Frag) (H : Hp) (v0 v1 v2 v3 : V) (wd : Str) : Prop :=
  (wd = "signs" ∧ ∃ o, Kv K H v0 o ∧ Sm o ∧ sgO o = false) ∨ ∃ sg : List Nat, v0 = .str (S sg) ∧ Sg sg ∧
    ((wd = "marks" ∧ ∃ d, Dp K H v1 d ∧ BadMk d) ∨ ∃ (q : Addr) (ms : List (List Nat)), v1 = .ref q ∧ H q = some (.lst (txs ms)) ∧ 1 ≤ ms.length ∧ ms.length < 60 ∧ ms.Nodup ∧ (∀ m ∈ ms, Name m) ∧
      ((wd = "first" ∧ ∃ d, Dp K H v2 d ∧ SeqAt.shaped d = true ∧ ∀ m ∈ ms, PyData.eqv (.str (S m)) d = false) ∨ ∃ f : List Nat, v2 = .str (S f) ∧ f ∈ ms ∧ wd = "steps" ∧ ∃ d, Dp K H v3 d ∧ BadSt sg.length ms d))
theorem dpa_strs {K : PySem.W.Frag} {H : Hp} : ∀ ms : List (List Nat), DpAll K H (txs ms) (ms.map fun m => .str (S m))
  | [] => .nil
  | m :: ms => .cons (.str _) (dpa_strs ms)
theorem shaped_str {l : List Nat} (h : ∀ c ∈ l, c < 1114112) : SeqAt.shaped (.str (S l)) = true := by
  show ((S l).cps.all (· < 0x110000) && decide (0 ≤ 64)) = true
  rw [Bool.and_eq_true]
  refine ⟨?_, rfl⟩
  rw [← Array.all_toList, List.all_eq_true]
  exact fun c hc => decide_eq_true (h c hc)
theorem small_name {m : List Nat} (h : Name m) : ∀ c ∈ m, c < 1114112 := fun c hc => by have := h.2.2.1 c hc; omega
theorem small_names {ms : List (List Nat)} (h : ∀ m ∈ ms, Name m) : Small ms := fun m hm => small_name (h m hm)
def spInitB (K : PySem.W.Frag) (C CI : Addr) : Sp := fun vs H _ E => ∃ (a dx : Addr) (v0 v1 v2 v3 : V) (wd : Str), vs = [.ref a, v0, v1, v2, v3] ∧ H a = some (.ins C dx []) ∧ BadRd K H v0 v1 v2 v3 wd ∧
  ∀ (d : Addr) (H' : Hp), Same H H' → H' d = some (.xd [("word", .str wd)]) → E (.ref CI) (some d) H'
theorem ok_initB {C CI : Addr} (T : BT mg) (CH : CR K C) (c_InvalidReader : RaiX P w K mg base 1 "InvalidReader" CI (spXInit CI "word")) (c_issigns : Cal P w K mg base 3 "is_signs" (spIsSignsD K) []) (c_ismarks : Cal P w K mg base 4 "_is_marks" (spMarksA K) []) (c_issteps : Cal P w K mg base 3 "_is_steps" (spIsStepsD K) []) (c_table : Cal P w K mg base 2 "table_of" (spTable C) []) (c_cols : Cal P w K mg base 1 "columns_of" spCols []) {f : Addr} {fd : FuncData} (F : C8.Fun K "__init__" "Reader.__init__" s_init f fd) : FnOk P w K mg base (L2.CX P w) 5 f fd ["self", "signs", "marks", "first", "steps"] (spInitB K C CI) := by
  refine fnX F sc_init (fun vs H Q E h => ?_) (fun cdv A outer s H vs Q E hr h => ?_)
  · obtain ⟨a, dx, v0, v1, v2, v3, wd, rfl, _⟩ := h; rfl
  · obtain ⟨a, dx, v0, v1, v2, v3, wd, rfl, ha, hb, k⟩ := h
    refine ⟨_, (pss_cons (ps_if (pt_not (pt_val (pe_c c_issigns hr (by first | decide | omega) (by rfl) (pa_cons (pv 1) pa_nil)))) 
        (pss_one (ps_raise rfl (takes_of rfl rfl rfl rfl) (pmk_rai c_InvalidReader hr (by decide) (by rfl) (pa_cons pe_str pa_nil)))
        )
       pss_nil)
      (pss_cons (ps_if (pt_not (pt_val (pe_c c_ismarks hr (by first | decide | omega) (by rfl) (pa_cons (pv 2) pa_nil)))) 
        (pss_one (ps_raise rfl (takes_of rfl rfl rfl rfl) (pmk_rai c_InvalidReader hr (by decide) (by rfl) (pa_cons pe_str pa_nil)))
        )
       pss_nil)
      (pss_cons (ps_if (pt_cmpR (op_notInDK K hr) (pv 3) (pv 2) rfl) 
        (pss_one (ps_raise rfl (takes_of rfl rfl rfl rfl) (pmk_rai c_InvalidReader hr (by decide) (by rfl) (pa_cons pe_str pa_nil)))
        )
       pss_nil)
      (pss_cons (ps_if (pt_not (pt_val (pe_c c_issteps hr (by first | decide | omega) (by rfl) (pa_cons (pv 4) (pa_cons (pv 1) (pa_cons (pv 2) pa_nil)))))) 
        (pss_one (ps_raise rfl (takes_of rfl rfl rfl rfl) (pmk_rai c_InvalidReader hr (by decide) (by rfl) (pa_cons pe_str pa_nil)))
        )
       pss_nil)
      (pss_cons (ps_fld (pv 0) (pv 1) rfl)
      (pss_cons (ps_fld (pv 0) (pe_callTy (tupleK K) (by rfl) T.m_tuple PyProof.Rows.boot_tuple (pa_cons (pv 2) pa_nil)) rfl)
      (pss_cons (ps_fld (pv 0) (pv 3) rfl)
      (pss_cons (ps_fld (pv 0) (pe_callTy (tupleK K) (by rfl) T.m_tuple PyProof.Rows.boot_tuple (pa_cons (pe_lc (own := [("targets", 7)]) rfl sc_init.nd (pi_seq (pv 4)) (blkOk_by (N := n_init) (sc := fnScope s_init) (by decide +kernel)) (fun _ _ _ _ _ => (pg_name (i := 7) sc_init.nd rfl (.inl rfl))) (fun _ _ _ _ _ => pts_nil) (fun _ _ _ _ _ => (pe_callTy (tupleK K) (by rfl) T.m_tuple PyProof.Rows.boot_tuple (pa_cons (pv 7) pa_nil)))) pa_nil)) rfl)
      (pss_cons (ps_fld (pv 0) (pe_dc (own := [("at", 5), ("mark", 6)]) rfl sc_init.nd (pi_enumX (by rfl) T.m_enumerate (pa_cons (fldK K (pv 0) rfl) pa_nil)) (blkOk_by (N := n_init) (sc := fnScope s_init) (by decide +kernel)) (fun _ _ _ _ _ => (tupK K 2 (pgs_cons (pg_name (i := 5) sc_init.nd rfl (.inl rfl)) (pgs_cons (pg_name (i := 6) sc_init.nd rfl (.inl rfl)) pgs_nil)))) (fun _ _ _ _ _ => pts_nil) (fun _ _ _ _ _ => (pv 6)) (fun _ _ _ _ _ => (pv 5))) rfl)
      (pss_cons (ps_fld (pv 0) (pe_dc (own := [("mark", 6), ("targets", 7)]) rfl sc_init.nd (pi_zipX (by rfl) T.m_zip (pa_cons (fldK K (pv 0) rfl) (pa_cons (fldK K (pv 0) rfl) pa_nil))) (blkOk_by (N := n_init) (sc := fnScope s_init) (by decide +kernel)) (fun _ _ _ _ _ => (tupK K 2 (pgs_cons (pg_name (i := 6) sc_init.nd rfl (.inl rfl)) (pgs_cons (pg_name (i := 7) sc_init.nd rfl (.inl rfl)) pgs_nil)))) (fun _ _ _ _ _ => pts_nil) (fun _ _ _ _ _ => (pv 6)) (fun _ _ _ _ _ => (dictZipK K rfl (by rfl) T.m_dict (by rfl) T.m_zip (pa_cons (pv 1) (pa_cons (pv 7) pa_nil))))) rfl)
      (pss_one (ps_fld (pv 0) (pe_c c_cols hr (by first | decide | omega) (by rfl) (pa_cons (pv 1) (pa_cons (pe_c c_table hr (by first | decide | omega) (by rfl) (pa_cons (pv 0) pa_nil)) pa_nil))) rfl)
      ))))))))))), ?_⟩
    have out : ∀ (H1 : Hp), Same H H1 → ∀ (d : Addr), H1 d = none → E (.ref CI) (some d) (upd H1 d (.xd [("word", .str wd)])) := fun H1 s1 d hd => k d _ (s1.trans (sm_new hd)) upd_same
    rcases hb with ⟨rfl, o, hv, hs, hn⟩ | ⟨sg, rfl, hsg, hb⟩
    · refine ⟨_, rfl, v0, o, rfl, hv, hs, fun H1 s1 => ?_⟩
      rw [hn]
      refine ⟨_, rfl, iteB rfl ?_⟩
      exact ⟨by decide, raise_read (out H1 s1)⟩
    refine ⟨_, rfl, _, some sg, rfl, .txt sg, Sm_sg hsg, fun H1 s1 => ?_⟩
    rw [show sgO (some sg) = true from decide_eq_true hsg]
    refine ⟨_, rfl, iteN rfl ?_⟩
    rcases hb with ⟨rfl, d, hd, hm⟩ | ⟨q, ms, rfl, hq, h1, h60, hnd, hnm, hb⟩
    · refine ⟨_, rfl, .inr ⟨v1, d, rfl, dp_same s1 _ _ hd, hm, fun H2 s2 => ?_⟩⟩
      refine ⟨_, rfl, iteB rfl ?_⟩
      exact ⟨by decide, raise_read (out H2 (s1.trans s2))⟩
    refine ⟨_, rfl, .inl ⟨q, true, ms, rfl, s1 _ _ hq, h1, h60, hnd, hnm, fun H2 s2 => ?_⟩⟩
    refine ⟨_, rfl, iteN rfl ?_⟩
    have s12 := s1.trans s2
    have hl2 : Dp K H2 (.ref q) (.list (ms.map fun m => .str (S m))) := .lst (SqL.of (s12 _ _ hq)) (dpa_strs ms)
    rcases hb with ⟨rfl, d, hd, hsh, hne⟩ | ⟨f, rfl, hf, rfl, d, hd, hbs⟩
    · refine ⟨_, rfl, _, rfl, d, _, dp_same s12 _ _ hd, hl2, hsh, shaped_lst (small_names hnm), _, rfl, ?_⟩
      refine iteB ?_ ?_
      · rw [List.any_map, Bool.not_eq_true', Bool.eq_false_iff]
        intro h
        obtain ⟨m, hm, h⟩ := List.any_eq_true.mp h
        have := hne m hm
        rw [show ((fun z => PyData.eqv z d) ∘ fun m => PyData.str (S m)) m = PyData.eqv (.str (S m)) d from rfl, this] at h
        cases h
      exact ⟨by decide, raise_read (out H2 s12)⟩
    · refine ⟨_, rfl, _, rfl, .str (S f), _, .str _, hl2, shaped_str (small_name (hnm f hf)), shaped_lst (small_names hnm), _, rfl, ?_⟩
      refine iteN ?_ ?_
      · rw [Bool.not_eq_false', List.any_map, List.any_eq_true]
        exact ⟨f, hf, show (S f == S f) = true by simp⟩
      refine ⟨_, rfl, _, rfl, _, rfl, v3, d, q, true, ms, sg, rfl, dp_same s12 _ _ hd, s12 _ _ hq, hsg.2.2.1, hbs, fun H3 s3 => ?_⟩
      refine ⟨_, rfl, iteB rfl ?_⟩
      exact ⟨by decide, raise_read (out H3 (s12.trans s3))⟩
end
end Toy
set_option maxHeartbeats 2000000
namespace Toy
open PySem L2 C8 SX LX
local macro_rules | `(tactic| walk_at "c") => `(tactic| refine And.intro (by first | (show (0 : Int) < _; omega) | exact Or.inr ⟨by decide, by decide⟩ | exact Or.inl ⟨by decide, by decide⟩ | (exact ⟨by omega, by omega⟩)) ?_)
local macro_rules | `(tactic| walk_at "s1") => `(tactic| first | refine ⟨_, rfl, ?_⟩ | refine ⟨_, _, rfl, rfl, ?_⟩ | refine .inl ⟨_, rfl, ?_⟩ | walk_at "c")
local macro_rules | `(tactic| walk_at "s") => `(tactic| repeat (walk_at "s1"))
section
variable {P : Program} {w : World} {K : PySem.W.Frag} {mg : Str → Option Value} {base : Heap}
theorem fn_orX {k : Nat} {f : Addr} {fd : FuncData} {ps : List Str} {sp1 sp2 : Sp} (F1 : FnOk P w K mg base C8.CX0 k f fd ps sp1) (F2 : FnOk P w K mg base (L2.CX P w) k f fd ps sp2) : FnOk P w K mg base (L2.CX P w) k f fd ps (fun vs H Q E => sp1 vs H Q E ∨ sp2 vs H Q E) := by
  refine ⟨fun vs H Q E h => h.elim (F1.len vs H Q E) (F2.len vs H Q E), fun A outer s H args us vs Q E hr he hb hv h => ?_⟩
  rcases h with h | h
  · refine codeAny_mono (F1.run A outer s H args us vs Q E hr he hb hv h) fun r t got => ?_
    cases r with
    | error e => exact False.elim got
    | ok fl =>
      cases fl with
      | ret u => exact got
      | next => exact got
      | brk => exact got
      | cont => exact got
  · exact F2.run A outer s H args us vs Q E hr he hb hv h
def spInitX (K : PySem.W.Frag) (C CI : Addr) : Sp := fun vs H Q E => spInit C vs H Q E ∨ spInitB K C CI vs H Q E
theorem ok_makeX {C CI : Addr} (T : BT mg) (CH : CR K C) (g_issigns : Cal P w K mg base 3 "is_signs" spIsSigns []) (g_ismarks : Cal P w K mg base 4 "_is_marks" spIsMarks []) (g_issteps : Cal P w K mg base 3 "_is_steps" spIsSteps []) (c_table : Cal P w K mg base 2 "table_of" (spTable C) []) (c_cols : Cal P w K mg base 1 "columns_of" spCols [])
    (c_InvalidReader : RaiX P w K mg base 1 "InvalidReader" CI (spXInit CI "word")) (c_issigns : Cal P w K mg base 3 "is_signs" (spIsSignsD K) []) (c_ismarks : Cal P w K mg base 4 "_is_marks" (spMarksA K) []) (c_issteps : Cal P w K mg base 3 "_is_steps" (spIsStepsD K) [])
    {f : Addr} (M : Mk K C f) (hm : mg "Reader" = some (.ref C)) {fd : FuncData} (F : C8.Fun K "__init__" "Reader.__init__" s_init f fd) (b : Binds K fd ["self", "signs", "marks", "first", "steps"] []) : MakX P w K mg base 5 "Reader" C (spInitX K C CI) :=
  ⟨f, fd, _, M, fn_orX (ok_init T CH g_issigns g_ismarks g_issteps c_table c_cols M hm F b) (ok_initB T CH c_InvalidReader c_issigns c_ismarks c_issteps c_table c_cols F), hm, b⟩
def markO (ms : List (List Nat)) : Option (List Nat) → Bool
  | some x => decide (x ∈ ms)
  | none => false
def spIsMarkD (K : PySem.W.Frag) (C : Addr) : Sp := fun vs H Q _ => ∃ (a : Addr) (sg : List Nat) (ms : List (List Nat)) (f : List Nat) (tg : List Nat → Nat → List Nat) (v : V) (o : Option (List Nat)), vs = [.ref a, v] ∧ Rdr C H a sg ms f tg ∧ Kv K H v o ∧ Q (.bl (markO ms o)) H
theorem ok_ismarkD {C : Addr} (T : BT mg) (CH : CR K C) {f : Addr} {fd : FuncData} (F : Def K mg "is_mark" s_ismark f fd) (b : Binds K fd ["reader", "value"] []) : Cal P w K mg base 1 "is_mark" (spIsMarkD K C) [] := by
  refine cal0 F b .nil sc_ismark (fun vs H Q E h => ?_) (fun cdv A outer s H vs Q E hr h => ?_)
  · obtain ⟨a, sg, ms, f, tg, v, o, rfl, _⟩ := h; rfl
  · obtain ⟨a, sg, ms, f, tg, v, o, rfl, ⟨dx, m, st, nu, le, sa, la, co, ca, r, hcol⟩, hv, k⟩ := h
    refine ⟨_, (pss_one (ps_ret (pe_and (pe_callB (isiK K) (by rfl) T.m_isinstance PyProof.Rows.boot_isinstance (pa_cons (pv 1) (pa_cons (pe_bltn (v := .ty "str") (by rfl) T.m_str PyProof.Rows.boot_str rfl) pa_nil))) (pe_one (pe_cmpR (inK K) (pv 1) (fldK K (pv 0) rfl) rfl))))
      ), ?_⟩
    refine ⟨_, rfl, ?_⟩
    cases hv with
    | no ty hk => exact ⟨_, _, _, _, false, rfl, .ty _, ty, hk, false, rfl, iteN rfl k⟩
    | txt x =>
      refine ⟨_, _, _, _, true, rfl, .ty _, .base (.str _), kit_ty (by decide +kernel), true, rfl, iteT ?_⟩
      refine ⟨_, rfl, _, rfl, a, C, dx, _, _, rfl, r.ha, CH.cl, CH.nM, rl_marks, ?_⟩
      refine ⟨m, txs ms, rfl, .inr (SqT.of r.hm), rfl, flat_txs _, ?_⟩
      rw [inV_txs]
      exact k
def spMLedB (K : PySem.W.Frag) (C CN CR_ : Addr) : Sp := fun vs H _ E => ∃ (a : Addr) (sg : List Nat) (ms : List (List Nat)) (f : List Nat) (tg : List Nat → Nat → List Nat) (v w : V) (o u : Option (List Nat)), vs = [.ref a, v, w] ∧ Rdr C H a sg ms f tg ∧ Kv K H v o ∧ Kv K H w u ∧ Sm u ∧
  ((markO ms o = false ∧ ∀ (d : Addr) (H' : Hp), Same H H' → H' d = some (.xd [("mark", v)]) → E (.ref CN) (some d) H') ∨ (markO ms o = true ∧ rowO sg u = false ∧ E (.ref CR_) none H))
theorem ok_mledB {C CN CR_ : Addr} (T : BT mg) (CH : CR K C) (c_NoMark : RaiX P w K mg base 1 "NoMark" CN (spXInit CN "mark")) (x_InvalidRow : XN K mg "InvalidRow" CR_) (c_ismark : Cal P w K mg base 1 "is_mark" (spIsMarkD K C) []) (c_isrow : Cal P w K mg base 1 "is_row" (spIsRowD K) []) {f : Addr} {fd : FuncData} (F : C8.Fun K "led" "Reader.led" s_m_led f fd) : FnOk P w K mg base (L2.CX P w) 3 f fd ["self", "mark", "row"] (spMLedB K C CN CR_) := by
  refine fnX F sc_m_led (fun vs H Q E h => ?_) (fun cdv A outer s H vs Q E hr h => ?_)
  · obtain ⟨a, sg, ms, f, tg, v, w, o, u, rfl, _⟩ := h; rfl
  · obtain ⟨a, sg, ms, f, tg, v, w, o, u, rfl, hrd, hv, hw, hsm, h⟩ := h
    obtain ⟨dx, m, st, nu, le, sa, la, co, ca, r, hcol⟩ := id hrd
    refine ⟨_, (pss_cons (ps_if (pt_not (pt_val (pe_c c_ismark hr (by first | decide | omega) (by rfl) (pa_cons (pv 0) (pa_cons (pv 1) pa_nil))))) 
        (pss_one (ps_raise rfl (takes_of rfl rfl rfl rfl) (pmk_rai c_NoMark hr (by decide) (by rfl) (pa_cons (pv 1) pa_nil)))
        )
       pss_nil)
      (pss_cons (ps_if (pt_not (pt_val (pe_c c_isrow hr (by first | decide | omega) (by rfl) (pa_cons (pv 2) (pa_cons (fldK K (pv 0) rfl) pa_nil))))) 
        (pss_one (ps_raise rfl (takes_of rfl rfl rfl rfl) (pmk_own0 PySem.F.excBase_ValueError x_InvalidRow.q x_InvalidRow.g x_InvalidRow.k x_InvalidRow.r (by rfl)))
        )
       pss_nil)
      (pss_cons (ps_for (passes_of rfl) rfl (pi_str (pv 2)) (pg_name (i := 3) sc_m_led.nd rfl (.inl rfl)) 
        (pss_one (ps_set (i := 1) sc_m_led.nd rfl (.inl rfl) (pe_dget (hu_of hr) (pe_dget (hu_of hr) (fldK K (pv 0) rfl) (pv 1) (fun _ _ => rfl)) (pv 3) (fun _ _ => rfl)))
        ))
      (pss_one (ps_ret (pv 1))
      )))), ?_⟩
    refine ⟨_, rfl, _, rfl, a, sg, ms, f, tg, v, o, rfl, hrd, hv, ?_⟩
    rcases h with ⟨hm, k⟩ | ⟨hm, hr2, k⟩
    · rw [hm]
      refine ⟨_, rfl, iteB rfl ?_⟩
      exact ⟨_, rfl, by simp, raise_read fun d hd => k d _ (sm_new hd) upd_same⟩
    · rw [hm]
      refine ⟨_, rfl, iteN rfl ?_⟩
      refine ⟨_, rfl, _, rfl, a, C, dx, _, _, rfl, r.ha, CH.cl, CH.nS, rl_signs, ?_⟩
      refine ⟨w, u, sg, rfl, hw, hsm, ?_⟩
      rw [hr2]
      refine ⟨_, rfl, iteB rfl ?_⟩
      exact k
def spMLedX (K : PySem.W.Frag) (C CN CR_ : Addr) : Sp := fun vs H Q E => spMLed C vs H Q E ∨ spMLedB K C CN CR_ vs H Q E
theorem ok_mledX {C CN CR_ : Addr} (T : BT mg) (CH : CR K C) (g_ismark : Cal P w K mg base 1 "is_mark" (spIsMark C) []) (g_isrow : Cal P w K mg base 1 "is_row" spIsRow []) (c_NoMark : RaiX P w K mg base 1 "NoMark" CN (spXInit CN "mark")) (x_InvalidRow : XN K mg "InvalidRow" CR_) (c_ismark : Cal P w K mg base 1 "is_mark" (spIsMarkD K C) []) (c_isrow : Cal P w K mg base 1 "is_row" (spIsRowD K) [])
    {f : Addr} {fd : FuncData} (me : Meth K C "led" f) (F : C8.Fun K "led" "Reader.led" s_m_led f fd) (b : Binds K fd ["self", "mark", "row"] []) : MetX P w K mg base 3 C "led" (spMLedX K C CN CR_) :=
  ⟨f, fd, _, CH.cl, me, fn_orX ((ok_mled T CH g_ismark g_isrow me F b).mono (by decide)) (ok_mledB T CH c_NoMark x_InvalidRow c_ismark c_isrow F), b⟩
end
end Toy
set_option maxHeartbeats 2000000
namespace Toy
open PySem L2 C8 SX LX
section
variable {P : Program} {w : World} {K : PySem.W.Frag} {mg : Str → Option Value} {base : Heap}
abbrev s_lines : Stmt := top 17
abbrev n_lines : List Str := ["reader", "mark", "targets"]
theorem sc_lines : FnScope n_lines ["reader"] (fnScope s_lines) := fnScope_by (by decide +kernel)
def lineL (sg : List Nat) (tg : List Nat → Nat → List Nat) (m : List Nat) : List Nat := m ++ [58, 32] ++ TL.joinL [32] (sg.map (tg m))
theorem s_sp : (Str.ofString " ") = S [32] := by decide +kernel
theorem s_cs : (Str.ofString ": ") = S [58, 32] := by decide +kernel
theorem Good.len {sg : List Nat} {ms : List (List Nat)} {f : List Nat} {tg : List Nat → Nat → List Nat} (g : Good sg ms f tg) {m : List Nat} (h : m ∈ ms) : m.length ≤ 6 := (g.hnm m h).2.1
theorem lineL_len {sg : List Nat} {ms : List (List Nat)} {f : List Nat} {tg : List Nat → Nat → List Nat} (g : Good sg ms f tg) {m : List Nat} (h : m ∈ ms) : (lineL sg tg m).length ≤ 30 := by
  have h1 := g.len h
  have h2 := joinL_len (sep := [32]) (m := 6) (ys := sg.map (tg m)) fun y hy => by
    obtain ⟨c, hc, rfl⟩ := List.mem_map.mp hy
    exact g.len (g.htg m h c hc)
  rw [List.length_map] at h2
  have h3 := g.hsg.2.2.1
  unfold lineL
  simp only [List.length_append, List.length_cons, List.length_nil] at h2 ⊢
  omega
def spLines (C : Addr) : Sp := fun vs H Q _ => ∃ (a : Addr) (sg : List Nat) (ms : List (List Nat)) (f : List Nat) (tg : List Nat → Nat → List Nat), vs = [.ref a] ∧ Rdr C H a sg ms f tg ∧ Good sg ms f tg ∧
  ∀ (p : Addr) (H' : Hp), Same H H' → H p = none → H' p = some (.lst (txs (ms.map (lineL sg tg)))) → Q (.ref p) H'
theorem ok_lines {C : Addr} (T : BT mg) (CH : CR K C) {f : Addr} {fd : FuncData} (F : Def K mg "_lines_of_marks" s_lines f fd) (b : Binds K fd ["reader"] []) : Cal P w K mg base 1 "_lines_of_marks" (spLines C) [] := by
  refine cal0 F b .nil sc_lines (fun vs H Q E h => ?_) (fun cdv A outer s H vs Q E hr h => ?_)
  · obtain ⟨a, sg, ms, f, tg, rfl, _⟩ := h; rfl
  · obtain ⟨a, sg, ms, f, tg, rfl, hrd, hgd, k⟩ := h
    obtain ⟨dx, m, st, nu, le, sa, la, co, ca, r, hcol⟩ := id hrd
    refine ⟨_, (pss_one (ps_ret (pe_lc (own := [("mark", 1), ("targets", 2)]) rfl sc_lines.nd (pi_zipX (by rfl) T.m_zip (pa_cons (fldK K (pv 0) rfl) (pa_cons (fldK K (pv 0) rfl) pa_nil))) (blkOk_by (N := n_lines) (sc := fnScope s_lines) (by decide +kernel)) (fun _ _ _ _ _ => (tupK K 2 (pgs_cons (pg_name (i := 1) sc_lines.nd rfl (.inl rfl)) (pgs_cons (pg_name (i := 2) sc_lines.nd rfl (.inl rfl)) pgs_nil)))) (fun _ _ _ _ _ => pts_nil) (fun _ _ _ _ _ => (pe_joinedD (PJ.cons (pe_fmt (pv 1)) (PJ.cons pe_str (PJ.cons (pe_fmt (pe_joinK K pe_str (pv 2))) PJ.nil)))))))
      ), ?_⟩
    have h8 := hgd.h8
    refine ⟨_, rfl, a, C, dx, _, _, rfl, r.ha, CH.cl, CH.nM, rl_marks, _, rfl, a, C, dx, _, _, rfl, r.ha, CH.cl, CH.nT, rl_steps, ?_⟩
    refine nil1 ⟨.ref m, .ref st, .tup m, .tup st, rfl, rfl, rfl, ⟨_, SqT.of r.hm⟩, ⟨_, SqT.of r.hst⟩, fun D hD => ?_⟩
    refine lc_keep (n := min (txs ms).length (ms.map fun x => V.ref (sa x)).length) keep_same (walk_zipX (K := K) (S1 := .tup m) (S2 := .tup st) (xs := txs ms) (ys := ms.map fun x => V.ref (sa x))) hD (Nat.lt_of_le_of_lt (Nat.min_le_left _ _) (by rw [txs_len]; exact small1000 (by omega))) (fun j y => ∀ mm, ms[j]? = some mm → y = .str (S (lineL sg tg mm))) (fun H r1 => ⟨SqT.of (r1 _ _ r.hm), SqT.of (r1 _ _ r.hst)⟩) (fun i x H2 H3 R hi r2 hy hR => ?_) (fun ys H2 hly hg r2 hDs => ?_)
    · obtain ⟨t, x1, x2, rfl, ht, rfl, e1, e2⟩ := hy
      obtain ⟨mm, hmm, rfl⟩ := txs_get (show (txs ms)[i]? = some x1 from e1)
      have e2 : (ms.map fun x => V.ref (sa x))[i]? = some x2 := e2
      rw [List.getElem?_map, hmm] at e2
      obtain rfl : V.ref (sa mm) = x2 := Option.some.inj e2
      have hmem := List.mem_of_getElem? hmm
      have s3 : Same H2 (upd H2 t (.tup [.str (S mm), .ref (sa mm)])) := sm_new ht
      have ht3 : (upd H2 t (.tup [.str (S mm), .ref (sa mm)])) t = some (.tup [.str (S mm), .ref (sa mm)]) := upd_same
      generalize upd H2 t (.tup [.str (S mm), .ref (sa mm)]) = H3 at s3 ht3 ⊢
      refine ⟨t, _, rfl, .inl (.inl ht3), rfl, _, _, rfl, _, _, rfl, rfl, rfl, ?_⟩
      have h6 := hgd.len hmem
      refine ⟨_, rfl, .inl ⟨S mm, rfl, by rw [S_len]; exact sz h6 (by decide), S mm, rfl, by rw [show Str.empty = S [] from rfl, S_cat, S_len]; exact sz h6 (by decide), ?_⟩⟩
      have hl6 : ∀ l ∈ sg.map (tg mm), l.length ≤ 6 := fun l hl => by
        obtain ⟨c, hc, rfl⟩ := List.mem_map.mp hl
        exact hgd.len (hgd.htg mm hmem c hc)
      have hll := lineL_len hgd hmem
      have e0 : Str.empty ++ S mm ++ (Str.ofString ": ") = S (mm ++ [58, 32]) := by rw [s_cs, show Str.empty = S [] from rfl, S_cat, S_cat]; rfl
      have e1 : Txt.join (Str.ofString " ") ((sg.map (tg mm)).map S) = S (TL.joinL [32] (sg.map (tg mm))) := by rw [s_sp, join_S]
      have e2 : Str.empty ++ S mm ++ (Str.ofString ": ") ++ Txt.join (Str.ofString " ") ((sg.map (tg mm)).map S) = S (lineL sg tg mm) := by rw [e0, e1, S_cat]; rfl
      have hj := joinL_len (sep := [32]) hl6
      have h3 := hgd.hsg.2.2.1
      rw [List.length_map] at hj
      simp only [List.length_cons, List.length_nil] at hj
      refine ⟨_, rfl, by rw [e0, S_len]; simp; exact sz (m := 8) (by omega) (by decide), ?_⟩
      refine ⟨⟨_, rfl⟩, _, rfl, _, sa mm, (sg.map (tg mm)).map S, rfl, rfl, .inr (SqT.of (by rw [List.map_map]; exact (r2.trans s3) _ _ (r.hsa mm hmem))), by rw [s_sp]; exact joinS_ok hl6 (n := 3) (by rw [List.length_map]; exact h3) (by decide), ?_⟩
      refine .inl ⟨_, rfl, by rw [e1, S_len]; exact sz (m := 40) (by omega) (by decide), _, rfl, by rw [e2, S_len]; exact sz hll (by decide), ?_⟩
      show R (V.str (Str.empty ++ S mm ++ (Str.ofString ": ") ++ Txt.join (Str.ofString " ") ((sg.map (tg mm)).map S))) H3
      rw [e2]
      exact hR _ _ s3 fun m2 h2 => by rw [Option.some.inj (hmm.symm.trans h2)]
    · have hly2 : ys.length = ms.length := by rw [hly, txs_len, List.length_map, Nat.min_self]
      have eys : ys = txs (ms.map (lineL sg tg)) := by
        unfold txs; rw [List.map_map]
        exact list_map hly2 fun j y mm e1 e2 => hg j y e1 mm e2
      subst eys
      exact k D H2 r2 hD hDs
abbrev s_str : Stmt := inClass (top 16) 7
abbrev n_str : List Str := ["self"]
theorem sc_str : FnScope n_str ["self"] (fnScope s_str) := fnScope_by (by decide +kernel)
theorem s_nl : (Str.ofString "\n") = S [10] := by decide +kernel
theorem s_reader : (Str.ofString "reader ") = S [114, 101, 97, 100, 101, 114, 32] := by decide +kernel
theorem s_first : (Str.ofString "first ") = S [102, 105, 114, 115, 116, 32] := by decide +kernel
def textL (sg : List Nat) (ms : List (List Nat)) (f : List Nat) (tg : List Nat → Nat → List Nat) : List Nat := TL.joinL [10] (([114, 101, 97, 100, 101, 114, 32] ++ sg) :: ([102, 105, 114, 115, 116, 32] ++ f) :: ms.map (lineL sg tg))
def spStr (C : Addr) : Sp := fun vs H Q _ => ∃ (a : Addr) (sg : List Nat) (ms : List (List Nat)) (f : List Nat) (tg : List Nat → Nat → List Nat), vs = [.ref a] ∧ Rdr C H a sg ms f tg ∧ Good sg ms f tg ∧ ∀ H', Same H H' → Q (.str (S (textL sg ms f tg))) H'
theorem ok_str {C : Addr} (T : BT mg) (CH : CR K C) (c_lines : Cal P w K mg base 1 "_lines_of_marks" (spLines C) []) {f : Addr} {fd : FuncData} (me : Meth K C "__str__" f) (F : C8.Fun K "__str__" "Reader.__str__" s_str f fd) (b : Binds K fd ["self"] []) : Met P w K mg base 2 C "__str__" (spStr C) [] := by
  refine met0 CH.cl me F b sc_str (fun vs H Q E h => ?_) (fun cdv A outer s H vs Q E hr h => ?_)
  · obtain ⟨a, sg, ms, f, tg, rfl, _⟩ := h; rfl
  · obtain ⟨a, sg, ms, f, tg, rfl, hrd, hgd, k⟩ := h
    obtain ⟨dx, m, st, nu, le, sa, la, co, ca, r, hcol⟩ := id hrd
    refine ⟨_, (pss_one (ps_ret (pe_join pe_str (pe_lst (pa_cons (pe_joinedD (PJ.cons pe_str (PJ.cons (pe_fmt (fldK K (pv 0) rfl)) PJ.nil))) (pa_cons (pe_joinedD (PJ.cons pe_str (PJ.cons (pe_fmt (fldK K (pv 0) rfl)) PJ.nil))) (StX.pa_star (pe_c c_lines hr (by first | decide | omega) (by rfl) (pa_cons (pv 0) pa_nil)) pa_nil))))))
      ), ?_⟩
    have h8 := hgd.h8
    have h3 := hgd.hsg.2.2.1
    have hf6 := hgd.len hgd.hf
    have e1 : Str.empty ++ (Str.ofString "reader ") ++ S sg = S ([114, 101, 97, 100, 101, 114, 32] ++ sg) := by rw [s_reader, show Str.empty = S [] from rfl, S_cat, S_cat]; rfl
    have e2 : Str.empty ++ (Str.ofString "first ") ++ S f = S ([102, 105, 114, 115, 116, 32] ++ f) := by rw [s_first, show Str.empty = S [] from rfl, S_cat, S_cat]; rfl
    refine ⟨⟨_, rfl⟩, ?_⟩
    refine ⟨_, rfl, (by decide +kernel), _, rfl, a, C, dx, _, _, rfl, r.ha, CH.cl, CH.nS, rl_signs, .inl ⟨_, rfl, by rw [S_len]; exact sz h3 (by decide), _, rfl, by rw [e1, S_len, List.length_append]; exact sz (m := 10) (by simp; omega) (by decide), ?_⟩⟩
    refine ⟨_, rfl, (by decide +kernel), _, rfl, a, C, dx, _, _, rfl, r.ha, CH.cl, CH.nF, rl_first, .inl ⟨_, rfl, by rw [S_len]; exact sz hf6 (by decide), _, rfl, by rw [e2, S_len, List.length_append]; exact sz (m := 12) (by simp; omega) (by decide), ?_⟩⟩
    refine ⟨_, rfl, a, sg, ms, f, tg, rfl, hrd, hgd, fun D H1 s1 n1 h1 => ?_⟩
    refine ⟨D, _, rfl, .inr (SqL.of h1), ?_⟩
    refine ⟨by simp only [List.length_cons, List.length_append, List.length_nil, txs_len, List.length_map]; exact sz (m := 20) (by omega) (by decide), fun l hl => ?_⟩
    have el : ([V.str (Str.empty ++ (Str.ofString "reader ") ++ S sg), V.str (Str.empty ++ (Str.ofString "first ") ++ S f)] ++ (txs (ms.map (lineL sg tg)) ++ [])) = (((([114, 101, 97, 100, 101, 114, 32] ++ sg) :: ([102, 105, 114, 115, 116, 32] ++ f) :: ms.map (lineL sg tg)).map S).map V.str) := by
      rw [e1, e2, List.append_nil, List.map_map]; rfl
    refine ⟨_, l, ((([114, 101, 97, 100, 101, 114, 32] ++ sg) :: ([102, 105, 114, 115, 116, 32] ++ f) :: ms.map (lineL sg tg)).map S), rfl, rfl, .inl (SqL.of (by rw [upd_same]; exact congrArg (fun x => some (HO.lst x)) el)), ?_, ?_⟩
    · rw [s_nl]
      refine joinS_ok (m := 30) (n := 10) (fun y hy => ?_) (by simp; omega) (by decide)
      rcases List.mem_cons.mp hy with rfl | hy
      · rw [List.length_append]; simp; omega
      rcases List.mem_cons.mp hy with rfl | hy
      · rw [List.length_append]; simp; omega
      obtain ⟨mm, hm, rfl⟩ := List.mem_map.mp hy
      exact lineL_len hgd hm
    · rw [s_nl, join_S]
      exact k _ (s1.trans (sm_new hl))
end
end Toy
set_option maxHeartbeats 2000000
namespace Toy
open PySem L2 C8 SX LX
section
variable {P : Program} {w : World} {K : PySem.W.Frag} {mg : Str → Option Value} {base : Heap}
abbrev s_eq : Stmt := inClass (top 16) 6
abbrev n_eq : List Str := ["self", "other"]
theorem sc_eq : FnScope n_eq ["self", "other"] (fnScope s_eq) := fnScope_by (by decide +kernel)
def stepsL (sg : List Nat) (ms : List (List Nat)) (tg : List Nat → Nat → List Nat) : List (List (List Nat)) := ms.map fun x => sg.map (tg x)
def RSame (sg : List Nat) (ms : List (List Nat)) (f : List Nat) (tg : List Nat → Nat → List Nat) (sg' : List Nat) (ms' : List (List Nat)) (f' : List Nat) (tg' : List Nat → Nat → List Nat) : Prop := sg = sg' ∧ ms = ms' ∧ f = f' ∧ stepsL sg ms tg = stepsL sg' ms' tg'
instance {sg ms f tg sg' ms' f' tg'} : Decidable (RSame sg ms f tg sg' ms' f' tg') := by unfold RSame; infer_instance
def spEqR (K : PySem.W.Frag) (C : Addr) : Sp := fun vs H Q _ => ∃ (a : Addr) (sg : List Nat) (ms : List (List Nat)) (f : List Nat) (tg : List Nat → Nat → List Nat) (y : V), vs = [.ref a, y] ∧ Rdr C H a sg ms f tg ∧ Good sg ms f tg ∧
  ((∃ (b : Addr) (sg' : List Nat) (ms' : List (List Nat)) (f' : List Nat) (tg' : List Nat → Nat → List Nat), y = .ref b ∧ Rdr C H b sg' ms' f' tg' ∧ Good sg' ms' f' tg' ∧ Q (.bl (decide (RSame sg ms f tg sg' ms' f' tg'))) H) ∨
   ((∃ t, TyX K H y t ∧ PySem.W.kitOne K t (.ref C) = some false) ∧ Q (.bl false) H))
theorem dp_tt {K : PySem.W.Frag} {C : Addr} {H : Hp} {a : Addr} {sg : List Nat} {ms : List (List Nat)} {f : List Nat} {tg : List Nat → Nat → List Nat} {dx m st nu le : Addr} {sa la : List Nat → Addr} {t : List (Str × V)} (r : RdrAt C H a sg ms f tg dx m st nu le sa la t) : Dp K H (.ref st) (ttD (stepsL sg ms tg)) := by
  refine .tup (SqT.of r.hst) ?_
  unfold stepsL
  rw [List.map_map]
  exact dpAll_get fun x hx => dp_t (SqT.of (r.hsa x hx))
theorem name_small {l : List Nat} (h : Name l) : ∀ c ∈ l, c < 1114112 := fun c hc => by have := h.2.2.1 c hc; omega
theorem Good.small {sg : List Nat} {ms : List (List Nat)} {f : List Nat} {tg : List Nat → Nat → List Nat} (g : Good sg ms f tg) : Small ms := fun l hl => name_small (g.hnm l hl)
theorem Good.steps {sg : List Nat} {ms : List (List Nat)} {f : List Nat} {tg : List Nat → Nat → List Nat} (g : Good sg ms f tg) : ∀ xs ∈ stepsL sg ms tg, Small xs ∧ (∀ l ∈ xs, l.length ≤ 6) ∧ xs.length ≤ 3 := fun xs hx => by
  obtain ⟨m, hm, rfl⟩ := List.mem_map.mp hx
  refine ⟨fun l hl => ?_, fun l hl => ?_, by rw [List.length_map]; exact g.hsg.2.2.1⟩
  · obtain ⟨c, hc, rfl⟩ := List.mem_map.mp hl
    exact g.small _ (g.htg m hm c hc)
  · obtain ⟨c, hc, rfl⟩ := List.mem_map.mp hl
    exact g.len (g.htg m hm c hc)
theorem Good.fit {sg : List Nat} {ms : List (List Nat)} {f : List Nat} {tg : List Nat → Nat → List Nat} (g : Good sg ms f tg) : Fit 4 200 (ttD (stepsL sg ms tg)) :=
  (fit_tt g.steps (p := 8) (by unfold stepsL; rw [List.length_map]; exact g.h8)).mono (Nat.le_refl _) (by decide)
theorem S_inj {a b : List Nat} (h : S a = S b) : a = b := by
  have : (S a).cps.toList = (S b).cps.toList := congrArg (fun z : Str => z.cps.toList) h
  simpa [S] using this
theorem strV_eq {a b : List Nat} : (V.str (S a) = V.str (S b)) = (a = b) := by
  rw [V.str.injEq]; exact propext ⟨S_inj, congrArg S⟩
theorem ok_eq {C : Addr} (T : BT mg) (CH : CR K C) (insC : InsC K C) (mgC : mg "Reader" = some (.ref C)) {f : Addr} {fd : FuncData} (me : Meth K C "__eq__" f) (F : C8.Fun K "__eq__" "Reader.__eq__" s_eq f fd) (b : Binds K fd ["self", "other"] []) : Met P w K mg base 1 C "__eq__" (spEqR K C) [] := by
  refine met0 CH.cl me F b sc_eq (fun vs H Q E h => ?_) (fun cdv A outer s H vs Q E hr h => ?_)
  · obtain ⟨a, sg, ms, f, tg, y, rfl, _⟩ := h; rfl
  · obtain ⟨a, sg, ms, f, tg, y, rfl, hrd, hgd, hy⟩ := h
    obtain ⟨dx, m, st, nu, le, sa, la, co, ca, r, hcol⟩ := id hrd
    refine ⟨_, (pss_one (ps_ret (pe_and (pe_callB (isiK K) (by rfl) T.m_isinstance PyProof.Rows.boot_isinstance (pa_cons (pv 1) (pa_cons (pe_glob (v := .ref C) (by rfl) mgC rfl) pa_nil))) (pe_and (pe_cmpR op_eq (fldK K (pv 0) rfl) (fldK K (pv 1) rfl) (nomark _)) (pe_and (pe_cmpR (op_eqSs hr) (fldK K (pv 0) rfl) (fldK K (pv 1) rfl) (nomark _)) (pe_and (pe_cmpR op_eq (fldK K (pv 0) rfl) (fldK K (pv 1) rfl) (nomark _)) (pe_one (pe_cmpR (op_eqDK K hr) (fldK K (pv 0) rfl) (fldK K (pv 1) rfl) (nomark _))))))))
      ), ?_⟩
    rcases hy with ⟨b, sg', ms', f', tg', rfl, hrd', hgd', q⟩ | ⟨⟨t, ht, hk⟩, q⟩
    · obtain ⟨dx', m', st', nu', le', sa', la', co', ca', r', hcol'⟩ := id hrd'
      have fin : ∀ {b : Bool}, (b = true ↔ RSame sg ms f tg sg' ms' f' tg') → Q (.bl b) H := fun {b} h => by
        have : b = decide (RSame sg ms f tg sg' ms' f' tg') := by
          rw [Bool.eq_iff_iff, decide_eq_true_eq]; exact h
        rw [this]; exact q
      refine ⟨_, rfl, _, _, .ref C, _, true, rfl, .own C, .base (TyOf.ins r'.ha CH.cl insC.ha insC.hn insC.htk insC.hm), insC.me, true, rfl, iteT ?_⟩
      refine ⟨_, rfl, a, C, dx, _, _, rfl, r.ha, CH.cl, CH.nS, rl_signs, _, rfl, b, C, dx', _, _, rfl, r'.ha, CH.cl, CH.nS, rl_signs, rfl, _, rfl, ?_⟩
      by_cases e1 : sg = sg'
      · refine iteB (decide_eq_true (by rw [strV_eq]; exact e1)) ?_
        refine ⟨_, rfl, a, C, dx, _, _, rfl, r.ha, CH.cl, CH.nM, rl_marks, _, rfl, b, C, dx', _, _, rfl, r'.ha, CH.cl, CH.nM, rl_marks, m, m', ms, ms', rfl, rfl, .inr ⟨SqT.of r.hm, SqT.of r'.hm⟩, hgd.small, hgd'.small, _, rfl, ?_⟩
        by_cases e2 : ms = ms'
        · refine iteB (decide_eq_true e2) ?_
          refine ⟨_, rfl, a, C, dx, _, _, rfl, r.ha, CH.cl, CH.nF, rl_first, _, rfl, b, C, dx', _, _, rfl, r'.ha, CH.cl, CH.nF, rl_first, rfl, _, rfl, ?_⟩
          by_cases e3 : f = f'
          · refine iteB (decide_eq_true (by rw [strV_eq]; exact e3)) ?_
            refine ⟨_, rfl, a, C, dx, _, _, rfl, r.ha, CH.cl, CH.nT, rl_steps, _, rfl, b, C, dx', _, _, rfl, r'.ha, CH.cl, CH.nT, rl_steps, _, _, dp_tt r, dp_tt r', hgd.fit.shaped (by decide) (.inl ⟨_, rfl⟩), hgd'.fit.shaped (by decide) (.inl ⟨_, rfl⟩), ?_⟩
            rw [eqv_tt]
            exact fin (by rw [decide_eq_true_eq]; exact ⟨fun h => ⟨e1, e2, e3, h⟩, fun h => h.2.2.2⟩)
          · refine iteN (decide_eq_false (by rw [strV_eq]; exact e3)) ?_
            exact fin ⟨fun h => (nomatch h), fun h => absurd h.2.2.1 e3⟩
        · refine iteN (decide_eq_false e2) ?_
          exact fin ⟨fun h => (nomatch h), fun h => absurd h.2.1 e2⟩
      · refine iteN (decide_eq_false (by rw [strV_eq]; exact e1)) ?_
        exact fin ⟨fun h => (nomatch h), fun h => absurd h.1 e1⟩
    · refine ⟨_, rfl, y, _, t, _, false, rfl, .own C, ht, hk, false, rfl, iteN rfl ?_⟩
      exact q
end
end Toy
set_option maxHeartbeats 2000000
namespace Toy
open PySem L2 C8 SX LX
local macro_rules | `(tactic| walk_at "c") => `(tactic| refine And.intro (by first | (show (0 : Int) < _; omega) | exact Or.inr ⟨by decide, by decide⟩ | exact Or.inl ⟨by decide, by decide⟩ | (exact ⟨by omega, by omega⟩)) ?_)
local macro_rules | `(tactic| walk_at "s1") => `(tactic| first | refine ⟨_, rfl, ?_⟩ | refine ⟨_, _, rfl, rfl, ?_⟩ | refine .inl ⟨_, rfl, ?_⟩ | walk_at "c")
local macro_rules | `(tactic| walk_at "s") => `(tactic| repeat (walk_at "s1"))
theorem same_new {H H' : Hp} {p : Addr} (s : Same H H') (h : H' p = none) : H p = none := by
  cases e : H p with
  | none => rfl
  | some o => rw [s _ _ e] at h; cases h
theorem slLK {X : Cx} (K : PySem.W.Frag) (h : X.K = K := by rfl) : SlR X (rSlL K) := by subst h; exact sl_list
theorem ty_same {K : PySem.W.Frag} {H H' : Hp} (s : Same H H') {v : V} {t : Value} (h : TyX K H v t) : TyX K H' v t := by
  cases h with
  | base b =>
    cases b with
    | non => exact .base .non
    | bl x => exact .base (.bl x)
    | int i => exact .base (.int i)
    | str x => exact .base (.str x)
    | flt x => exact .base (.flt x)
    | lst e => exact .base (.lst (s _ _ e))
    | frz e => exact .base (.frz (s _ _ e))
    | tup e => exact .base (.tup (s _ _ e))
    | dK e => exact .base (.dK (s _ _ e))
    | dT e => exact .base (.dT (s _ _ e))
    | ins e cl ha hn htk hm => exact .base (.ins (s _ _ e) cl ha hn htk hm)
  | byt b => exact .byt b
  | set e => exact .set (s _ _ e)
  | kList e c => exact .kList e c
  | kTuple e c => exact .kTuple e c
  | kDict e c => exact .kDict e c
  | fTuple e => exact .fTuple (s _ _ e)
  | fDict e => exact .fDict (s _ _ e)
theorem kv_same {K : PySem.W.Frag} {H H' : Hp} (s : Same H H') {v : V} {o : Option (List Nat)} (h : Kv K H v o) : Kv K H' v o := by
  cases h with
  | txt l => exact .txt l
  | no ty hk => exact .no (ty_same s ty) hk
theorem bad_same {K : PySem.W.Frag} {H H' : Hp} (s : Same H H') {v0 v1 v2 v3 : V} {wd : Str} (h : BadRd K H v0 v1 v2 v3 wd) : BadRd K H' v0 v1 v2 v3 wd := by
  rcases h with ⟨e, o, h1, h2⟩ | ⟨sg, e, hs, h⟩
  · exact .inl ⟨e, o, kv_same s h1, h2⟩
  refine .inr ⟨sg, e, hs, ?_⟩
  rcases h with ⟨e, d, h1, h2⟩ | ⟨q, ms, e, hq, h1, h2, h3, h4, h⟩
  · exact .inl ⟨e, d, dp_same s _ _ h1, h2⟩
  refine .inr ⟨q, ms, e, s _ _ hq, h1, h2, h3, h4, ?_⟩
  rcases h with ⟨e, d, h1, h2⟩ | ⟨f, e, hf, ew, d, h1, h2⟩
  · exact .inl ⟨e, d, dp_same s _ _ h1, h2⟩
  · exact .inr ⟨f, e, hf, ew, d, dp_same s _ _ h1, h2⟩
structure XG (mg : Str → Option Value) (n : Str) (C : Addr) : Prop where
  g : mg n = some (.ref C)
section
variable {P : Program} {w : World} {K : PySem.W.Frag} {mg : Str → Option Value} {base : Heap}
abbrev s_made : Stmt := top 37
abbrev n_made : List Str := ["told", "steps", "mark", "sign"]
theorem sc_made : FnScope n_made ["told"] (fnScope s_made) := fnScope_by (by decide +kernel)
abbrev ncs_made : Scope := relS (outS (ofRet ((fnBody s_made).getD 0 (.Pass ⟨0, 0, 0, 0⟩)))) (fnScope s_made)
def spMade (C : Addr) : Sp := fun vs H Q _ => ∃ (a : Addr) (sg : List Nat) (ms : List (List Nat)) (f : List Nat) (tg : List Nat → Nat → List Nat) (pm pl : Addr) (ad : List Nat → Addr), vs = [.ref a] ∧ Told H a sg ms f tg pm pl ad ∧ Good sg ms f tg ∧
  ∀ (p : Addr) (H' : Hp), Same H H' → H p = none → Rdr C H' p sg ms f tg → Q (.ref p) H'
def StepsAt (sg : List Nat) (ms : List (List Nat)) (tg : List Nat → Nat → List Nat) (D : Addr) (sa : List Nat → Addr) (H : Hp) : Prop := H D = some (.lst (ms.map fun x => .ref (sa x))) ∧ ∀ x ∈ ms, H (sa x) = some (.lst (txs (sg.map (tg x))))
theorem ok_made {C CI : Addr} (T : BT mg) (CH : CR K C) (mgC : mg "Reader" = some (.ref C)) (c_Reader : MakX P w K mg base 5 "Reader" C (spInitX K C CI)) {f : Addr} {fd : FuncData} (F : Def K mg "_law_made" s_made f fd) (b : Binds K fd ["told"] []) : Cal P w K mg base 7 "_law_made" (spMade C) [] := by
  refine cal0 F b .nil sc_made (fun vs H Q E h => ?_) (fun cdv A outer s H vs Q E hr h => ?_)
  · obtain ⟨a, sg, ms, f, tg, pm, pl, ad, rfl, _⟩ := h; rfl
  · obtain ⟨a, sg, ms, f, tg, pm, pl, ad, rfl, t, hgd, k⟩ := h
    have h8 := hgd.h8
    refine ⟨_, (pss_cons (ps_setLc (i := 1) (own := [("mark", 2)]) rfl sc_made.nd rfl rfl rfl (pi_list (pe_dget (hu_of hr) (pv 0) pe_str (fun _ _ => rfl))) (blkOk_by (N := n_made) (sc := fnScope s_made) (by decide +kernel)) (fun _ _ _ _ _ => (pg_name (i := 2) sc_made.nd rfl (.inr rfl))) (fun _ _ _ _ _ => pts_nil) (fun _ _ _ _ _ => (pe_lc (own := [("sign", 3)]) rfl sc_made.nd (pi_str (pe_dget (hu_of hr) (pv 0) pe_str (fun _ _ => rfl))) (blkOk_by (N := n_made) (sc := ncs_made) (by decide +kernel)) (fun _ _ _ _ _ => (pg_name (i := 3) sc_made.nd rfl (.inl rfl))) (fun _ _ _ _ _ => pts_nil) (fun _ _ _ _ _ => (pe_dget (hu_of hr) (pe_dget (hu_of hr) (pe_dget (hu_of hr) (pv 0) pe_str (fun _ _ => rfl)) (pv 2) (fun _ _ => rfl)) (pv 3) (fun _ _ => rfl))))))
      (pss_one (ps_ret (pe_mkX c_Reader takes_none5 hr (by decide) (by rfl) (pa_cons (pe_dget (hu_of hr) (pv 0) pe_str (fun _ _ => rfl)) (pa_cons (pe_dget (hu_of hr) (pv 0) pe_str (fun _ _ => rfl)) (pa_cons (pe_dget (hu_of hr) (pv 0) pe_str (fun _ _ => rfl)) (pa_cons (pv 1) pa_nil))))))
      )), ?_⟩
    refine ⟨_, rfl, _, _, rfl, t.marks, pm, rfl, ⟨_, SqL.of t.hpm⟩, fun D hD => ?_⟩
    refine lc_keepH keep_same (walk_list (K := K) (a := pm) (xs := txs ms)) hD (by rw [txs_len]; exact small1000 (by omega)) (fun j y H => ∃ p, y = .ref p ∧ p ≠ D ∧ ∀ mm, ms[j]? = some mm → H p = some (.lst (txs (sg.map (tg mm))))) (fun H r => SqL.of (r _ _ t.hpm))
      (fun _ _ _ _ _ r1 ⟨p, e, n, h⟩ => ⟨p, e, n, fun mm hm => r1 _ _ (h mm hm)⟩) (fun _ _ _ _ _ _ _ ⟨p, e, n, h⟩ => ⟨p, e, n, fun mm hm => by rw [upd_ne n]; exact h mm hm⟩) (fun i x H2 H2' acc R hi r2 hDa hy hR => ?_) (fun ys H2 hly hg r2 hDs => ?_)
    · obtain ⟨rfl, e⟩ := hy
      obtain ⟨mm, em, rfl⟩ := txs_get e
      have hmem := List.mem_of_getElem? em
      have t2 := t.same r2
      refine ⟨rfl, ?_⟩
      refine ⟨_, rfl, _, _, rfl, t2.signs, S sg, rfl, fun D2 hD2 => lc_keep keep_same walk_str hD2 (by show sg.length < sizeLine; exact small1000 (by have := hgd.hsg.2.2.1; omega)) (fun j y => ∀ c, sg[j]? = some c → y = .str (S (tg mm c))) (fun _ _ => trivial) (fun j z H3 H4 R2 hj r3 hy hR2 => ?_) (fun zs H3 hlz hgz r3 hDz => ?_)⟩
      · obtain ⟨rfl, c, hc, rfl⟩ := hy
        have hc' : sg[j]? = some c := by simpa [S] using hc
        have t3 := t2.same r3
        refine ⟨rfl, ?_⟩
        refine ⟨_, rfl, _, _, rfl, t3.leads, ?_⟩
        refine ⟨_, rfl, _, _, rfl, t3.mark hmem, ?_⟩
        refine ⟨_, rfl, _, _, rfl, t3.at_ hmem (List.mem_of_getElem? hc'), ?_⟩
        exact hR2 _ _ (Same.refl _) fun c' h => by rw [Option.some.inj (hc'.symm.trans h)]
      · have ez : zs = txs (sg.map (tg mm)) := by
          unfold txs; rw [List.map_map]
          exact list_map hlz fun j y c e1 e2 => hgz j y e1 c e2
        subst ez
        have nD : D2 ≠ D := fun e => by rw [e, hDa] at hD2; cases hD2
        exact hR _ _ r3 ⟨D2, rfl, nD, fun m2 h2 => by rw [em] at h2; cases h2; exact hDz⟩
    rw [txs_len] at hly
    obtain ⟨sa, hsa⟩ := fun_of (γ := Addr) hgd.hnd (P := fun j mm t => ys[j]? = some (V.ref t) ∧ H2 t = some (.lst (txs (sg.map (tg mm))))) fun j mm hj => by
      have hjl : j < ys.length := by rw [hly]; exact (List.getElem?_eq_some_iff.mp hj).1
      obtain ⟨t, e, _, h⟩ := hg j _ (List.getElem?_eq_getElem hjl)
      exact ⟨t, by rw [List.getElem?_eq_getElem hjl, e], h mm hj⟩
    have eys : ys = ms.map fun x => V.ref (sa x) := list_map hly fun j y x e1 e2 => by have := (hsa j x e2).1; rw [e1] at this; exact Option.some.inj this
    subst eys
    have hsa2 : ∀ x ∈ ms, H2 (sa x) = some (.lst (txs (sg.map (tg x)))) := fun x hx => by obtain ⟨j, hj⟩ := List.getElem?_of_mem hx; exact (hsa j x hj).2
    have t2 := t.same r2
    refine ⟨_, rfl, _, _, rfl, t2.signs, _, rfl, _, _, rfl, t2.marks, _, rfl, _, _, rfl, t2.first, _, rfl, fun p dx hp hdx hne => ?_⟩
    have hpx : ∀ b o, H2 b = some o → b ≠ p ∧ b ≠ dx := fun b o e => ⟨fun z => (by rw [← z, e] at hp; cases hp), fun z => (by rw [← z, e] at hdx; cases hdx)⟩
    have kp : ∀ b o, H2 b = some o → (upd (upd H2 dx (.own p)) p (.ins C dx [])) b = some o := fun b o e => by rw [upd_ne (hpx b o e).1, upd_ne (hpx b o e).2]; exact e
    refine .inl ⟨p, dx, pm, D, true, true, true, sg, ms, f, tg, sa, rfl, upd_same, kp _ _ t2.hpm, kp _ _ hDs, fun x hx => kp _ _ (hsa2 x hx), hgd, fun H' hk hr => ⟨rfl, k p H' (fun b o e => ?_) ?_ hr⟩⟩
    · have e2 := r2 _ _ e
      exact hk b o (hpx b o e2).1 (kp b o e2)
    · cases e : H p with
      | none => rfl
      | some o => exact absurd rfl (hpx p o (r2 _ _ e)).1
end
end Toy
set_option maxHeartbeats 4000000
namespace LX
open PySem PySem.Spec PyProof.Rows L2 C8 SX ClX
structure CMX (P : Program) (w : World) (K : PySem.W.Frag) (mg : Str → Option Value) (base : Heap) (k : Nat) (C : Addr) (m : Str) (sp : Sp) : Prop where
  ex : ∃ (p g : Addr) (fd : FuncData) (ps : List Str) (mc : Value), CRead K C mc ∧ CMet K C mc m p g ∧ FnOk P w K mg base (L2.CX P w) k g fd ps sp ∧ Binds K fd ps []
def tCMX (C : Addr) (sp : Sp) (E : L2.St → XK) (ta : TE) (t : TA) : TE := fun σ H Q => ta σ H fun x H1 => x = .ref C ∧ t σ H1 fun vs H2 => sp (.ref C :: vs) H2 Q (E σ)
section
variable {X : Cx} {k j : Nat} {C : Addr} {m : Str} {sp : Sp} {W : WX} {o e : Expr} {es : List Expr} {pos apos : Pos} {ta : TE} {t : TA} {pl : Sem Bool}
theorem run_codeS {f : Addr} {fd : FuncData} {ps : List Str} {σ : L2.St} {pins : List (Addr × Obj)} {H : Hp} {s : Shared} {Q : VK} {us : List Value} {vs : List V} (F : FnOk X.prog X.w X.K X.mg X.base (L2.CX X.prog X.w) k f fd ps sp) (hr : Room k X.A) (hb : Binds X.K fd ps []) (hx : PassesAt (L2.CX X.prog X.w) X σ (WE W σ))
    (I : Inv X pins σ H s) (r : Vals vs us) (h : sp vs H Q (WE W σ)) : codeAny (model X.prog X.w) X.A (.call (.ref f) ⟨us, []⟩) (fun r s' => match r with | .ok (.ret v) => EP X pins σ Q v s' | .ok _ => False | .error e => X.xe e s') s := by
  have hl : us.length = ps.length := by rw [← r.length]; exact F.len _ _ _ _ h
  have b := hb s us I.kIn (by rw [List.append_nil]; exact hl)
  rw [List.append_nil] at b
  refine codeAny_mono (F.run X.A X.stack s H ⟨us, []⟩ us vs Q (WE W σ) hr I.env0 b r h) fun r s' hq => ?_
  cases r with
  | error e => exact hx pins H s e s' I hq
  | ok fl =>
    cases fl with
    | ret u => exact I.after hq
    | next => exact False.elim hq
    | brk => exact False.elim hq
    | cont => exact False.elim hq
theorem pe_cmX (c : CMX X.prog X.w X.K X.mg X.base k C m sp) (tk : Takes X W) (hr : Room j X.A) (hk : k ≤ j) (he : PE X o ta) (ha : PA X (e :: es) t)
    (hst : starEach (e :: es) X.env = (false, eval e X.env) :: starEach es X.env := by rfl) (hpl : (backTo pos (starEach es X.env)).any (·.1) = false := by rfl)
    (ht : eval (.Call (.Attribute o m apos) (e :: es) [] pos) X.env = (do
      let ov ← eval o X.env
      standAt apos.atName
      let (f, first) ← holding [ov] (getMethod ov m pl)
      callWith pos f first (backTo pos (starEach (e :: es) X.env)) (backToKw pos (keywordEach [] X.env))) := by rfl) :
    PE X (.Call (.Attribute o m apos) (e :: es) [] pos) (tCMX C sp (WE W) ta t) := by
  obtain ⟨p, g, fd, ps, mc, r, cm, F, hb⟩ := c.ex
  refine ⟨fun pins s σ H Q I h => ?_⟩
  refine PySem.W.methodCall_KW (pl := pl) (thn (he.run pins s σ H _ I h) fun u s1 ⟨x, H1, I1, rx, ex, q⟩ => ?_) ht
  subst ex
  obtain rfl : u = Value.ref C := rx
  refine getmethcm_ok I1 r cm fun s2 I2 => ?_
  refine callwith_cm I2 (base_none I1 (Nat.le_refl _)) cm.fi (thn (ha.run pos _ s2 σ H1 _ I2 q) fun us s3 ⟨vs, H2, I3, rv, q2⟩ => ⟨⟨pin_at I3, I3.kIn⟩, ?_⟩) hst hpl
  have z : wpAny (model X.prog X.w) X.A (call (.ref s1.heap.objs.size) us) (EP X ((s1.heap.objs.size, PySem.W.methodObj (.ref g) (.ref C)) :: pins) σ Q) X.xe s3 :=
    wpAny_call (PySem.W.method_call (pin_at I3) (run_codeS (us := .ref C :: us) (vs := .ref C :: vs) F (hr.mono hk) hb (passAt tk σ) I3 (.cons rfl rv) q2))
  exact thn z fun _ _ y => unpinE y
theorem pe_c0 {x : Str} {p : Pos} {sp : Sp} {dvs : List V} (c : C8.Cal X.prog X.w X.K X.mg X.base k x sp dvs) (hr : Room j X.A) (hk : k ≤ j) (hg : Gl X x) (hdb : (x == ("__debug__" : Str)) = false := by decide) : PE X (.Call (.Name x p) [] [] pos) (tCall sp dvs C8.E0 tNil) := by
  obtain ⟨f, fd, ps, ds, F, hm, kp, b, d⟩ := c.ex
  exact pe_call0 F (hr.mono hk) hg hm kp b d C8.pass0 hdb
end
end LX
set_option maxHeartbeats 2000000
namespace Toy
open PySem L2 C8 SX LX
def wordsL (l : List Nat) : List (List Nat) := TL.spl [32] 0 [] l
def toldL (w l : List Nat) : Bool := match wordsL l with
  | [a, b] => decide (a = w) && !decide (b = [])
  | _ => false
def tgtL (l : List Nat) : Option (List Nat × List (List Nat)) := match TL.par [58, 32] [] l with
  | none => none
  | some (m, r) => if Name m ∧ ∀ t ∈ wordsL r, Name t then some (m, wordsL r) else none
def rdW : List Nat := [114, 101, 97, 100, 101, 114]
def fiW : List Nat := [102, 105, 114, 115, 116]
theorem s_rdW : (Str.ofString "reader") = S rdW := by decide +kernel
theorem s_fiW : (Str.ofString "first") = S fiW := by decide +kernel
def goodL (at_ : Nat) (l : List Nat) : Bool := if at_ = 0 then toldL rdW l else if at_ = 1 then toldL fiW l else (tgtL l).isSome
def EndIs (ls : List (List Nat)) (e : Nat) : Prop := e ≤ ls.length ∧ (∀ j l, j < e → ls[j]? = some l → goodL j l = true) ∧ ∀ l, ls[e]? = some l → goodL e l = false
theorem spl_len (s : List Nat) : ∀ (l : List Nat) (k : Nat) (acc : List Nat), (TL.spl s k acc l).length ≤ l.length + 1 ∧ ∀ x ∈ TL.spl s k acc l, x.length ≤ acc.length + l.length
  | [], k, acc => by
    rw [TL.spl_nil]
    exact ⟨by simp, fun x hx => by rw [List.mem_singleton.mp hx]; simp⟩
  | c :: r, 0, acc => by
    unfold TL.spl
    split
    · have h := spl_len s r (s.length - 1) []
      refine ⟨by simp only [List.length_cons]; omega, fun x hx => ?_⟩
      rcases List.mem_cons.mp hx with rfl | hx
      · omega
      · have := h.2 x hx; simp only [List.length_cons, List.length_nil] at this ⊢; omega
    · have h := spl_len s r 0 (acc ++ [c])
      refine ⟨by simp only [List.length_cons]; omega, fun x hx => ?_⟩
      have := h.2 x hx; simp only [List.length_append, List.length_cons, List.length_nil] at this ⊢; omega
  | c :: r, k + 1, acc => by
    unfold TL.spl
    have h := spl_len s r k acc
    refine ⟨by simp only [List.length_cons]; omega, fun x hx => ?_⟩
    have := h.2 x hx; simp only [List.length_cons]; omega
theorem words_len {l : List Nat} {n : Nat} (h : l.length ≤ n) : (wordsL l).length ≤ n + 1 ∧ ∀ x ∈ wordsL l, x.length ≤ n := by
  obtain ⟨h1, h2⟩ := spl_len [32] l 0 []
  exact ⟨Nat.le_trans h1 (by omega), fun x hx => by have := h2 x hx; simp only [List.length_nil] at this; omega⟩
theorem par_len : ∀ (l acc : List Nat) {a b : List Nat}, TL.par [58, 32] acc l = some (a, b) → a.length ≤ acc.length + l.length ∧ b.length ≤ l.length
  | [], acc, a, b, h => by cases h
  | c :: r, acc, a, b, h => by
    unfold TL.par at h
    split at h
    · cases h; exact ⟨by omega, by rw [List.length_drop]; omega⟩
    · have := par_len r (acc ++ [c]) h
      simp only [List.length_append, List.length_cons, List.length_nil] at this ⊢
      omega
theorem S_tl (l : List Nat) : TL.tl (S l) = l := by simp [TL.tl, S]
theorem part_S (l : List Nat) : Txt.partition (S l) (Str.ofString ": ") = match TL.par [58, 32] [] l with
    | some (a, b) => (S a, S [58, 32], S b)
    | none => (S l, S [], S []) := by
  have e : (Str.ofString ": ") = S [58, 32] := s_cs
  rw [e, TL.partition_par _ _ (by rw [S_tl]; simp), S_tl, S_tl]
  cases TL.par [58, 32] [] l with
  | none => rfl
  | some p => rfl
theorem split_sp (l : List Nat) : Txt.split (S l) (Str.ofString " ") = (wordsL l).map S := by
  rw [s_sp]; exact split_S (by simp) (by decide)
theorem strs_txs (ls : List (List Nat)) : ((ls.map S).map V.str) = txs ls := by rw [List.map_map]; rfl
section
variable {P : Program} {w : World} {K : PySem.W.Frag} {mg : Str → Option Value} {base : Heap}
abbrev s_xit : Stmt := inClass (top 5) 0
abbrev n_xit : List Str := ["self", "at"]
theorem sc_xit : FnScope n_xit ["self", "at"] (fnScope s_xit) := fnScope_by (by decide +kernel)
theorem ok_xit {C : Addr} (x_ : XQ K mg "InvalidText" C) (n_ : PySem.W.findIn K (.ref C) "at" = some none) {f : Addr} (iC : PySem.W.findIn K (.ref C) "__init__" = some (some (.ref f))) (tI : PySem.W.typeIn K (.ref f) = some (.type "function")) {fd : FuncData} (F : C8.Fun K "__init__" "InvalidText.__init__" s_xit f fd) (b : Binds K fd ["self", "at"] []) : RaiX P w K mg base 1 "InvalidText" C (spXInit C "at") := by
  refine raiX x_.x iC tI x_.g F b sc_xit (fun vs H Q E h => ?_) (fun cdv A outer s H vs Q E hr h => ?_)
  · obtain ⟨a, v, rfl, _⟩ := h; rfl
  · obtain ⟨a, v, rfl, ha, k⟩ := h
    refine ⟨_, (pss_one (ps_ostG (pv 0) (pv 1))
      ), ?_⟩
    exact ⟨_, rfl, _, rfl, a, C, rfl, x_.x, n_, ha, fun dx h1 h2 => k dx h1 h2⟩
abbrev s_lot : Stmt := top 21
abbrev n_lot : List Str := ["text"]
theorem sc_lot : FnScope n_lot ["text"] (fnScope s_lot) := fnScope_by (by decide +kernel)
def BadAtE (CT : Addr) (i : Int) (H : Hp) (E : XK) : Prop := ∀ (d : Addr) (H' : Hp), Same H H' → H' d = some (.xd [("at", .int i)]) → E (.ref CT) (some d) H'
def NoNl (ls : List (List Nat)) : Prop := ls ≠ [] ∧ (∀ l ∈ ls, 10 ∉ l) ∧ ls.length ≤ 100 ∧ ∀ l ∈ ls, l.length ≤ 100
def spLot (K : PySem.W.Frag) (CT : Addr) : Sp := fun vs H Q E => ∃ v : V, vs = [v] ∧ ((Kv K H v none ∧ BadAtE CT 0 H E) ∨ ∃ ls : List (List Nat), v = .str (S (TL.joinL [10] ls)) ∧ NoNl ls ∧ ∀ (p : Addr) (H' : Hp), Same H H' → H p = none → H' p = some (.lst (txs ls)) → Q (.ref p) H')
theorem nl_len {ls : List (List Nat)} (h : NoNl ls) : (TL.joinL [10] ls).length ≤ 10100 := by
  have h2 := joinL_len (sep := [10]) (m := 100) (ys := ls) h.2.2.2
  have h3 := h.2.2.1
  simp only [List.length_cons, List.length_nil] at h2
  omega
theorem ok_lot {CT : Addr} (T : BT mg) (c_InvalidText : RaiX P w K mg base 1 "InvalidText" CT (spXInit CT "at")) {f : Addr} {fd : FuncData} (F : Def K mg "lines_of_text" s_lot f fd) (b : Binds K fd ["text"] []) : CalX P w K mg base 3 "lines_of_text" (spLot K CT) := by
  refine calX F b sc_lot (fun vs H Q E h => ?_) (fun cdv A outer s H vs Q E hr h => ?_)
  · obtain ⟨v, rfl, _⟩ := h; rfl
  · obtain ⟨v, rfl, h⟩ := h
    refine ⟨_, (pss_cons (ps_if (pt_not (pt_val (pe_callB (isiK K) (by rfl) T.m_isinstance PyProof.Rows.boot_isinstance (pa_cons (pv 0) (pa_cons (pe_bltn (v := .ty "str") (by rfl) T.m_str PyProof.Rows.boot_str rfl) pa_nil))))) 
        (pss_one (ps_raise rfl (takes_of rfl rfl rfl rfl) (pmk_rai c_InvalidText hr (by decide) (by rfl) (pa_cons pe_int pa_nil)))
        )
       pss_nil)
      (pss_one (ps_ret (pe_split (pv 0) pe_str))
      )), ?_⟩
    rcases h with ⟨hv, k⟩ | ⟨ls, rfl, hn, k⟩
    · cases hv with
      | no ty hk =>
        refine ⟨_, rfl, _, _, _, _, false, rfl, .ty _, ty, hk, false, rfl, iteB rfl ?_⟩
        exact ⟨by decide, raise_read fun d hd => k d _ (sm_new hd) upd_same⟩
    · refine ⟨_, rfl, _, _, _, _, true, rfl, .ty _, .base (.str _), kit_ty (by decide +kernel), true, rfl, iteN rfl ?_⟩
      have hl := nl_len hn
      refine ⟨_, rfl, ⟨_, rfl⟩, _, _, rfl, rfl, by decide, by rw [S_len]; exact Nat.le_trans (show _ ≤ 10102 by omega) (by decide), fun p hp => ?_⟩
      have e : (Txt.split (S (TL.joinL [10] ls)) (Str.ofString "\n")).map V.str = txs ls := by
        rw [s_nl, split_S (by simp) (by decide), TL.spl_join hn.1 hn.2.1, strs_txs]
      rw [e]
      exact k p _ (sm_new hp) hp upd_same
abbrev s_istold : Stmt := top 25
abbrev n_istold : List Str := ["line", "word", "words"]
theorem sc_istold : FnScope n_istold ["line", "word"] (fnScope s_istold) := fnScope_by (by decide +kernel)
def spTold : Sp := fun vs H Q _ => ∃ l wd : List Nat, vs = [.str (S l), .str (S wd)] ∧ l.length ≤ 100 ∧ ∀ H', Same H H' → Q (.bl (toldL wd l)) H'
theorem ok_told (T : BT mg) {f : Addr} {fd : FuncData} (F : Def K mg "is_told" s_istold f fd) (b : Binds K fd ["line", "word"] []) : Cal P w K mg base 1 "is_told" spTold [] := by
  refine cal0 F b .nil sc_istold (fun vs H Q E h => ?_) (fun cdv A outer s H vs Q E hr h => ?_)
  · obtain ⟨l, wd, rfl, _⟩ := h; rfl
  · obtain ⟨l, wd, rfl, hl, k⟩ := h
    refine ⟨_, (pss_cons (ps_set (i := 2) sc_istold.nd rfl (.inl rfl) (pe_split (pv 0) pe_str))
      (pss_one (ps_ret (pe_and (pe_cmpR op_eq (pe_callB (lenK K) (by rfl) T.m_len PySem.boot_len (pa_cons (pv 2) pa_nil)) pe_int (nomark _)) (pe_and (pe_cmpR op_eq (pe_ix (ixl K) (pv 2) pe_int (fun _ _ => rfl)) (pv 1) (nomark _)) (pe_one (pe_cmpR op_ne (pe_ix (ixl K) (pv 2) pe_int (fun _ _ => rfl)) pe_str (nomark _))))))
      )), ?_⟩
    refine ⟨_, rfl, ⟨_, rfl⟩, _, _, rfl, rfl, by decide, by rw [S_len]; exact Nat.le_trans (show l.length + 2 ≤ 102 by omega) (by decide), fun p hp => ?_⟩
    rw [split_sp, strs_txs]
    have hp1 : (upd H p (.lst (txs (wordsL l)))) p = some (.lst (txs (wordsL l))) := upd_same
    have s1 : Same H (upd H p (.lst (txs (wordsL l)))) := sm_new hp
    generalize upd H p (.lst (txs (wordsL l))) = H1 at hp1 s1 ⊢
    refine ⟨_, rfl, p, _, rfl, .inl (SqL.of hp1), rfl, _, rfl, ?_⟩
    rw [txs_len]
    unfold toldL at k
    match hw : wordsL l, hp1, k with
    | [], _, k => exact iteN (by simp) (k H1 s1)
    | [a], _, k => exact iteN (by simp) (k H1 s1)
    | a :: b :: c :: r, _, k => exact iteN (decide_eq_false fun h => by have := V.int.inj h; simp at this; omega) (k H1 s1)
    | [a, b], hp1, k =>
      refine iteB (by simp) ?_
      refine ⟨_, rfl, _, _, _, _, rfl, rfl, SqL.of hp1, rfl, _, rfl, rfl, _, rfl, ?_⟩
      by_cases ha : a = wd
      · subst ha
        refine iteB (decide_eq_true rfl) ?_
        refine ⟨_, rfl, _, _, _, _, rfl, rfl, SqL.of hp1, rfl, rfl, ?_⟩
        have e : (decide (a = a) && !decide (b = [])) = !decide (V.str (S b) = V.str (Str.ofString "")) := by
          rw [decide_eq_true rfl, Bool.true_and, s_nil]
          refine congrArg not (decide_eq_decide.mpr ?_)
          rw [V.str.injEq]
          exact ⟨fun h => by rw [h], fun h => by simpa [S] using h⟩
        have k : ∀ H', Same H H' → Q (.bl (decide (a = a) && !decide (b = []))) H' := k
        rw [e] at k
        exact k H1 s1
      · refine iteN (decide_eq_false fun h => ha (by simpa [S] using V.str.inj h)) ?_
        have k : ∀ H', Same H H' → Q (.bl (decide (a = wd) && !decide (b = []))) H' := k
        rw [decide_eq_false ha, Bool.false_and] at k
        exact k H1 s1
abbrev s_tol : Stmt := top 26
abbrev n_tol : List Str := ["line", "mark", "colon", "rest", "targets", "word"]
theorem sc_tol : FnScope n_tol ["line"] (fnScope s_tol) := fnScope_by (by decide +kernel)
def spTol : Sp := fun vs H Q _ => ∃ l : List Nat, vs = [.str (S l)] ∧ l.length ≤ 100 ∧ ((tgtL l = none ∧ ∀ H', Same H H' → Q .non H') ∨ ∃ (m : List Nat) (ts : List (List Nat)), tgtL l = some (m, ts) ∧
  ∀ (p q : Addr) (H' : Hp), Same H H' → H q = none → H' p = some (.tup [.str (S m), .ref q]) → H' q = some (.lst (txs ts)) → Q (.ref p) H')
theorem ok_tol (T : BT mg) (c_isname : Cal P w K mg base 3 "is_name" spIsName []) {f : Addr} {fd : FuncData} (F : Def K mg "_targets_of_line" s_tol f fd) (b : Binds K fd ["line"] []) : Cal P w K mg base 4 "_targets_of_line" spTol [] := by
  refine cal0 F b .nil sc_tol (fun vs H Q E h => ?_) (fun cdv A outer s H vs Q E hr h => ?_)
  · obtain ⟨l, rfl, _⟩ := h; rfl
  · obtain ⟨l, rfl, hl, h⟩ := h
    refine ⟨_, (pss_cons (ps_asg (pe_partition (pv 0) pe_str) (tupK K 3 (pgs_cons (pg_name (i := 1) sc_tol.nd rfl (.inl rfl)) (pgs_cons (pg_name (i := 2) sc_tol.nd rfl (.inl rfl)) (pgs_cons (pg_name (i := 3) sc_tol.nd rfl (.inl rfl)) pgs_nil)))))
      (pss_cons (ps_set (i := 4) sc_tol.nd rfl (.inl rfl) (pe_split (pv 3) pe_str))
      (pss_cons (ps_if (PW.pt (pw_or (pt_cmpR op_eq (pv 2) pe_str (nomark _)) (pw_or1 (pt_not (pt_val (pe_callB (cr_all rfl) (by rfl) T.m_all PyProof.Rows.boot_all (pa_cons (pe_lc (own := [("word", 5)]) rfl sc_tol.nd (pi_list (pe_op op_cat (pe_lst (pa_cons (pv 1) pa_nil)) (pv 4))) (blkOk_by (N := n_tol) (sc := fnScope s_tol) (by decide +kernel)) (fun _ _ _ _ _ => (pg_name (i := 5) sc_tol.nd rfl (.inl rfl))) (fun _ _ _ _ _ => pts_nil) (fun _ _ _ _ _ => (pe_c c_isname hr (by first | decide | omega) (by rfl) (pa_cons (pv 5) pa_nil)))) pa_nil))))))) 
        (pss_one (ps_ret pe_non)
        )
       pss_nil)
      (pss_one (ps_ret (pe_tup (pa_cons (pv 1) (pa_cons (pv 4) pa_nil))))
      )))), ?_⟩
    refine ⟨_, rfl, ⟨_, rfl⟩, _, _, rfl, rfl, by decide, by rw [S_len]; exact Nat.le_trans hl (by decide), fun p hp => ?_⟩
    rw [part_S]
    cases hpar : TL.par [58, 32] [] l with
    | none =>
      have e : tgtL l = none := by unfold tgtL; rw [hpar]
      rcases h with ⟨_, k⟩ | ⟨m, ts, h, _⟩
      · refine ⟨p, _, rfl, SqT.of upd_same, rfl, _, _, rfl, _, _, rfl, _, _, rfl, rfl, ?_⟩
        refine ⟨_, rfl, ⟨_, rfl⟩, _, _, rfl, rfl, by decide, by rw [S_len]; decide, fun q hq => ?_⟩
        refine ⟨_, rfl, rfl, _, rfl, iteB (by rw [s_nil]; simp) ?_⟩
        exact k _ ((sm_new hp).trans (sm_new hq))
      · rw [e] at h; cases h
    | some mr =>
      obtain ⟨m, r⟩ := mr
      obtain ⟨lm, lr⟩ := par_len l [] hpar
      simp only [List.length_nil] at lm
      refine ⟨p, _, rfl, SqT.of upd_same, rfl, _, _, rfl, _, _, rfl, _, _, rfl, rfl, ?_⟩
      refine ⟨_, rfl, ⟨_, rfl⟩, _, _, rfl, rfl, by decide, by rw [S_len]; exact Nat.le_trans (show r.length + 2 ≤ 102 by omega) (by decide), fun q hq => ?_⟩
      rw [split_sp, strs_txs]
      have hq1 : (upd (upd H p (.tup [V.str (S m), V.str (S [58, 32]), V.str (S r)])) q (.lst (txs (wordsL r)))) q = some (.lst (txs (wordsL r))) := upd_same
      have s1 : Same H (upd (upd H p (.tup [V.str (S m), V.str (S [58, 32]), V.str (S r)])) q (.lst (txs (wordsL r)))) := (sm_new hp).trans (sm_new hq)
      generalize upd (upd H p (.tup [V.str (S m), V.str (S [58, 32]), V.str (S r)])) q (.lst (txs (wordsL r))) = H1 at hq1 s1 ⊢
      refine ⟨_, rfl, rfl, _, rfl, iteN (by rw [s_nil]; simp [S]) ?_⟩
      refine ⟨_, rfl, by show 1 ≤ sizeLine; decide, fun t ht => ⟨_, rfl, t, q, _, _, rfl, rfl, upd_same, sm_new ht _ _ hq1, by rw [txs_len]; have := (words_len (l := r) (n := 100) (by omega)).1; exact Nat.le_trans (show 1 + (wordsL r).length ≤ 1000 by omega) (by decide), fun u hu => ⟨u, rfl, ⟨_, SqL.of upd_same⟩, fun D hD => ?_⟩⟩⟩
      have s2 : Same H1 (upd (upd H1 t (.lst [V.str (S m)])) u (.lst ([V.str (S m)] ++ txs (wordsL r)))) := (sm_new ht).trans (sm_new hu)
      have hu2 : (upd (upd H1 t (.lst [V.str (S m)])) u (.lst ([V.str (S m)] ++ txs (wordsL r)))) u = some (.lst (txs (m :: wordsL r))) := upd_same
      have hD : (upd (upd H1 t (.lst [V.str (S m)])) u (.lst ([V.str (S m)] ++ txs (wordsL r)))) D = none := hD
      show ∃ W : Nat → Nat → Hp → Prop, (∃ m_1, W 0 m_1 (upd (upd (upd H1 t (.lst [V.str (S m)])) u (.lst ([V.str (S m)] ++ txs (wordsL r)))) D (.lst []))) ∧ _
      generalize upd (upd H1 t (.lst [V.str (S m)])) u (.lst ([V.str (S m)] ++ txs (wordsL r))) = H2 at s2 hu2 hD ⊢
      have hlen : (m :: wordsL r).length ≤ 102 := by rw [List.length_cons]; have := (words_len (l := r) (n := 100) (by omega)).1; omega
      refine lc_keep keep_same (walk_list (K := K) (a := u) (xs := txs (m :: wordsL r))) hD (by rw [txs_len]; exact small1000 (by omega)) (fun j y => ∀ x, (m :: wordsL r)[j]? = some x → y = .bl (decide (Name x))) (fun H2 r => SqL.of (r _ _ hu2)) (fun i x H4 H3 R hii r1 hy hR => ?_) (fun ys H4 hly hg r1 hDs => ?_)
      · obtain ⟨rfl, e⟩ := hy
        obtain ⟨y, ey, rfl⟩ := txs_get e
        have hy16 : y.length ≤ 16000000 := by
          rcases List.mem_cons.mp (List.mem_of_getElem? ey) with rfl | h
          · omega
          · have := (words_len (l := r) (n := 100) (by omega)).2 y h; omega
        refine ⟨rfl, ?_⟩
        exact ⟨_, rfl, y, rfl, hy16, hR _ _ (Same.refl _) fun z hz => by rw [ey] at hz; cases hz; rfl⟩
      have eb : ys = ((m :: wordsL r).map fun x => decide (Name x)).map V.bl := by
        rw [List.map_map]
        refine list_map (hly.trans (txs_len _)) fun j y x e1 e2 => hg j y e1 x e2
      refine ⟨D, (m :: wordsL r).map fun x => decide (Name x), rfl, SqL.of (by rw [← eb]; exact hDs), ?_⟩
      have sA := (s1.trans s2).trans r1
      by_cases hN : Name m ∧ ∀ t ∈ wordsL r, Name t
      · have e : tgtL l = some (m, wordsL r) := by unfold tgtL; rw [hpar]; exact if_pos hN
        rcases h with ⟨h, _⟩ | ⟨m2, ts2, h, k⟩
        · rw [e] at h; cases h
        rw [e] at h; cases h
        refine ⟨_, rfl, iteN ?_ ?_⟩
        · rw [List.all_map, Bool.not_eq_false', List.all_eq_true]
          intro x hx
          rcases List.mem_cons.mp hx with rfl | hx
          · exact decide_eq_true hN.1
          · exact decide_eq_true (hN.2 x hx)
        refine ⟨_, rfl, _, rfl, by show 2 ≤ sizeLine; decide, fun z hz => ?_⟩
        exact k z q _ (sA.trans (sm_new hz)) (same_new (sm_new hp) hq) upd_same ((s2.trans r1).trans (sm_new hz) _ _ hq1)
      · have e : tgtL l = none := by unfold tgtL; rw [hpar]; exact if_neg hN
        rcases h with ⟨_, k⟩ | ⟨m2, ts2, h, _⟩
        · refine ⟨_, rfl, iteB ?_ (k _ sA)⟩
          rw [List.all_map, Bool.not_eq_true', Bool.eq_false_iff]
          intro h
          have h := List.all_eq_true.mp h
          exact hN ⟨of_decide_eq_true (h m List.mem_cons_self), fun t ht => of_decide_eq_true (h t (List.mem_cons_of_mem _ ht))⟩
        · rw [e] at h; cases h
abbrev s_rend : Stmt := top 22
abbrev n_rend : List Str := ["lines", "at", "line"]
theorem sc_rend : FnScope n_rend ["lines"] (fnScope s_rend) := fnScope_by (by decide +kernel)
theorem at_i {ls : List (List Nat)} {e i : Nat} {l : List Nat} (h : EndIs ls e) (hi : i ≤ e) (hl : ls[i]? = some l) : (i < e ∧ goodL i l = true) ∨ (i = e ∧ goodL i l = false) := by
  rcases Nat.lt_or_eq_of_le hi with h1 | h1
  · exact .inl ⟨h1, h.2.1 i l h1 hl⟩
  · subst h1; exact .inr ⟨rfl, h.2.2 l hl⟩
def spEnd : Sp := fun vs H Q _ => ∃ (p : Addr) (ls : List (List Nat)) (e : Nat), vs = [.ref p] ∧ H p = some (.lst (txs ls)) ∧ ls.length ≤ 100 ∧ (∀ l ∈ ls, l.length ≤ 100) ∧ EndIs ls e ∧ ∀ H', Same H H' → Q (.int (e : Nat)) H'
theorem ok_rend (T : BT mg) (c_istold : Cal P w K mg base 1 "is_told" spTold []) (c_tol : Cal P w K mg base 4 "_targets_of_line" spTol []) {f : Addr} {fd : FuncData} (F : Def K mg "reader_end" s_rend f fd) (b : Binds K fd ["lines"] []) : Cal P w K mg base 5 "reader_end" spEnd [] := by
  refine cal0 F b .nil sc_rend (fun vs H Q E h => ?_) (fun cdv A outer s H vs Q E hr h => ?_)
  · obtain ⟨p, ls, e, rfl, _⟩ := h; rfl
  · obtain ⟨p, ls, e, rfl, hp, hl100, hl, he, k⟩ := h
    refine ⟨_, (pss_cons (ps_for PassesOwn.never rfl (pi_enumX (by rfl) T.m_enumerate (pa_cons (pv 0) pa_nil)) (tupK K 2 (pgs_cons (pg_name (i := 1) sc_rend.nd rfl (.inl rfl)) (pgs_cons (pg_name (i := 2) sc_rend.nd rfl (.inl rfl)) pgs_nil))) 
        (pss_cons (ps_if (PW.pt (pw_and (pt_cmpR op_eq (pv 1) pe_int (nomark _)) (pw_and1 (pt_not (pt_val (pe_c c_istold hr (by first | decide | omega) (by rfl) (pa_cons (pv 2) (pa_cons pe_str pa_nil)))))))) 
          (pss_one (ps_ret (pv 1))
          )
         pss_nil)
        (pss_cons (ps_if (PW.pt (pw_and (pt_cmpR op_eq (pv 1) pe_int (nomark _)) (pw_and1 (pt_not (pt_val (pe_c c_istold hr (by first | decide | omega) (by rfl) (pa_cons (pv 2) (pa_cons pe_str pa_nil)))))))) 
          (pss_one (ps_ret (pv 1))
          )
         pss_nil)
        (pss_one (ps_if (PW.pt (pw_and (pt_cmpR op_gt (pv 1) pe_int (nomark _)) (pw_and1 (pt_cmpR op_isN (pe_c c_tol hr (by first | decide | omega) (by rfl) (pa_cons (pv 2) pa_nil)) pe_non (nomark _))))) 
          (pss_one (ps_ret (pv 1))
          )
         pss_nil)
        ))))
      (pss_one (ps_ret (pe_callB (lenK K) (by rfl) T.m_len PySem.boot_len (pa_cons (pv 0) pa_nil)))
      )), ?_⟩
    refine ⟨_, rfl, .ref p, .lst p, rfl, rfl, ⟨_, SqL.of hp⟩, ?_⟩
    refine for_it (walk_enumX (K := K) (S := .lst p) (xs := txs ls)) (fun i σ H' => (∃ s1 s2 : Option V, σ = [some (.ref p), s1, s2]) ∧ Same H H' ∧ i ≤ e) ⟨⟨_, _, rfl⟩, Same.refl _, Nat.zero_le _⟩ (fun _ _ _ _ h => SqL.of (h.2.1 _ _ hp)) ?_ ?_
    · rintro i x σ H1 H1' hi ⟨⟨s1, s2, rfl⟩, e1, hie⟩ hy
      obtain ⟨t, x1, x2, rfl, ht, rfl, ex1, ex2⟩ := hy
      obtain ⟨l, el, rfl⟩ := txs_get (show (txs ls)[i]? = some x2 from ex2)
      cases ex1
      have hll := hl l (List.mem_of_getElem? el)
      refine ⟨t, _, rfl, SqT.of upd_same, rfl, _, _, rfl, _, _, rfl, rfl, ?_⟩
      have s2 : Same H (upd H1 t (.tup [V.int (i : Nat), V.str (S l)])) := e1.trans (sm_new ht)
      generalize upd H1 t (.tup [V.int (i : Nat), V.str (S l)]) = H2 at s2 ⊢
      have hc := at_i he hie el
      have next : ∀ H', Same H2 H' → goodL i l = true → (∃ s1 s2 : Option V, ([some (V.ref p), some (V.int (i : Nat)), some (V.str (S l))] : L2.St) = [some (V.ref p), s1, s2]) ∧ Same H H' ∧ i + 1 ≤ e := fun H' s' hg => by
        rcases hc with ⟨h1, _⟩ | ⟨_, h2⟩
        · exact ⟨⟨_, _, rfl⟩, s2.trans s', h1⟩
        · rw [hg] at h2; cases h2
      have back : ∀ H', Same H2 H' → goodL i l = false → Q (.int (i : Nat)) H' := fun H' s' hg => by
        rcases hc with ⟨_, h2⟩ | ⟨h1, _⟩
        · rw [hg] at h2; cases h2
        · rw [h1]; exact k H' (s2.trans s')
      match i, next, back with
      | 0, next, back =>
        refine ⟨_, rfl, rfl, _, rfl, iteB (by simp) ?_⟩
        refine ⟨_, rfl, l, rdW, by rw [s_rdW]; rfl, hll, fun H3 s3 => ⟨_, rfl, ?_⟩⟩
        cases hg : toldL rdW l with
        | false => exact iteB rfl ⟨_, rfl, back H3 s3 hg⟩
        | true =>
          refine iteN rfl ?_
          refine ⟨_, rfl, rfl, _, rfl, iteN (by simp) (iteN rfl ?_)⟩
          refine ⟨_, rfl, _, _, rfl, rfl, _, rfl, iteN (by simp) (iteN rfl ?_)⟩
          exact next H3 s3 hg
      | 1, next, back =>
        refine ⟨_, rfl, rfl, _, rfl, iteN (by simp) (iteN rfl ?_)⟩
        refine ⟨_, rfl, rfl, _, rfl, iteB (by simp) ?_⟩
        refine ⟨_, rfl, l, fiW, by rw [s_fiW]; rfl, hll, fun H3 s3 => ⟨_, rfl, ?_⟩⟩
        cases hg : toldL fiW l with
        | false => exact iteB rfl ⟨_, rfl, back H3 s3 hg⟩
        | true =>
          refine iteN rfl ?_
          refine ⟨_, rfl, _, _, rfl, rfl, _, rfl, iteN (by simp) (iteN rfl ?_)⟩
          exact next H3 s3 hg
      | i + 2, next, back =>
        refine ⟨_, rfl, rfl, _, rfl, iteN (decide_eq_false fun h => by have := V.int.inj h; omega) (iteN rfl ?_)⟩
        refine ⟨_, rfl, rfl, _, rfl, iteN (decide_eq_false fun h => by have := V.int.inj h; omega) (iteN rfl ?_)⟩
        refine ⟨_, rfl, _, _, rfl, rfl, _, rfl, iteB (decide_eq_true (by omega)) ?_⟩
        cases hg : tgtL l with
        | none =>
          have hb : goodL (i + 2) l = false := by show (tgtL l).isSome = false; rw [hg]; rfl
          exact ⟨_, rfl, l, rfl, hll, .inl ⟨hg, fun H3 s3 => ⟨rfl, _, rfl, iteB rfl ⟨_, rfl, back H3 s3 hb⟩⟩⟩⟩
        | some mt =>
          have hb : goodL (i + 2) l = true := by show (tgtL l).isSome = true; rw [hg]; rfl
          exact ⟨_, rfl, l, rfl, hll, .inr ⟨mt.1, mt.2, hg, fun p q H3 s3 _ _ _ => ⟨rfl, _, rfl, iteN rfl (next H3 s3 hb)⟩⟩⟩
    · rintro σ H1 ⟨⟨s1, s2, rfl⟩, e1, hie⟩
      refine ⟨_, rfl, p, _, rfl, .inl (SqL.of (e1 _ _ hp)), ?_⟩
      have e2 : (txs ls).length = e := by
        have := he.1
        rw [txs_len] at hie ⊢
        omega
      rw [e2]
      exact k H1 e1
abbrev s_wrl : Stmt := top 23
abbrev n_wrl : List Str := ["lines", "end"]
theorem sc_wrl : FnScope n_wrl ["lines"] (fnScope s_wrl) := fnScope_by (by decide +kernel)
def spWrl : Sp := fun vs H Q _ => ∃ (p : Addr) (ls : List (List Nat)) (e : Nat), vs = [.ref p] ∧ H p = some (.lst (txs ls)) ∧ ls.length ≤ 100 ∧ (∀ l ∈ ls, l.length ≤ 100) ∧ EndIs ls e ∧ ∀ H', Same H H' → Q (if e < 3 ∨ e < ls.length then .int (e : Nat) else .non) H'
theorem ok_wrl (T : BT mg) (c_rend : Cal P w K mg base 5 "reader_end" spEnd []) {f : Addr} {fd : FuncData} (F : Def K mg "wrong_reader_line" s_wrl f fd) (b : Binds K fd ["lines"] []) : Cal P w K mg base 6 "wrong_reader_line" spWrl [] := by
  refine cal0 F b .nil sc_wrl (fun vs H Q E h => ?_) (fun cdv A outer s H vs Q E hr h => ?_)
  · obtain ⟨p, ls, e, rfl, _⟩ := h; rfl
  · obtain ⟨p, ls, e, rfl, hp, hl100, hl, he, k⟩ := h
    refine ⟨_, (pss_cons (ps_set (i := 1) sc_wrl.nd rfl (.inl rfl) (pe_c c_rend hr (by first | decide | omega) (by rfl) (pa_cons (pv 0) pa_nil)))
      (pss_cons (ps_if (PW.pt (pw_or (pt_cmpR op_lt (pv 1) pe_int (nomark _)) (pw_or1 (pt_cmpR op_lt (pv 1) (pe_callB (lenK K) (by rfl) T.m_len PySem.boot_len (pa_cons (pv 0) pa_nil)) (nomark _))))) 
        (pss_one (ps_ret (pv 1))
        )
       pss_nil)
      (pss_one (ps_ret pe_non)
      ))), ?_⟩
    refine ⟨_, rfl, p, ls, e, rfl, hp, hl100, hl, he, fun H1 s1 => ?_⟩
    have k := k H1 s1
    by_cases h3 : e < 3
    · rw [if_pos (.inl h3)] at k
      exact ⟨_, rfl, _, _, rfl, rfl, _, rfl, iteB (decide_eq_true (by omega)) ⟨_, rfl, k⟩⟩
    · refine ⟨_, rfl, _, _, rfl, rfl, _, rfl, iteN (decide_eq_false (by omega)) ?_⟩
      refine ⟨_, rfl, _, rfl, p, _, rfl, .inl (SqL.of (s1 _ _ hp)), _, _, rfl, rfl, _, rfl, ?_⟩
      rw [txs_len]
      by_cases h4 : e < ls.length
      · rw [if_pos (.inr h4)] at k
        exact iteB (decide_eq_true (by omega)) ⟨_, rfl, k⟩
      · rw [if_neg (fun h => h.elim h3 h4)] at k
        exact iteN (decide_eq_false (by omega)) k
end
end Toy
set_option maxHeartbeats 2000000
namespace Toy
open PySem L2 C8 SX LX
theorem gn1 {i : Nat} {v : V} {σ : L2.St} {H : Hp} {Q : L2.St → Hp → Prop} (h : Q (σ.set i (some v)) H) : gName i v σ H Q := h
theorem cut_from (ls : List (List Nat)) (k : Nat) : cutV (txs ls) (some (k : Int)) none = txs (ls.drop k) := by
  unfold cutV
  rw [HT.sIx_none, HT.sIx_nat, txs_len]
  unfold txs
  rw [← List.map_drop, ← List.map_take]
  rcases Nat.le_total k ls.length with h | h
  · rw [Nat.min_eq_left h, List.take_of_length_le (by rw [List.length_drop]; omega)]
  · rw [Nat.min_eq_right h, List.drop_of_length_le (Nat.le_refl _), List.drop_of_length_le h, List.take_nil]
theorem tgt_names {l m : List Nat} {ts : List (List Nat)} (h : tgtL l = some (m, ts)) : Name m ∧ ∀ t ∈ ts, Name t := by
  unfold tgtL at h
  split at h
  · cases h
  · split at h
    · rename_i hn; cases h; exact hn
    · cases h
structure RL (ls : List (List Nat)) (a f : List Nat) (ps : List (List Nat × List (List Nat))) : Prop where
  l0 : ∃ l w, ls[0]? = some l ∧ wordsL l = [w, a]
  l1 : ∃ l w, ls[1]? = some l ∧ wordsL l = [w, f]
  len : ls.length = ps.length + 2
  at_ : ∀ j l, ls[j + 2]? = some l → tgtL l = ps[j]?
  pos : 1 ≤ ps.length
  few : ps.length < 60
  nar : ∀ p ∈ ps, p.2.length < 60
theorem RL.names {ls : List (List Nat)} {a f : List Nat} {ps : List (List Nat × List (List Nat))} (h : RL ls a f ps) : ∀ p ∈ ps, Name p.1 ∧ ∀ t ∈ p.2, Name t := fun p hp => by
  obtain ⟨j, hj⟩ := List.getElem?_of_mem hp
  have hjl : j < ps.length := (List.getElem?_eq_some_iff.mp hj).1
  have h2 := h.at_ j _ (List.getElem?_eq_getElem (by rw [h.len]; omega))
  rw [hj] at h2
  exact tgt_names h2
def msP (ps : List (List Nat × List (List Nat))) : List (List Nat) := ps.map fun p => p.1
def BadT (a f : List Nat) (ps : List (List Nat × List (List Nat))) (wd : Str) : Prop :=
  (wd = "signs" ∧ a.length ≤ 1000 ∧ sgO (some a) = false) ∨ (Sg a ∧ ((wd = "marks" ∧ ¬ (msP ps).Nodup) ∨ ((msP ps).Nodup ∧
    ((wd = "first" ∧ f ∉ msP ps ∧ ∀ c ∈ f, c < 1114112) ∨ (f ∈ msP ps ∧ wd = "steps" ∧ ∃ p ∈ ps, p.2.length ≠ a.length)))))
def stD (ps : List (List Nat × List (List Nat))) : PyData := .list (ps.map fun p => .list (p.2.map fun m => .str (S m)))
theorem seqD_lst {b : Bool} {ds es : List PyData} (h : PyData.list es = seqD b ds) : ds = es := by
  cases b with
  | true => exact (PyData.list.inj h).symm
  | false => cases h
theorem bad_of {K : PySem.W.Frag} {H : Hp} {a f : List Nat} {ps : List (List Nat × List (List Nat))} {wd : Str} {q r : Addr} (hb : BadT a f ps wd) (hn : ∀ p ∈ ps, Name p.1) (h1 : 1 ≤ ps.length) (h60 : ps.length < 60) (hw : ∀ p ∈ ps, p.2.length < 60)
    (hq : H q = some (.lst (txs (msP ps)))) (hr : Dp K H (.ref r) (stD ps)) : BadRd K H (.str (S a)) (.ref q) (.str (S f)) (.ref r) wd := by
  have hnm : ∀ m ∈ msP ps, Name m := fun m hm => by obtain ⟨p, hp, rfl⟩ := List.mem_map.mp hm; exact hn p hp
  rcases hb with ⟨e, hl, h⟩ | ⟨hsg, h⟩
  · exact .inl ⟨e, some a, .txt a, (fun l e => by cases e; exact hl), h⟩
  refine .inr ⟨a, rfl, hsg, ?_⟩
  rcases h with ⟨e, h⟩ | ⟨hnd, h⟩
  · refine .inl ⟨e, .list ((msP ps).map fun m => .str (S m)), .lst (SqL.of hq) (dpa_strs _), .inr ⟨true, (msP ps).map fun m => .str (S m), rfl, by rw [List.length_map, msP, List.length_map]; exact h60, fun x hx => ?_, .inr (.inr ⟨rfl, _, hnm, h, rfl⟩)⟩⟩
    obtain ⟨m, hm, rfl⟩ := List.mem_map.mp hx
    intro l e
    have e2 : l = m := by simpa [txtO, S] using e.symm
    rw [e2]
    have := (hnm m hm).2.1
    omega
  refine .inr ⟨q, msP ps, rfl, hq, by rw [msP, List.length_map]; exact h1, by rw [msP, List.length_map]; exact h60, hnd, hnm, ?_⟩
  rcases h with ⟨e, h, hc⟩ | ⟨hf, e, pr, hpr, hne⟩
  · refine .inl ⟨e, .str (S f), .str _, shaped_str hc, fun m hm => ?_⟩
    show (S m == S f) = false
    exact beq_false_of_ne fun z => h (by rw [show f = m by simpa [S] using z.symm]; exact hm)
  · refine .inr ⟨f, rfl, hf, e, stD ps, hr, ⟨fun b ds hd => ?_, ?_⟩⟩
    · have e3 := seqD_lst hd
      subst e3
      refine ⟨by rw [List.length_map]; exact h60, fun x hx => ?_⟩
      obtain ⟨p, hp, rfl⟩ := List.mem_map.mp hx
      intro b2 ds2 hd2
      have e4 := seqD_lst hd2
      subst e4
      refine ⟨by rw [List.length_map]; exact hw p hp, fun x hx => ?_⟩
      obtain ⟨m, hm, rfl⟩ := List.mem_map.mp hx
      exact .inr ⟨m, rfl⟩
    · show (decide ((ps.map fun p => PyData.list (p.2.map fun m => .str (S m))).length = (msP ps).length) && (ps.map fun p => PyData.list (p.2.map fun m => .str (S m))).all (tgO a.length (msP ps))) = false
      rw [Bool.and_eq_false_iff]
      refine .inr ?_
      rw [Bool.eq_false_iff]
      intro h
      have := List.all_eq_true.mp h _ (List.mem_map.mpr ⟨pr, hpr, rfl⟩)
      have := (Bool.and_eq_true _ _ ▸ (show (decide ((pr.2.map fun m => PyData.str (S m)).length = a.length) && (pr.2.map fun m => PyData.str (S m)).all (itO (msP ps))) = true from this)).1
      have := of_decide_eq_true this
      rw [List.length_map] at this
      exact hne this
theorem dpa_of {K : PySem.W.Frag} {H : Hp} {β : Type} {g : β → PyData} : ∀ {ps : List β} {ws : List V}, ws.length = ps.length → (∀ (j : Nat) y pr, ws[j]? = some y → ps[j]? = some pr → Dp K H y (g pr)) → DpAll K H ws (ps.map g)
  | [], [], _, _ => .nil
  | [], _ :: _, h, _ => by cases h
  | _ :: _, [], h, _ => by cases h
  | p :: ps, w :: ws, h, hg => .cons (hg 0 w p rfl rfl) (dpa_of (by simpa using h) fun j y pr e1 e2 => hg (j + 1) y pr e1 e2)
section
variable {P : Program} {w : World} {K : PySem.W.Frag} {mg : Str → Option Value} {base : Heap}
abbrev s_rol : Stmt := top 24
abbrev n_rol : List Str := ["lines", "told", "marks", "steps", "line", "mark", "targets"]
theorem sc_rol : FnScope n_rol ["lines"] (fnScope s_rol) := fnScope_by (by decide +kernel)
def RolOut (C CI : Addr) (a f : List Nat) (ps : List (List Nat × List (List Nat))) (H : Hp) (Q : VK) (E : XK) : Prop :=
  (∃ (ms : List (List Nat)) (tg : List Nat → Nat → List Nat), Good a ms f tg ∧ ps = ms.map (fun m => (m, a.map (tg m))) ∧ ∀ (x : Addr) (H' : Hp), Same H H' → H x = none → Rdr C H' x a ms f tg → Q (.ref x) H') ∨
  (∃ wd : Str, BadT a f ps wd ∧ ∀ (d : Addr) (H' : Hp), Same H H' → H' d = some (.xd [("word", .str wd)]) → E (.ref CI) (some d) H')
def spRol (C CI : Addr) : Sp := fun vs H Q E => ∃ (p : Addr) (ls : List (List Nat)) (a f : List Nat) (ps : List (List Nat × List (List Nat))), vs = [.ref p] ∧ H p = some (.lst (txs ls)) ∧ (∀ l ∈ ls, l.length ≤ 100) ∧ RL ls a f ps ∧ RolOut C CI a f ps H Q E
theorem ok_rol {C CI : Addr} (T : BT mg) (c_tol : Cal P w K mg base 4 "_targets_of_line" spTol []) (c_Reader : MakX P w K mg base 5 "Reader" C (spInitX K C CI)) {f : Addr} {fd : FuncData} (F : Def K mg "reader_of_lines" s_rol f fd) (b : Binds K fd ["lines"] []) : CalX P w K mg base 7 "reader_of_lines" (spRol C CI) := by
  refine calX F b sc_rol (fun vs H Q E h => ?_) (fun cdv A outer s H vs Q E hr h => ?_)
  · obtain ⟨p, ls, a, f, ps, rfl, _⟩ := h; rfl
  · obtain ⟨p, ls, a, f, ps, rfl, hp, hl100, hrl, hout⟩ := h
    refine ⟨_, (pss_cons (ps_setLc (i := 1) (own := [("line", 4)]) rfl sc_rol.nd rfl rfl rfl (pi_list (pe_slice sl_list (pv 0) (po_some pe_int) po_none)) (blkOk_by (N := n_rol) (sc := fnScope s_rol) (by decide +kernel)) (fun _ _ _ _ _ => (pg_name (i := 4) sc_rol.nd rfl (.inl rfl))) (fun _ _ _ _ _ => pts_nil) (fun _ _ _ _ _ => (pe_c c_tol hr (by first | decide | omega) (by rfl) (pa_cons (pv 4) pa_nil))))
      (pss_cons (ps_setLc (i := 2) (own := [("mark", 5), ("targets", 6)]) rfl sc_rol.nd rfl rfl rfl (pi_list (pv 1)) (blkOk_by (N := n_rol) (sc := fnScope s_rol) (by decide +kernel)) (fun _ _ _ _ _ => (tupK K 2 (pgs_cons (pg_name (i := 5) sc_rol.nd rfl (.inl rfl)) (pgs_cons (pg_name (i := 6) sc_rol.nd rfl (.inl rfl)) pgs_nil)))) (fun _ _ _ _ _ => pts_nil) (fun _ _ _ _ _ => (pv 5)))
      (pss_cons (ps_setLc (i := 3) (own := [("mark", 5), ("targets", 6)]) rfl sc_rol.nd rfl rfl rfl (pi_list (pv 1)) (blkOk_by (N := n_rol) (sc := fnScope s_rol) (by decide +kernel)) (fun _ _ _ _ _ => (tupK K 2 (pgs_cons (pg_name (i := 5) sc_rol.nd rfl (.inl rfl)) (pgs_cons (pg_name (i := 6) sc_rol.nd rfl (.inl rfl)) pgs_nil)))) (fun _ _ _ _ _ => pts_nil) (fun _ _ _ _ _ => (pv 6)))
      (pss_one (ps_ret (pe_mkX c_Reader (takes_of rfl rfl rfl rfl) hr (by decide) (by rfl) (pa_cons (pe_ix (ixl K) (pe_split (pe_ix (ixl K) (pv 0) pe_int (fun _ _ => rfl)) pe_str) pe_int (fun _ _ => rfl)) (pa_cons (pv 2) (pa_cons (pe_ix (ixl K) (pe_split (pe_ix (ixl K) (pv 0) pe_int (fun _ _ => rfl)) pe_str) pe_int (fun _ _ => rfl)) (pa_cons (pv 3) pa_nil))))))
      )))), ?_⟩
    refine ⟨_, rfl, 2, rfl, p, _, rfl, SqL.of hp, fun q0 hq0 => ⟨q0, rfl, ⟨_, SqL.of upd_same⟩, fun D hD => ?_⟩⟩
    have h1 : (upd H q0 (.lst (cutV (txs ls) (some 2) none))) q0 = some (.lst (txs (ls.drop 2))) := by rw [← cut_from]; exact upd_same
    have s1 : Same H (upd H q0 (.lst (cutV (txs ls) (some 2) none))) := sm_new hq0
    have hD : (upd H q0 (.lst (cutV (txs ls) (some 2) none))) D = none := hD
    show ∃ W : Nat → Nat → Hp → Prop, (∃ m_1, W 0 m_1 (upd (upd H q0 (.lst (cutV (txs ls) (some 2) none))) D (.lst []))) ∧ _
    generalize upd H q0 (.lst (cutV (txs ls) (some 2) none)) = H1 at h1 s1 hD ⊢
    have hpl : (ls.drop 2).length = ps.length := by rw [List.length_drop, hrl.len]; omega
    have hfew := hrl.few
    refine lc_keepH keep_same (walk_list (K := K) (a := q0) (xs := txs (ls.drop 2))) hD (by rw [txs_len, hpl]; exact small1000 (by omega)) (fun j y H => ∃ t q, y = .ref t ∧ t ≠ D ∧ q ≠ D ∧ ∀ pr, ps[j]? = some pr → H t = some (.tup [.str (S pr.1), .ref q]) ∧ H q = some (.lst (txs pr.2))) (fun H r => SqL.of (r _ _ h1))
      (fun _ _ _ _ _ r ⟨t, q, e, n1, n2, h⟩ => ⟨t, q, e, n1, n2, fun pr hpr => ⟨r _ _ (h pr hpr).1, r _ _ (h pr hpr).2⟩⟩) (fun _ _ _ _ _ _ _ ⟨t, q, e, n1, n2, h⟩ => ⟨t, q, e, n1, n2, fun pr hpr => ⟨by rw [upd_ne n1]; exact (h pr hpr).1, by rw [upd_ne n2]; exact (h pr hpr).2⟩⟩) (fun j x H4 H5 acc R hj r hDa hy hR => ?_) (fun ys H4 hly hg r4 hDs => ?_)
    · obtain ⟨rfl, e⟩ := hy
      obtain ⟨l, el, rfl⟩ := txs_get e
      rw [List.getElem?_drop] at el
      have el : ls[j + 2]? = some l := by rw [Nat.add_comm]; exact el
      have ht := hrl.at_ j l el
      cases hpr : ps[j]? with
      | none => rw [List.getElem?_eq_none_iff] at hpr; rw [txs_len, hpl] at hj; omega
      | some pr =>
        rw [hpr] at ht
        refine ⟨rfl, ?_⟩
        refine ⟨_, rfl, l, rfl, hl100 l (List.mem_of_getElem? el), .inr ⟨pr.1, pr.2, ht, fun t q H' s' nq h1 h2 => ?_⟩⟩
        have nt : t ≠ D := fun z => by rw [z, s' _ _ hDa] at h1; cases h1
        have nqD : q ≠ D := fun z => by rw [z, hDa] at nq; cases nq
        exact hR _ _ s' ⟨t, q, rfl, nt, nqD, fun pr2 e2 => by rw [hpr] at e2; cases e2; exact ⟨h1, h2⟩⟩
    rw [txs_len, hpl] at hly
    have s14 := s1.trans r4
    refine gn1 ?_
    refine ⟨_, rfl, D, rfl, ⟨_, SqL.of hDs⟩, fun D2 hD2 => ?_⟩
    refine lc_keep keep_same (walk_list (K := K) (a := D) (xs := ys)) hD2 (by rw [hly]; exact small1000 (by omega)) (fun j y => ∀ pr, ps[j]? = some pr → y = .str (S pr.1)) (fun H r => SqL.of (r _ _ hDs)) (fun j x H5 H6 R hj r hy hR => ?_) (fun zs H5 hlz hgz r5 hD2s => ?_)
    · obtain ⟨rfl, e⟩ := hy
      obtain ⟨t, q, rfl, _, _, h⟩ := hg j x e
      have hjp : j < ps.length := by rw [← hly]; exact (List.getElem?_eq_some_iff.mp e).1
      obtain ⟨ht, _⟩ := h _ (List.getElem?_eq_getElem hjp)
      refine ⟨t, _, rfl, SqT.of (r _ _ ht), rfl, ?_⟩
      refine ⟨_, _, rfl, _, _, rfl, rfl, ⟨rfl, ?_⟩⟩
      exact ⟨_, rfl, hR _ _ (Same.refl _) fun pr hpr => by rw [List.getElem?_eq_getElem hjp] at hpr; cases hpr; rfl⟩
    have ez : zs = txs (msP ps) := by
      unfold txs msP; rw [List.map_map]
      exact list_map (f := fun pr => V.str (S pr.1)) (hlz.trans hly) fun j y pr e1 e2 => hgz j y e1 pr e2
    subst ez
    refine gn1 ?_
    refine ⟨_, rfl, D, rfl, ⟨_, SqL.of (r5 _ _ hDs)⟩, fun D3 hD3 => ?_⟩
    refine lc_keepH keep_same (walk_list (K := K) (a := D) (xs := ys)) hD3 (by rw [hly]; exact small1000 (by omega)) (fun j y H => ∃ q, y = .ref q ∧ q ≠ D3 ∧ ∀ pr, ps[j]? = some pr → H q = some (.lst (txs pr.2))) (fun H r => SqL.of (r _ _ (r5 _ _ hDs)))
      (fun _ _ _ _ _ r ⟨q, e, n, h⟩ => ⟨q, e, n, fun pr hpr => r _ _ (h pr hpr)⟩) (fun _ _ _ _ _ _ _ ⟨q, e, n, h⟩ => ⟨q, e, n, fun pr hpr => by rw [upd_ne n]; exact h pr hpr⟩) (fun j x H6 H7 acc R hj r hDa hy hR => ?_) (fun ws H6 hlw hgw r6 hD3s => ?_)
    · obtain ⟨rfl, e⟩ := hy
      obtain ⟨t, q, rfl, _, _, h⟩ := hg j x e
      have hjp : j < ps.length := by rw [← hly]; exact (List.getElem?_eq_some_iff.mp e).1
      obtain ⟨ht, hq⟩ := h _ (List.getElem?_eq_getElem hjp)
      refine ⟨t, _, rfl, SqT.of ((r5.trans r) _ _ ht), rfl, ?_⟩
      refine ⟨_, _, rfl, _, _, rfl, rfl, ⟨rfl, ?_⟩⟩
      have nq : q ≠ D3 := ne_of_none (r5 _ _ hq) hD3
      exact ⟨_, rfl, hR _ _ (Same.refl _) ⟨q, rfl, nq, fun pr hpr => by rw [List.getElem?_eq_getElem hjp] at hpr; cases hpr; exact (r5.trans r) _ _ hq⟩⟩
    refine gn1 ?_
    rw [hly] at hlw
    have s46 := r5.trans r6
    have s06 := s14.trans s46
    obtain ⟨la, w0, el0, ew0⟩ := hrl.l0
    obtain ⟨lb, w1, el1, ew1⟩ := hrl.l1
    have la100 := hl100 la (List.mem_of_getElem? el0)
    have lb100 := hl100 lb (List.mem_of_getElem? el1)
    have el0 : (txs ls)[0]? = some (V.str (S la)) := by unfold txs; rw [List.getElem?_map, el0]; rfl
    have el1 : (txs ls)[1]? = some (V.str (S lb)) := by unfold txs; rw [List.getElem?_map, el1]; rfl
    refine ⟨_, rfl, _, _, _, _, rfl, rfl, SqL.of (s06 _ _ hp), at_of rfl el0, ⟨_, rfl⟩, _, _, rfl, rfl, by decide, by rw [S_len]; exact Nat.le_trans (show la.length + 2 ≤ 102 by omega) (by decide), fun q1 hq1 => ?_⟩
    rw [split_sp, strs_txs, ew0]
    refine ⟨_, _, _, _, rfl, rfl, SqL.of upd_same, rfl, ?_⟩
    refine ⟨_, rfl, ?_⟩
    have s67 : Same H6 (upd H6 q1 (.lst (txs [w0, a]))) := sm_new hq1
    generalize upd H6 q1 (.lst (txs [w0, a])) = H7 at s67 ⊢
    refine ⟨_, rfl, _, _, _, _, rfl, rfl, SqL.of ((s06.trans s67) _ _ hp), at_of rfl el1, ⟨_, rfl⟩, _, _, rfl, rfl, by decide, by rw [S_len]; exact Nat.le_trans (show lb.length + 2 ≤ 102 by omega) (by decide), fun q2 hq2 => ?_⟩
    rw [split_sp, strs_txs, ew1]
    refine ⟨_, _, _, _, rfl, rfl, SqL.of upd_same, rfl, ?_⟩
    have s78 : Same H7 (upd H7 q2 (.lst (txs [w1, f]))) := sm_new hq2
    generalize upd H7 q2 (.lst (txs [w1, f])) = H8 at s78 ⊢
    refine ⟨_, rfl, fun x dx hx hdx nx => ?_⟩
    have s68 := s67.trans s78
    have s9 : Same H8 (upd (upd H8 dx (.own x)) x (.ins C dx [])) := fun b o e => by rw [upd_ne (ne_of_none e hx), upd_ne (ne_of_none e hdx)]; exact e
    have hD2 := (r6.trans s68) _ _ hD2s
    have hD3 := s68 _ _ hD3s
    have hw8 : ∀ (j : Nat) y, ws[j]? = some y → ∃ q, y = .ref q ∧ ∀ pr, ps[j]? = some pr → H8 q = some (.lst (txs pr.2)) := fun j y e => let ⟨q, e2, _, h⟩ := hgw j y e; ⟨q, e2, fun pr hpr => s68 _ _ (h pr hpr)⟩
    rcases hout with ⟨ms, tg, hgd, eps, k⟩ | ⟨wd, hbad, k⟩
    · subst eps
      have ems : msP (ms.map fun m => (m, a.map (tg m))) = ms := by unfold msP; rw [List.map_map]; exact List.map_id' ms
      rw [ems] at hD2
      obtain ⟨sa, hsa⟩ := fun_of (γ := Addr) hgd.hnd (P := fun j mm t => ws[j]? = some (V.ref t) ∧ H8 t = some (.lst (txs (a.map (tg mm))))) fun j mm hj => by
        have hjl : j < ws.length := by rw [hlw, List.length_map]; exact (List.getElem?_eq_some_iff.mp hj).1
        obtain ⟨t, e, h⟩ := hw8 j _ (List.getElem?_eq_getElem hjl)
        exact ⟨t, by rw [List.getElem?_eq_getElem hjl, e], h (mm, a.map (tg mm)) (by rw [List.getElem?_map, hj]; rfl)⟩
      have eys : ws = ms.map fun x => V.ref (sa x) := list_map (by rw [hlw, List.length_map]) fun j y x e1 e2 => by have := (hsa j x e2).1; rw [e1] at this; exact Option.some.inj this
      rw [eys] at hD3
      have hsa2 : ∀ x ∈ ms, H8 (sa x) = some (.lst (txs (a.map (tg x)))) := fun x hx => by obtain ⟨j, hj⟩ := List.getElem?_of_mem hx; exact (hsa j x hj).2
      refine .inl ⟨x, dx, D2, D3, true, true, true, a, ms, f, tg, sa, rfl, upd_same, s9 _ _ hD2, s9 _ _ hD3, fun y hy => s9 _ _ (hsa2 y hy), hgd, fun H' hk hr => ⟨rfl, k x H' (fun b o e => ?_) (same_new (s06.trans s68) hx) hr⟩⟩
      have e2 := (s06.trans s68) _ _ e
      exact hk b o (ne_of_none e2 hx) (s9 _ _ e2)
    · have hdp : ∀ Hh, Same H8 Hh → Dp K Hh (.ref D3) (stD ps) := fun Hh sh => by
        refine .lst (SqL.of (sh _ _ hD3)) ?_
        exact dpa_of (by rw [hlw]) fun j y pr e hpr => by
          obtain ⟨q, rfl, h⟩ := hw8 j y e
          exact .lst (SqL.of (sh _ _ (h pr hpr))) (dpa_strs _)
      refine .inr ⟨x, dx, _, _, _, _, wd, rfl, upd_same, bad_of hbad (fun p hp => (hrl.names p hp).1) hrl.pos hrl.few hrl.nar (s9 _ _ hD2) (hdp _ s9), fun d H' s' hd => k d H' ((s06.trans s68).trans (s9.trans s')) hd⟩
end
end Toy
set_option maxHeartbeats 2000000
namespace Toy
open PySem L2 C8 SX LX
theorem RolOut.same {C CI : Addr} {a f : List Nat} {ps : List (List Nat × List (List Nat))} {H H' : Hp} {Q : VK} {E : XK} (h : RolOut C CI a f ps H Q E) (s : Same H H') : RolOut C CI a f ps H' Q E := by
  rcases h with ⟨ms, tg, hg, e, k⟩ | ⟨wd, hb, k⟩
  · exact .inl ⟨ms, tg, hg, e, fun x H2 s2 n r => k x H2 (s.trans s2) (same_new s n) r⟩
  · exact .inr ⟨wd, hb, fun d H2 s2 hd => k d H2 (s.trans s2) hd⟩
section
variable {P : Program} {w : World} {K : PySem.W.Frag} {mg : Str → Option Value} {base : Heap}
abbrev s_parse : Stmt := inClass (top 16) 1
abbrev n_parse : List Str := ["cls", "text", "lines", "wrong"]
theorem sc_parse : FnScope n_parse ["cls", "text"] (fnScope s_parse) := fnScope_by (by decide +kernel)
def ParseOut (K : PySem.W.Frag) (C CT CI : Addr) (v : V) (H : Hp) (Q : VK) (E : XK) : Prop :=
  (Kv K H v none ∧ BadAtE CT 0 H E) ∨ ∃ (ls : List (List Nat)) (e : Nat), v = .str (S (TL.joinL [10] ls)) ∧ NoNl ls ∧ EndIs ls e ∧
    (((e < 3 ∨ e < ls.length) ∧ BadAtE CT (e : Nat) H E) ∨ (¬ (e < 3 ∨ e < ls.length) ∧ ∃ (a f : List Nat) (ps : List (List Nat × List (List Nat))), RL ls a f ps ∧ RolOut C CI a f ps H Q E))
def spParse (K : PySem.W.Frag) (C CT CI : Addr) : Sp := fun vs H Q E => ∃ v : V, vs = [.ref C, v] ∧ ParseOut K C CT CI v H Q E
theorem ok_parse {C CT CI : Addr} (T : BT mg) (c_InvalidText : RaiX P w K mg base 1 "InvalidText" CT (spXInit CT "at")) (c_lot : CalX P w K mg base 3 "lines_of_text" (spLot K CT)) (c_wrl : Cal P w K mg base 6 "wrong_reader_line" spWrl []) (c_rol : CalX P w K mg base 7 "reader_of_lines" (spRol C CI)) {f : Addr} {fd : FuncData} (F : C8.Fun K "parse" "Reader.parse" s_parse f fd) : FnOk P w K mg base (L2.CX P w) 8 f fd ["cls", "text"] (spParse K C CT CI) := by
  refine fnX F sc_parse (fun vs H Q E h => ?_) (fun cdv A outer s H vs Q E hr h => ?_)
  · obtain ⟨v, rfl, _⟩ := h; rfl
  · obtain ⟨v, rfl, h⟩ := h
    refine ⟨_, (pss_cons (ps_set (i := 2) sc_parse.nd rfl (.inl rfl) (pe_cX c_lot (takes_of rfl rfl rfl rfl) hr (by first | decide | omega) (by rfl) (pa_cons (pv 1) pa_nil)))
      (pss_cons (ps_set (i := 3) sc_parse.nd rfl (.inl rfl) (pe_c c_wrl hr (by first | decide | omega) (by rfl) (pa_cons (pv 2) pa_nil)))
      (pss_cons (ps_if (pt_cmpR op_notN (pv 3) pe_non (nomark _)) 
        (pss_one (ps_raise rfl (takes_of rfl rfl rfl rfl) (pmk_rai c_InvalidText hr (by decide) (by rfl) (pa_cons (pv 3) pa_nil)))
        )
       pss_nil)
      (pss_one (ps_ret (pe_cX c_rol (takes_of rfl rfl rfl rfl) hr (by first | decide | omega) (by rfl) (pa_cons (pv 2) pa_nil)))
      )))), ?_⟩
    rcases h with ⟨hv, k⟩ | ⟨ls, e, rfl, hn, he, h⟩
    · exact ⟨_, rfl, v, rfl, .inl ⟨hv, k⟩⟩
    refine ⟨_, rfl, _, rfl, .inr ⟨ls, rfl, hn, fun p H1 s1 n1 h1 => ?_⟩⟩
    refine ⟨_, rfl, p, ls, e, rfl, h1, hn.2.2.1, hn.2.2.2, he, fun H2 s2 => ?_⟩
    rcases h with ⟨hb, k⟩ | ⟨hb, a, f, ps, hrl, ho⟩
    · rw [if_pos hb]
      refine ⟨_, rfl, rfl, _, rfl, iteB (by rfl) ?_⟩
      exact ⟨_, rfl, by show 1 ≤ 1000; decide, raise_read fun d hd => k d _ ((s1.trans s2).trans (sm_new hd)) upd_same⟩
    · rw [if_neg hb]
      refine ⟨_, rfl, rfl, _, rfl, iteN (by rfl) ?_⟩
      exact ⟨_, rfl, p, ls, a, f, ps, rfl, s2 _ _ h1, hn.2.2.2, hrl, ho.same (s1.trans s2)⟩
abbrev s_lbl : Stmt := top 44
abbrev n_lbl : List Str := []
theorem sc_lbl : FnScope n_lbl [] (fnScope s_lbl) := fnScope_by (by decide +kernel)
def badL : List (List Nat) := [[], [32], [114, 101, 97, 100, 101, 114], [102, 105, 114, 115, 116], [110, 111, 58], [110, 111, 58, 32], [110, 111, 58, 121, 101, 115], [58, 32, 110, 111], [110, 111, 58, 32, 121, 101, 115, 32, 32, 110, 111], [110, 111, 32, 58, 32, 121, 101, 115], [78, 111, 58, 32, 110, 111], [110, 58, 32, 110, 111]]
theorem bad_good : ∀ l ∈ badL, toldL rdW l = false ∧ toldL fiW l = false ∧ tgtL l = none ∧ 10 ∉ l ∧ l.length ≤ 11 := by decide +kernel
theorem bad_good_at {l : List Nat} (h : l ∈ badL) (i : Nat) : goodL i l = false := by
  obtain ⟨h1, h2, h3, _⟩ := bad_good l h
  unfold goodL
  split
  · exact h1
  split
  · exact h2
  · rw [h3]; rfl
def spLbl : Sp := fun vs H Q _ => vs = [] ∧ ∀ (p : Addr) (H' : Hp), Same H H' → H p = none → H' p = some (.lst (txs badL)) → Q (.ref p) H'
theorem ok_lbl (T : BT mg) {f : Addr} {fd : FuncData} (F : Def K mg "_law_bad_lines" s_lbl f fd) (b : Binds K fd [] []) : Cal P w K mg base 1 "_law_bad_lines" spLbl [] := by
  refine cal0 F b .nil sc_lbl (fun vs H Q E h => ?_) (fun cdv A outer s H vs Q E hr h => ?_)
  · obtain ⟨rfl, _⟩ := h; rfl
  · obtain ⟨rfl, k⟩ := h
    refine ⟨_, (pss_one (ps_ret (pe_lst (pa_cons pe_str (pa_cons pe_str (pa_cons pe_str (pa_cons pe_str (pa_cons pe_str (pa_cons pe_str (pa_cons pe_str (pa_cons pe_str (pa_cons pe_str (pa_cons pe_str (pa_cons pe_str (pa_cons pe_str pa_nil))))))))))))))
      ), ?_⟩
    refine ⟨by show 12 ≤ sizeLine; decide, fun p hp => k p _ (sm_new hp) hp ?_⟩
    have e : [V.str (Str.ofString ""), V.str (Str.ofString " "), V.str (Str.ofString "reader"), V.str (Str.ofString "first"), V.str (Str.ofString "no:"), V.str (Str.ofString "no: "), V.str (Str.ofString "no:yes"), V.str (Str.ofString ": no"), V.str (Str.ofString "no: yes  no"), V.str (Str.ofString "no : yes"), V.str (Str.ofString "No: no"), V.str (Str.ofString "n: no")] = txs badL := by decide +kernel
    rw [upd_same]
    exact congrArg (fun x => some (HO.lst x)) e
end
end Toy
set_option maxHeartbeats 2000000
namespace Toy
open PySem L2 C8 SX LX
def BadTx (K : PySem.W.Frag) (H : Hp) (v : V) (i : Int) : Prop := (Kv K H v none ∧ i = 0) ∨ ∃ (ls : List (List Nat)) (e : Nat), v = .str (S (TL.joinL [10] ls)) ∧ NoNl ls ∧ EndIs ls e ∧ (e < 3 ∨ e < ls.length) ∧ i = (e : Nat)
def BadRr (v : V) (wd : Str) : Prop := ∃ (ls : List (List Nat)) (e : Nat) (a f : List Nat) (ps : List (List Nat × List (List Nat))), v = .str (S (TL.joinL [10] ls)) ∧ NoNl ls ∧ EndIs ls e ∧ ¬ (e < 3 ∨ e < ls.length) ∧ RL ls a f ps ∧ BadT a f ps wd
section
variable {P : Program} {w : World} {K : PySem.W.Frag} {mg : Str → Option Value} {base : Heap}
abbrev s_lheard : Stmt := top 42
abbrev n_lheard : List Str := ["text", "found", "e"]
theorem sc_lheard : FnScope n_lheard ["text"] (fnScope s_lheard) := fnScope_by (by decide +kernel)
def spHeard (K : PySem.W.Frag) : Sp := fun vs H Q _ => ∃ v : V, vs = [v] ∧ ((∃ i : Int, BadTx K H v i ∧ ∀ (p : Addr) (H' : Hp), Same H H' → H' p = some (.lst [.str (Str.ofString "text"), .int i]) → Q (.ref p) H') ∨
  ∃ wd : Str, BadRr v wd ∧ ∀ (p : Addr) (H' : Hp), Same H H' → H' p = some (.lst [.str (Str.ofString "reader"), .str wd]) → Q (.ref p) H')
theorem ok_lheard {C C_InvalidText C_InvalidReader C_RowError : Addr} (T : BT mg) (mgC : mg "Reader" = some (.ref C)) (c_parse : CMX P w K mg base 8 C "parse" (spParse K C C_InvalidText C_InvalidReader)) (x_InvalidText : XQ K mg "InvalidText" C_InvalidText) (n_InvalidText : PySem.W.findIn K (.ref C_InvalidText) "at" = some none) (x_InvalidReader : XQ K mg "InvalidReader" C_InvalidReader) (n_InvalidReader : PySem.W.findIn K (.ref C_InvalidReader) "word" = some none) (x_RowError : XG mg "RowError" C_RowError)
    (sTT : PySem.W.subIn K (.ref C_InvalidText) (.ref C_InvalidText) = some true) (sIT : PySem.W.subIn K (.ref C_InvalidReader) (.ref C_InvalidText) = some false) (sII : PySem.W.subIn K (.ref C_InvalidReader) (.ref C_InvalidReader) = some true) (kTR : PySem.W.kitOne K (.ref C_InvalidText) (.ref C_RowError) = some true) (kTI : PySem.W.kitOne K (.ref C_InvalidText) (.ref C_InvalidReader) = some false)
    {f : Addr} {fd : FuncData} (F : Def K mg "_law_heard" s_lheard f fd) (b : Binds K fd ["text"] []) : Cal P w K mg base 9 "_law_heard" (spHeard K) [] := by
  refine cal0 F b .nil sc_lheard (fun vs H Q E h => ?_) (fun cdv A outer s H vs Q E hr h => ?_)
  · obtain ⟨v, rfl, _⟩ := h; rfl
  · obtain ⟨v, rfl, h⟩ := h
    refine ⟨_, (pss_cons (ps_set (i := 1) sc_lheard.nd rfl (.inl rfl) pe_non)
      (pss_cons (ps_try_manyA rfl rfl sc_lheard.nd takes_none5 (fun W pn xe tk pso => 
        (pss_one (ps_set (i := 1) sc_lheard.nd rfl (.inl rfl) (pe_cmX c_parse tk hr (by decide) (pe_glob (v := .ref C) (by rfl) mgC rfl) (pa_cons (pv 0) pa_nil)))
        )) (.consA (i := 2) rfl rfl ⟨rfl, by decide, .inl x_InvalidText.g⟩ (fun a oe cls d pn hz hf => 
        (pss_one (ps_set (i := 1) sc_lheard.nd rfl (.inl rfl) (pe_ifExp (PW.pt (pw_and (pt_val (pe_callB (call_isX hz hf) (by rfl) T.m_isinstance PyProof.Rows.boot_isinstance (pa_cons (pv 2) (pa_cons (pe_glob (v := .ref C_RowError) (by rfl) x_RowError.g rfl) pa_nil)))) (pw_and1 (pt_not (pt_val (pe_callB (call_isX hz hf) (by rfl) T.m_isinstance PyProof.Rows.boot_isinstance (pa_cons (pv 2) (pa_cons (pe_glob (v := .ref C_InvalidReader) (by rfl) x_InvalidReader.g rfl) pa_nil)))))))) (pe_lst (pa_cons pe_str (pa_cons (pe_xf x_InvalidText.x.xf n_InvalidText hz hf (pv 2)) pa_nil))) pe_str))
        )) (.consA (i := 2) rfl rfl ⟨rfl, by decide, .inl x_InvalidReader.g⟩ (fun a oe cls d pn hz hf => 
        (pss_one (ps_set (i := 1) sc_lheard.nd rfl (.inl rfl) (pe_lst (pa_cons pe_str (pa_cons (pe_xf x_InvalidReader.x.xf n_InvalidReader hz hf (pv 2)) pa_nil))))
        )) .nil)))
      (pss_one (ps_ret (pv 1))
      ))), ?_⟩
    refine ⟨rfl, _, rfl, v, rfl, ?_⟩
    rcases h with ⟨i, hb, k⟩ | ⟨wd, ⟨ls, e, a, f, ps, rfl, hn, he, h3, hrl, hb⟩, k⟩
    · rcases hb with ⟨hv, rfl⟩ | ⟨ls, e, rfl, hn, he, h3, rfl⟩
      · refine .inl ⟨hv, fun d H' s1 hd => ?_⟩
        refine ⟨true, x_InvalidText.x.exm sTT, fun _ a ha => ?_, fun h => nomatch h⟩
        refine ⟨_, rfl, C_InvalidText, _, _, true, rfl, x_InvalidText.x.exc, rfl, fun u hu => hu, kTR, .inr ⟨d, _, rfl, hd⟩, ?_⟩
        refine ⟨true, rfl, iteT ?_⟩
        refine ⟨_, rfl, C_InvalidText, _, _, false, rfl, x_InvalidText.x.exc, rfl, fun u hu => hu, kTI, .inr ⟨d, _, rfl, hd⟩, ?_⟩
        refine ⟨false, rfl, iteB rfl ?_⟩
        refine ⟨_, rfl, rfl, rfl, d, _, .int 0, rfl, hd, rfl, ?_⟩
        refine ⟨by show 2 ≤ sizeLine; decide, fun p hp => ?_⟩
        exact ⟨_, rfl, k p _ (s1.trans (sm_new hp)) upd_same⟩
      · refine .inr ⟨ls, e, rfl, hn, he, .inl ⟨h3, fun d H' s1 hd => ?_⟩⟩
        refine ⟨true, x_InvalidText.x.exm sTT, fun _ a ha => ?_, fun h => nomatch h⟩
        refine ⟨_, rfl, C_InvalidText, _, _, true, rfl, x_InvalidText.x.exc, rfl, fun u hu => hu, kTR, .inr ⟨d, _, rfl, hd⟩, ?_⟩
        refine ⟨true, rfl, iteT ?_⟩
        refine ⟨_, rfl, C_InvalidText, _, _, false, rfl, x_InvalidText.x.exc, rfl, fun u hu => hu, kTI, .inr ⟨d, _, rfl, hd⟩, ?_⟩
        refine ⟨false, rfl, iteB rfl ?_⟩
        refine ⟨_, rfl, rfl, rfl, d, _, .int (e : Nat), rfl, hd, rfl, ?_⟩
        refine ⟨by show 2 ≤ sizeLine; decide, fun p hp => ?_⟩
        exact ⟨_, rfl, k p _ (s1.trans (sm_new hp)) upd_same⟩
    · refine .inr ⟨ls, e, rfl, hn, he, .inr ⟨h3, a, f, ps, hrl, .inr ⟨wd, hb, fun d H' s1 hd => ?_⟩⟩⟩
      refine ⟨false, x_InvalidText.x.exm sIT, fun h => (nomatch h), fun _ => ?_⟩
      refine ⟨true, x_InvalidReader.x.exm sII, fun _ a ha => ?_, fun h => nomatch h⟩
      refine ⟨_, rfl, rfl, rfl, d, _, .str wd, rfl, hd, rfl, ?_⟩
      refine ⟨by show 2 ≤ sizeLine; decide, fun p hp => ?_⟩
      exact ⟨_, rfl, k p _ (s1.trans (sm_new hp)) upd_same⟩
abbrev s_llines : Stmt := top 41
abbrev n_llines : List Str := ["told", "found", "mark", "sign"]
theorem sc_llines : FnScope n_llines ["told"] (fnScope s_llines) := fnScope_by (by decide +kernel)
def linesL (sg : List Nat) (ms : List (List Nat)) (f : List Nat) (tg : List Nat → Nat → List Nat) : List (List Nat) := ([114, 101, 97, 100, 101, 114, 32] ++ sg) :: ([102, 105, 114, 115, 116, 32] ++ f) :: ms.map (lineL sg tg)
def spLLines : Sp := fun vs H Q _ => ∃ (a : Addr) (sg : List Nat) (ms : List (List Nat)) (f : List Nat) (tg : List Nat → Nat → List Nat) (pm pl : Addr) (ad : List Nat → Addr), vs = [.ref a] ∧ Told H a sg ms f tg pm pl ad ∧ Good sg ms f tg ∧
  ∀ (p : Addr) (H' : Hp), Same H H' → H p = none → H' p = some (.lst (txs (linesL sg ms f tg))) → Q (.ref p) H'
theorem ok_llines (T : BT mg) {f : Addr} {fd : FuncData} (F : Def K mg "_law_lines" s_llines f fd) (b : Binds K fd ["told"] []) : Cal P w K mg base 1 "_law_lines" spLLines [] := by
  refine cal0 F b .nil sc_llines (fun vs H Q E h => ?_) (fun cdv A outer s H vs Q E hr h => ?_)
  · obtain ⟨a, sg, ms, f, tg, pm, pl, ad, rfl, _⟩ := h; rfl
  · obtain ⟨a, sg, ms, f, tg, pm, pl, ad, rfl, t, hgd, k⟩ := h
    have h8 := hgd.h8
    have h3 := hgd.hsg.2.2.1
    have hf6 := hgd.len hgd.hf
    refine ⟨_, (pss_cons (ps_set (i := 1) sc_llines.nd rfl (.inl rfl) (pe_lst (pa_cons (pe_op op_add_str pe_str (pe_dget (hu_of hr) (pv 0) pe_str (fun _ _ => rfl))) (pa_cons (pe_op op_add_str pe_str (pe_dget (hu_of hr) (pv 0) pe_str (fun _ _ => rfl))) pa_nil))))
      (pss_cons (ps_for PassesOwn.never rfl (pi_list (pe_dget (hu_of hr) (pv 0) pe_str (fun _ _ => rfl))) (pg_name (i := 2) sc_llines.nd rfl (.inr rfl)) 
        (pss_one (ps_expr (pe_bm PySem.F.plainAttrs_list PySem.F.slot_list_append PySem.F.type_list_append mt_append (pv 1) (pa_cons (pe_op op_add_str (pe_op op_add_str (pv 2) pe_str) (pe_join pe_str (pe_lc (own := [("sign", 3)]) rfl sc_llines.nd (pi_str (pe_dget (hu_of hr) (pv 0) pe_str (fun _ _ => rfl))) (blkOk_by (N := n_llines) (sc := fnScope s_llines) (by decide +kernel)) (fun _ _ _ _ _ => (pg_name (i := 3) sc_llines.nd rfl (.inl rfl))) (fun _ _ _ _ _ => pts_nil) (fun _ _ _ _ _ => (pe_dget (hu_of hr) (pe_dget (hu_of hr) (pe_dget (hu_of hr) (pv 0) pe_str (fun _ _ => rfl)) (pv 2) (fun _ _ => rfl)) (pv 3) (fun _ _ => rfl)))))) pa_nil)))
        ))
      (pss_one (ps_ret (pv 1))
      ))), ?_⟩
    have e1 : (Str.ofString "reader ") ++ S sg = S ([114, 101, 97, 100, 101, 114, 32] ++ sg) := by rw [s_reader, S_cat]
    have e2 : (Str.ofString "first ") ++ S f = S ([102, 105, 114, 115, 116, 32] ++ f) := by rw [s_first, S_cat]
    refine ⟨_, rfl, _, _, rfl, t.signs, _, _, rfl, rfl, by rw [s_reader, S_len, S_len]; exact sz (m := 10) (by simp; omega) (by decide), ?_⟩
    refine ⟨_, rfl, _, _, rfl, t.first, _, _, rfl, rfl, by rw [s_first, S_len, S_len]; exact sz (m := 12) (by simp; omega) (by decide), ?_⟩
    refine ⟨by show 2 ≤ sizeLine; decide, fun p hp => ?_⟩
    rw [e1, e2]
    have hp1 : (upd H p (.lst [V.str (S ([114, 101, 97, 100, 101, 114, 32] ++ sg)), V.str (S ([102, 105, 114, 115, 116, 32] ++ f))])) p = some (.lst (txs ((linesL sg ms f tg).take (0 + 2)))) := upd_same
    have s1 : Same H (upd H p (.lst [V.str (S ([114, 101, 97, 100, 101, 114, 32] ++ sg)), V.str (S ([102, 105, 114, 115, 116, 32] ++ f))])) := sm_new hp
    generalize upd H p (.lst [V.str (S ([114, 101, 97, 100, 101, 114, 32] ++ sg)), V.str (S ([102, 105, 114, 115, 116, 32] ++ f))]) = H1 at hp1 s1 ⊢
    have t1 := t.same s1
    refine ⟨_, rfl, _, _, rfl, t1.marks, pm, rfl, ⟨_, SqL.of t1.hpm⟩, ?_⟩
    refine for_it (walk_list (K := K) (a := pm) (xs := txs ms)) (fun i σ H' => (∃ s2 s3 : Option V, σ = [some (.ref a), some (.ref p), s2, s3]) ∧ Same H H' ∧ H' p = some (.lst (txs ((linesL sg ms f tg).take (i + 2))))) ⟨⟨_, _, rfl⟩, s1, hp1⟩ (fun _ _ _ _ h => SqL.of (h.2.1 _ _ t.hpm)) ?_ ?_
    · rintro i x σ H2x H2 hi ⟨⟨s2, s3, rfl⟩, e, hpi⟩ hy
      obtain ⟨rfl, ex⟩ := hy
      obtain ⟨mm, em, rfl⟩ := txs_get ex
      have hmem := List.mem_of_getElem? em
      have t2 := t.same e
      refine ⟨_, rfl, .inl ⟨rfl, _, SqL.of hpi⟩, ?_⟩
      have hm6 := hgd.len hmem
      refine ⟨_, rfl, _, _, rfl, rfl, by rw [s_cs, S_len, S_len]; exact sz (m := 8) (by simp; omega) (by decide), ⟨_, rfl⟩, ?_⟩
      refine ⟨_, rfl, _, _, rfl, t2.signs, S sg, rfl, fun D hD => ?_⟩
      refine lc_keep keep_same walk_str hD (by show sg.length < sizeLine; exact small1000 (by omega)) (fun j y => ∀ c, sg[j]? = some c → y = .str (S (tg mm c))) (fun _ _ => trivial) (fun j z H3 H4 R2 hj r3 hy hR2 => ?_) (fun zs H3 hlz hgz r3 hDz => ?_)
      · obtain ⟨rfl, c, hc, rfl⟩ := hy
        have hc' : sg[j]? = some c := by simpa [S] using hc
        have t3 := t2.same r3
        refine ⟨rfl, ?_⟩
        refine ⟨_, rfl, _, _, rfl, t3.leads, ?_⟩
        refine ⟨_, rfl, _, _, rfl, t3.mark hmem, ?_⟩
        refine ⟨_, rfl, _, _, rfl, t3.at_ hmem (List.mem_of_getElem? hc'), ?_⟩
        exact hR2 _ _ (Same.refl _) fun c' h => by rw [Option.some.inj (hc'.symm.trans h)]
      have ez : zs = txs (sg.map (tg mm)) := by
        unfold txs; rw [List.map_map]
        exact list_map hlz fun j y c e1 e2 => hgz j y e1 c e2
      subst ez
      have hl6 : ∀ l ∈ sg.map (tg mm), l.length ≤ 6 := fun l hl => by
        obtain ⟨c, hc, rfl⟩ := List.mem_map.mp hl
        exact hgd.len (hgd.htg mm hmem c hc)
      have hll := lineL_len hgd hmem
      refine ⟨_, D, (sg.map (tg mm)).map S, rfl, rfl, .inl (SqL.of (by rw [List.map_map]; exact hDz)), by rw [s_sp]; exact joinS_ok hl6 (n := 3) (by rw [List.length_map]; exact h3) (by decide), ?_⟩
      have e3 : Txt.join (Str.ofString " ") ((sg.map (tg mm)).map S) = S (TL.joinL [32] (sg.map (tg mm))) := by rw [s_sp, join_S]
      have e4 : S mm ++ (Str.ofString ": ") ++ S (TL.joinL [32] (sg.map (tg mm))) = S (lineL sg tg mm) := by rw [s_cs, S_cat, S_cat]; rfl
      have ell : (mm ++ [58, 32]).length + (TL.joinL [32] (sg.map (tg mm))).length = (lineL sg tg mm).length := by unfold lineL; simp only [List.length_append]
      rw [e3]
      refine ⟨_, _, rfl, rfl, by rw [s_cs, S_cat, S_len, S_len]; exact sz (m := 30) (by omega) (by decide), ?_⟩
      rw [e4]
      have hpD : H3 p = some (.lst (txs ((linesL sg ms f tg).take (i + 2)))) := r3 _ _ hpi
      have hlen : (linesL sg ms f tg).length = ms.length + 2 := by unfold linesL; simp
      refine ⟨p, _, _, rfl, rfl, hpD, by rw [txs_len, List.length_take]; exact small1000 (by omega), ?_⟩
      refine ⟨⟨_, _, rfl⟩, fun b o eb => ?_, ?_⟩
      · have nb : b ≠ p := ne_of_none eb hp
        rw [upd_ne nb]; exact r3 _ _ (e _ _ eb)
      · rw [upd_same]
        have e5 : (linesL sg ms f tg)[i + 2]? = some (lineL sg tg mm) := by
          show (ms.map (lineL sg tg))[i]? = _
          rw [List.getElem?_map, em]; rfl
        have e6 : (linesL sg ms f tg).take (i + 1 + 2) = (linesL sg ms f tg).take (i + 2) ++ [lineL sg tg mm] := by
          rw [show i + 1 + 2 = (i + 2) + 1 by omega, List.take_succ, e5]; rfl
        rw [e6]
        unfold txs
        rw [List.map_append]; rfl
    · rintro σ H2 ⟨⟨s2, s3, rfl⟩, e, hpi⟩
      rw [List.take_of_length_le (by unfold linesL; simp [txs_len])] at hpi
      exact ⟨_, rfl, k p H2 e hp hpi⟩
abbrev s_lwrong : Stmt := top 43
abbrev n_lwrong : List Str := ["told", "front", "names", "line"]
theorem sc_lwrong : FnScope n_lwrong ["told", "front"] (fnScope s_lwrong) := fnScope_by (by decide +kernel)
def nameOf (l : List Nat) : List Nat := (TL.spl [58, 32] 0 [] l).headD []
def spLWrong : Sp := fun vs H Q _ => ∃ (a p : Addr) (sg : List Nat) (ms : List (List Nat)) (f : List Nat) (tg : List Nat → Nat → List Nat) (pm pl : Addr) (ad : List Nat → Addr) (ls : List (List Nat)), vs = [.ref a, .ref p] ∧ Told H a sg ms f tg pm pl ad ∧ H p = some (.lst (txs ls)) ∧ ls.length ≤ 100 ∧ (∀ l ∈ ls, l.length ≤ 100) ∧
  ∀ H', Same H H' → Q (.str (if f ∈ (ls.drop 2).map nameOf then (Str.ofString "steps") else (Str.ofString "first"))) H'
theorem spl_ne (s : List Nat) (l : List Nat) : ∃ x r, TL.spl s 0 [] l = x :: r := by
  have key : ∀ (l : List Nat) (k : Nat) (acc : List Nat), TL.spl s k acc l ≠ [] := by
    intro l
    induction l with
    | nil => intro k acc; rw [TL.spl_nil]; simp
    | cons c r ih =>
      intro k acc
      cases k with
      | zero =>
        unfold TL.spl
        split
        · simp
        · exact ih _ _
      | succ k => unfold TL.spl; exact ih _ _
  cases h : TL.spl s 0 [] l with
  | nil => exact absurd h (key l 0 [])
  | cons x r => exact ⟨x, r, rfl⟩
theorem ok_lwrong (T : BT mg) {f : Addr} {fd : FuncData} (F : Def K mg "_law_wrong" s_lwrong f fd) (b : Binds K fd ["told", "front"] []) : Cal P w K mg base 1 "_law_wrong" spLWrong [] := by
  refine cal0 F b .nil sc_lwrong (fun vs H Q E h => ?_) (fun cdv A outer s H vs Q E hr h => ?_)
  · obtain ⟨a, p, sg, ms, f, tg, pm, pl, ad, ls, rfl, _⟩ := h; rfl
  · obtain ⟨a, p, sg, ms, f, tg, pm, pl, ad, ls, rfl, t, hp, hl100, hl, k⟩ := h
    refine ⟨_, (pss_cons (ps_setLc (i := 2) (own := [("line", 3)]) rfl sc_lwrong.nd rfl rfl rfl (pi_list (pe_slice sl_list (pv 1) (po_some pe_int) po_none)) (blkOk_by (N := n_lwrong) (sc := fnScope s_lwrong) (by decide +kernel)) (fun _ _ _ _ _ => (pg_name (i := 3) sc_lwrong.nd rfl (.inl rfl))) (fun _ _ _ _ _ => pts_nil) (fun _ _ _ _ _ => (pe_ix (ixl K) (pe_split (pv 3) pe_str) pe_int (fun _ _ => rfl))))
      (pss_one (ps_ret (pe_ifExp (pt_cmpR (inK K) (pe_dget (hu_of hr) (pv 0) pe_str (fun _ _ => rfl)) (pv 2) rfl) pe_str pe_str))
      )), ?_⟩
    refine ⟨_, rfl, 2, rfl, p, _, rfl, SqL.of hp, fun q0 hq0 => ⟨q0, rfl, ⟨_, SqL.of upd_same⟩, fun D hD => ?_⟩⟩
    have h1 : (upd H q0 (.lst (cutV (txs ls) (some 2) none))) q0 = some (.lst (txs (ls.drop 2))) := by rw [← cut_from]; exact upd_same
    have s1 : Same H (upd H q0 (.lst (cutV (txs ls) (some 2) none))) := sm_new hq0
    have hD : (upd H q0 (.lst (cutV (txs ls) (some 2) none))) D = none := hD
    show ∃ W : Nat → Nat → Hp → Prop, (∃ m_1, W 0 m_1 (upd (upd H q0 (.lst (cutV (txs ls) (some 2) none))) D (.lst []))) ∧ _
    generalize upd H q0 (.lst (cutV (txs ls) (some 2) none)) = H1 at h1 s1 hD ⊢
    refine lc_keep keep_same (walk_list (K := K) (a := q0) (xs := txs (ls.drop 2))) hD (by rw [txs_len, List.length_drop]; exact small1000 (by omega)) (fun j y => ∀ l, (ls.drop 2)[j]? = some l → y = .str (S (nameOf l))) (fun H r => SqL.of (r _ _ h1)) (fun j x H4 H5 R hj r hy hR => ?_) (fun ys H4 hly hg r4 hDs => ?_)
    · obtain ⟨rfl, e⟩ := hy
      obtain ⟨l, el, rfl⟩ := txs_get e
      have hll := hl l (List.mem_of_mem_drop (List.mem_of_getElem? el))
      refine ⟨rfl, ?_⟩
      refine ⟨_, rfl, ⟨_, rfl⟩, _, _, rfl, rfl, by decide, by rw [S_len]; exact Nat.le_trans (show l.length + 2 ≤ 102 by omega) (by decide), fun q1 hq1 => ?_⟩
      have e2 : (Txt.split (S l) (Str.ofString ": ")).map V.str = txs (TL.spl [58, 32] 0 [] l) := by rw [s_cs, split_S (by simp) (by decide), strs_txs]
      rw [e2]
      obtain ⟨x, rr, ex⟩ := spl_ne [58, 32] l
      have en : nameOf l = x := by unfold nameOf; rw [ex]; rfl
      rw [ex]
      refine ⟨_, _, _, V.str (S x), rfl, rfl, SqL.of upd_same, at_of rfl rfl, ?_⟩
      exact hR _ _ (sm_new hq1) fun l2 h2 => by rw [el] at h2; cases h2; rw [en]
    have eys : ys = txs ((ls.drop 2).map nameOf) := by
      unfold txs; rw [List.map_map]
      exact list_map (hly.trans (txs_len _)) fun j y l e1 e2 => hg j y e1 l e2
    subst eys
    refine gn1 ?_
    have t4 := t.same (s1.trans r4)
    refine ⟨_, rfl, _, _, rfl, t4.first, _, rfl, D, txs ((ls.drop 2).map nameOf), rfl, .inl (SqL.of hDs), rfl, flat_txs _, ?_⟩
    rw [inV_txs]
    have k := k H4 (s1.trans r4)
    by_cases hf : f ∈ (ls.drop 2).map nameOf
    · rw [if_pos hf] at k
      exact ⟨_, rfl, iteB (decide_eq_true hf) k⟩
    · rw [if_neg hf] at k
      exact ⟨_, rfl, iteN (decide_eq_false hf) k⟩
end
end Toy
set_option maxHeartbeats 2000000
namespace Toy
open PySem L2 C8 SX LX
def mkLine (p : List Nat × List (List Nat)) : List Nat := p.1 ++ [58, 32] ++ TL.joinL [32] p.2
def mkL (a f : List Nat) (ps : List (List Nat × List (List Nat))) : List (List Nat) := ([114, 101, 97, 100, 101, 114, 32] ++ a) :: ([102, 105, 114, 115, 116, 32] ++ f) :: ps.map mkLine
def Az (l : List Nat) : Prop := ∀ c ∈ l, 97 ≤ c ∧ c ≤ 122
instance (l : List Nat) : Decidable (Az l) := by unfold Az; infer_instance
theorem Az.no {l : List Nat} (h : Az l) {c : Nat} (hc : c < 97) : c ∉ l := fun hm => by have := (h c hm).1; omega
structure MkOk (a f : List Nat) (ps : List (List Nat × List (List Nat))) : Prop where
  ha : a ≠ [] ∧ a.length ≤ 3 ∧ Az a
  hf : f ≠ [] ∧ f.length ≤ 6 ∧ Az f
  hp : ∀ p ∈ ps, Name p.1 ∧ p.2 ≠ [] ∧ p.2.length ≤ 4 ∧ ∀ t ∈ p.2, Name t
  h1 : 1 ≤ ps.length
  h9 : ps.length ≤ 9
theorem name_az {m : List Nat} (h : Name m) : Az m := h.2.2.1
theorem words_two {x y : List Nat} (hx : 32 ∉ x) (hy : 32 ∉ y) : wordsL (x ++ [32] ++ y) = [x, y] := by
  unfold wordsL
  have e : x ++ [32] ++ y = TL.joinL [32] [x, y] := by show _ = x ++ ([32] ++ y); rw [List.append_assoc]
  rw [e]
  exact TL.spl_join (by simp) fun p hp => by
    rcases List.mem_cons.mp hp with rfl | hp
    · exact hx
    · rw [List.mem_singleton.mp hp]; exact hy
theorem words_join {ts : List (List Nat)} (hne : ts ≠ []) (h : ∀ t ∈ ts, 32 ∉ t) : wordsL (TL.joinL [32] ts) = ts := TL.spl_join hne h
theorem tgt_mk {p : List Nat × List (List Nat)} (h : Name p.1 ∧ p.2 ≠ [] ∧ p.2.length ≤ 4 ∧ ∀ t ∈ p.2, Name t) : tgtL (mkLine p) = some p := by
  unfold tgtL mkLine
  have e : p.1 ++ [58, 32] ++ TL.joinL [32] p.2 = p.1 ++ (58 :: [32] ++ TL.joinL [32] p.2) := by rw [List.append_assoc]
  rw [e, TL.par_part1 ((name_az h.1).no (by decide)), List.nil_append]
  have ew : wordsL (TL.joinL [32] p.2) = p.2 := words_join h.2.1 fun t ht => (name_az (h.2.2.2 t ht)).no (by decide)
  show (if Name p.1 ∧ ∀ t ∈ wordsL (TL.joinL [32] p.2), Name t then some (p.1, wordsL (TL.joinL [32] p.2)) else none) = some p
  rw [ew]
  exact if_pos ⟨h.1, h.2.2.2⟩
theorem told_of {w y : List Nat} (hw : 32 ∉ w) (hy : 32 ∉ y) (hne : y ≠ []) : toldL w (w ++ [32] ++ y) = true := by
  unfold toldL
  rw [words_two hw hy]
  show (decide (w = w) && !decide (y = [])) = true
  rw [decide_eq_true rfl, decide_eq_false hne]; rfl
section
variable {a f : List Nat} {ps : List (List Nat × List (List Nat))}
theorem MkOk.l0 (h : MkOk a f ps) : wordsL ([114, 101, 97, 100, 101, 114, 32] ++ a) = [rdW, a] := words_two (x := rdW) (by decide) (h.ha.2.2.no (by decide))
theorem MkOk.l1 (h : MkOk a f ps) : wordsL ([102, 105, 114, 115, 116, 32] ++ f) = [fiW, f] := words_two (x := fiW) (by decide) (h.hf.2.2.no (by decide))
theorem MkOk.good (h : MkOk a f ps) : ∀ (i : Nat) (l : List Nat), (mkL a f ps)[i]? = some l → goodL i l = true
  | 0, l, e => by cases e; exact told_of (w := rdW) (by decide) (h.ha.2.2.no (by decide)) h.ha.1
  | 1, l, e => by cases e; exact told_of (w := fiW) (by decide) (h.hf.2.2.no (by decide)) h.hf.1
  | i + 2, l, e => by
    have e : (ps.map mkLine)[i]? = some l := e
    obtain ⟨p, hp, rfl⟩ := List.mem_map.mp (List.mem_of_getElem? e)
    show (tgtL (mkLine p)).isSome = true
    rw [tgt_mk (h.hp p hp)]; rfl
def LineOk (l : List Nat) : Prop := 10 ∉ l ∧ l.length ≤ 100
theorem nl_of {ls : List (List Nat)} (h : ls ≠ []) (hl : ls.length ≤ 100) (ho : ∀ l ∈ ls, LineOk l) : NoNl ls := ⟨h, fun l m => (ho l m).1, hl, fun l m => (ho l m).2⟩
theorem join_no {s c : Nat} (hc : c ≠ s) : ∀ {ts : List (List Nat)}, (∀ t ∈ ts, c ∉ t) → c ∉ TL.joinL [s] ts
  | [], _ => by simp [TL.joinL]
  | [t], h => by simpa [TL.joinL] using h t (by simp)
  | t :: u :: r, h => by
    show c ∉ t ++ ([s] ++ TL.joinL [s] (u :: r))
    rw [List.mem_append, List.mem_append]
    rintro (h1 | h1 | h1)
    · exact h t List.mem_cons_self h1
    · exact hc (List.mem_singleton.mp h1)
    · exact join_no hc (fun x hx => h x (List.mem_cons_of_mem _ hx)) h1
theorem line_ok {p : List Nat × List (List Nat)} (h : Name p.1 ∧ p.2 ≠ [] ∧ p.2.length ≤ 4 ∧ ∀ t ∈ p.2, Name t) : LineOk (mkLine p) := by
  unfold mkLine
  constructor
  · rw [List.mem_append, List.mem_append]
    rintro ((h1 | h1) | h1)
    · exact (name_az h.1).no (by decide) h1
    · revert h1; decide
    · exact join_no (by decide) (fun t ht => (name_az (h.2.2.2 t ht)).no (by decide)) h1
  · have h2 := joinL_len (sep := [32]) (m := 6) (ys := p.2) fun y hy => (h.2.2.2 y hy).2.1
    have h3 := h.1.2.1
    have h4 := h.2.2.1
    simp only [List.length_append, List.length_cons, List.length_nil] at h2 ⊢
    omega
theorem MkOk.line (h : MkOk a f ps) : ∀ l ∈ mkL a f ps, LineOk l := fun l hl => by
  rcases List.mem_cons.mp hl with rfl | hl
  · refine ⟨fun h1 => ?_, by have := h.ha.2.1; rw [List.length_append]; simp; omega⟩
    rcases List.mem_append.mp h1 with h1 | h1
    · revert h1; decide
    · exact h.ha.2.2.no (by decide) h1
  rcases List.mem_cons.mp hl with rfl | hl
  · refine ⟨fun h1 => ?_, by have := h.hf.2.1; rw [List.length_append]; simp; omega⟩
    rcases List.mem_append.mp h1 with h1 | h1
    · revert h1; decide
    · exact h.hf.2.2.no (by decide) h1
  · obtain ⟨p, hp, rfl⟩ := List.mem_map.mp hl
    exact line_ok (h.hp p hp)
theorem mkL_len : (mkL a f ps).length = ps.length + 2 := by unfold mkL; simp
theorem MkOk.nonl (h : MkOk a f ps) : NoNl (mkL a f ps) := nl_of (by unfold mkL; simp) (by rw [mkL_len]; have := h.h9; omega) h.line
theorem MkOk.end_ (h : MkOk a f ps) : EndIs (mkL a f ps) (mkL a f ps).length := ⟨Nat.le_refl _, fun j l _ e => h.good j l e, fun l e => by rw [List.getElem?_eq_none (Nat.le_refl _)] at e; cases e⟩
theorem MkOk.full (h : MkOk a f ps) : ¬ ((mkL a f ps).length < 3 ∨ (mkL a f ps).length < (mkL a f ps).length) := by rw [mkL_len]; have := h.h1; omega
theorem MkOk.rl (h : MkOk a f ps) : RL (mkL a f ps) a f ps where
  l0 := ⟨_, _, rfl, h.l0⟩
  l1 := ⟨_, _, rfl, h.l1⟩
  len := mkL_len
  at_ := fun j l e => by
    have e : (ps.map mkLine)[j]? = some l := e
    rw [List.getElem?_map] at e
    cases hp : ps[j]? with
    | none => rw [hp] at e; cases e
    | some p =>
      rw [hp] at e; cases e
      exact tgt_mk (h.hp p (List.mem_of_getElem? hp))
  pos := h.h1
  few := by have := h.h9; omega
  nar := fun p hp => by have := (h.hp p hp).2.2.1; omega
end
theorem end_bad {L R : List (List Nat)} {b : List Nat} {at_ : Nat} (hg : ∀ (i : Nat) l, L[i]? = some l → goodL i l = true) (ha : at_ ≤ L.length) (hb : goodL at_ b = false) : EndIs (L.take at_ ++ (b :: R)) at_ := by
  have hl : (L.take at_).length = at_ := by rw [List.length_take]; omega
  refine ⟨by rw [List.length_append, hl]; omega, fun j l hj e => ?_, fun l e => ?_⟩
  · rw [List.getElem?_append_left (by omega), List.getElem?_take_of_lt hj] at e
    exact hg j l e
  · rw [List.getElem?_append_right (by omega), hl, Nat.sub_self] at e
    cases e; exact hb
theorem end_take {L : List (List Nat)} {k : Nat} (hg : ∀ (i : Nat) l, L[i]? = some l → goodL i l = true) (hk : k ≤ L.length) : EndIs (L.take k) k := by
  have hl : (L.take k).length = k := by rw [List.length_take]; omega
  refine ⟨by omega, fun j l hj e => ?_, fun l e => ?_⟩
  · rw [List.getElem?_take_of_lt hj] at e; exact hg j l e
  · rw [List.getElem?_eq_none (by omega)] at e; cases e
theorem bad_ok {l : List Nat} (h : l ∈ badL) : LineOk l := ⟨(bad_good l h).2.2.2.1, by have := (bad_good l h).2.2.2.2; omega⟩
end Toy
set_option maxHeartbeats 2000000
namespace Toy
open PySem L2 C8 SX LX
def wo (B : List Addr) (H : Hp) : Hp := fun a => if a ∈ B then none else H a
def Liv (B : List Addr) (H : Hp) : Prop := ∀ b ∈ B, H b ≠ none
section
variable {B : List Addr} {H H' : Hp} {a : Addr} {o : HO}
theorem wo_in (h : a ∈ B) : wo B H a = none := if_pos h
theorem wo_out (h : a ∉ B) : wo B H a = H a := if_neg h
theorem wo_get (h : H a = some o) (n : a ∉ B) : wo B H a = some o := (wo_out n).trans h
theorem of_wo (h : wo B H a = some o) : H a = some o ∧ a ∉ B := by
  by_cases n : a ∈ B
  · rw [wo_in n] at h; cases h
  · exact ⟨(wo_out n).symm.trans h, n⟩
theorem wo_same (s : Same H H') : Same (wo B H) (wo B H') := fun a o h => let ⟨e, n⟩ := of_wo h; wo_get (s _ _ e) n
theorem wo_sub : Same (wo B H) H := fun _ _ h => (of_wo h).1
theorem wo_cons {b : Addr} : Same (wo (b :: B) H) (wo B H) := fun a o h => let ⟨e, n⟩ := of_wo h; wo_get e fun m => n (List.mem_cons_of_mem _ m)
theorem wo_upd_in (h : a ∈ B) : wo B (upd H a o) = wo B H := by
  funext c
  by_cases n : c ∈ B
  · rw [wo_in n, wo_in n]
  · rw [wo_out n, wo_out n, upd_ne (fun e => n (by rw [e]; exact h))]
theorem Liv.same (l : Liv B H) (s : Same H H') : Liv B H' := fun b hb e => by
  cases q : H b with
  | none => exact l b hb q
  | some o => rw [s _ _ q] at e; cases e
theorem Liv.new (l : Liv B H) (h : H a = none) : a ∉ B := fun m => l a m h
theorem Liv.cons {b : Addr} (l : Liv B H) (h : H b = some o) : Liv (b :: B) H := fun c hc e => by
  rcases List.mem_cons.mp hc with rfl | m
  · rw [h] at e; cases e
  · exact l c m e
end
theorem bx_wo {b : Addr} {B : List Addr} {H H' : Hp} (s : Bx b H H') (h : b ∈ B) : Same (wo B H) (wo B H') := fun a o e => let ⟨e, n⟩ := of_wo e; wo_get (s.1 _ _ (fun z => n (by rw [z]; exact h)) e) n
theorem told_wo {H : Hp} {ta b : Addr} {sg : List Nat} {ms : List (List Nat)} {f : List Nat} {tg : List Nat → Nat → List Nat} {pm pl : Addr} {ad : List Nat → Addr} (t : Told H ta sg ms f tg pm pl ad) (h1 : ta ≠ b) (h2 : pm ≠ b) (h3 : pl ≠ b) (h4 : ∀ m ∈ ms, ad m ≠ b) : Told (wo [b] H) ta sg ms f tg pm pl ad :=
  have n : ∀ {x : Addr}, x ≠ b → x ∉ [b] := fun h m => h (List.mem_singleton.mp m)
  ⟨wo_get t.ha (n h1), wo_get t.hpm (n h2), wo_get t.hpl (n h3), fun m hm => wo_get (t.had m hm) (n (h4 m hm))⟩
theorem rdr_wo {C : Addr} {H : Hp} {p b : Addr} {sg : List Nat} {ms : List (List Nat)} {f : List Nat} {tg : List Nat → Nat → List Nat} (hb : BoxAt b H) (r : Rdr C H p sg ms f tg) : Rdr C (wo [b] H) p sg ms f tg := by
  obtain ⟨dx, m, st, nu, le, sa, la, co, ca, h, hc⟩ := r
  have n : ∀ {x : Addr} {o : HO}, H x = some o → (∀ l, o ≠ .lst l) → wo [b] H x = some o := fun {x o} e k => wo_get e fun hm => by
    obtain ⟨u, e2, x1, y1, z1, rfl⟩ := hb
    rw [List.mem_singleton.mp hm, e2] at e
    exact k _ (Option.some.inj e).symm
  have kt : ∀ {xs : List V} (l : List V), HO.tup xs ≠ .lst l := fun l e => by cases e
  have kd : ∀ {xs : List (Key × V)} (l : List V), HO.dK xs ≠ .lst l := fun l e => by cases e
  have ki : ∀ {c d : Addr} {xs : List (Str × V)} (l : List V), HO.ins c d xs ≠ .lst l := fun l e => by cases e
  exact ⟨dx, m, st, nu, le, sa, la, co, ca, ⟨n h.ha ki, n h.hm kt, n h.hst kt, fun x hx => n (h.hsa x hx) kt, n h.hnu kd, n h.hle kd, fun x hx => n (h.hla x hx) kd⟩, n hc.hco kd, fun c hc' => n (hc.hca c hc') kt⟩
def GL (te : TE) (σ : L2.St) (H : Hp) (ls : List (List Nat)) : Prop := ∀ H', Same H H' → ∀ R : VK, (∀ q H1, Same H' H1 → H1 q = some (.lst (txs ls)) → R (.ref q) H1) → te σ H' R
def GV (te : TE) (σ : L2.St) (H : Hp) (v : V) : Prop := ∀ H', Same H H' → ∀ R : VK, (∀ H1, Same H' H1 → R v H1) → te σ H' R
abbrev joinR (K : PySem.W.Frag) : V → List V → Hp → VK → Prop := fun x xs H Q => ∃ a p, ∃ ys : List Str, x = .str a ∧ xs = [.ref p] ∧ (SqL K H p (ys.map V.str) ∨ SqT K H p (ys.map V.str)) ∧ (ys.map (·.length)).sum + ys.length * a.length ≤ 16777216 ∧ Q (.str (Txt.join a ys)) H
section
variable {K : PySem.W.Frag} {te te2 : TE} {σ : L2.St} {H : Hp} {ls ms : List (List Nat)} {l : List Nat} {i : Nat} {p : Addr}
theorem gl_var (hσ : σ[i]? = some (some (V.ref p))) (hp : H p = some (.lst (txs ls))) : GL (tVar i) σ H ls := fun H' s R k => ⟨_, hσ, k p H' (Same.refl _) (s _ _ hp)⟩
theorem gl_cat (h1 : GL te σ H ls) (h2 : GL te2 σ H ms) (hn : ls.length + ms.length ≤ 1000) : GL (tOp rCat te te2) σ H (ls ++ ms) := fun H' s R k =>
  h1 H' s _ fun q1 H1 s1 e1 => h2 H1 (s.trans s1) _ fun q2 H2 s2 e2 => ⟨q1, q2, _, _, rfl, rfl, s2 _ _ e1, e2, by rw [txs_len, txs_len]; exact Nat.le_trans hn (by decide), fun u hu => k u _ ((s1.trans s2).trans (sm_new hu)) (by rw [upd_same]; unfold txs; rw [List.map_append])⟩
theorem gl_one (h : GV te σ H (.str (S l))) : GL (tLst (tCons te tNil)) σ H [l] := fun H' s R k => h H' s _ fun H1 s1 => ⟨by show 1 ≤ sizeLine; decide, fun u hu => k u _ (s1.trans (sm_new hu)) (by rw [upd_same]; rfl)⟩
theorem gl_two {l2 : List Nat} (h : GV te σ H (.str (S l))) (h2 : GV te2 σ H (.str (S l2))) : GL (tLst (tCons te (tCons te2 tNil))) σ H [l, l2] := fun H' s R k =>
  h H' s _ fun H1 s1 => h2 H1 (s.trans s1) _ fun H2 s2 => ⟨by show 2 ≤ sizeLine; decide, fun u hu => k u _ ((s1.trans s2).trans (sm_new hu)) (by rw [upd_same]; rfl)⟩
theorem gl_sl {lo hi : Option Int} {tl th : TO} (hσ : σ[i]? = some (some (V.ref p))) (hp : H p = some (.lst (txs ls))) (h1 : ∀ H' R, R lo H' → tl σ H' R) (h2 : ∀ H' R, R hi H' → th σ H' R) (hc : cutV (txs ls) lo hi = txs ms) : GL (tSl (rSlL K) (tVar i) tl th) σ H ms := fun H' s R k =>
  ⟨_, hσ, h1 _ _ (h2 _ _ ⟨p, _, rfl, SqL.of (s _ _ hp), fun u hu => k u _ (sm_new hu) (by rw [upd_same, hc])⟩)⟩
theorem gv_c {v : V} : GV (tC v) σ H v := fun H' _ R k => k H' (Same.refl _)
theorem gv_var {v : V} (hσ : σ[i]? = some (some v)) : GV (tVar i) σ H v := fun H' _ R k => ⟨_, hσ, k H' (Same.refl _)⟩
theorem gv_ix0 (hσ : σ[i]? = some (some (V.ref p))) (hp : H p = some (.lst (txs (l :: ls)))) : GV (tOp (rIxL K) (tVar i) (tC (.int 0))) σ H (.str (S l)) := fun H' s R k => ⟨_, hσ, _, _, _, _, rfl, rfl, SqL.of (s _ _ hp), at_of rfl rfl, k H' (Same.refl _)⟩
theorem gj (h : GL te σ H ls) (hn : NoNl ls) : GV (tM1 (joinR K) (tC (.str (Str.ofString "\n"))) te) σ H (.str (S (TL.joinL [10] ls))) := fun H' s R k => by
  refine ⟨⟨_, rfl⟩, h H' s _ fun q H1 s1 e1 => ⟨_, q, ls.map S, rfl, rfl, .inl (SqL.of (by rw [strs_txs]; exact e1)), ?_, ?_⟩⟩
  · rw [s_nl]; exact joinS_ok hn.2.2.2 (n := 100) hn.2.2.1 (by decide)
  · rw [s_nl, join_S]; exact k H1 s1
theorem eqv_two (a : Str) (d : PyData) (hd : PyData.eqv d d = true) : PyData.eqv (.list [.str a, d]) (.list [.str a, d]) = true := by
  show ((a == a) && (PyData.eqv d d && true)) = true
  rw [hd]; simp
theorem shaped_ti (n : Int) : SeqAt.shaped (.list [.str (Str.ofString "text"), .int n]) = true := by
  have h : SeqAt.shaped (.list [.str (Str.ofString "text"), .int 0]) = true := by decide +kernel
  exact h
theorem h_text {Qb : Bool → Hp → Prop} {n : Int} {v : V} (hl : GV te σ H v) (hb : ∀ H', Same H H' → BadTx K H' v n) (h2 : GV te2 σ H (.int n)) (k : ∀ H', Same H H' → Qb false H') :
    tTest (tOp (rNeD K) (tCall (spHeard K) [] C8.E0 (tCons te tNil)) (tLst (tCons (tC (.str (Str.ofString "text"))) (tCons te2 tNil)))) σ H Qb := by
  refine hl H (Same.refl _) _ fun H1 s1 => ⟨v, rfl, .inl ⟨n, hb H1 s1, fun q H2 s2 e2 => ?_⟩⟩
  refine h2 H2 (s1.trans s2) _ fun H3 s3 => ⟨by show 2 ≤ sizeLine; decide, fun u hu => ?_⟩
  refine ⟨.list [.str (Str.ofString "text"), .int n], .list [.str (Str.ofString "text"), .int n], .lst (SqL.of ((s3.trans (sm_new hu)) _ _ e2)) (.cons (.str _) (.cons (.int _) .nil)), .lst (SqL.of upd_same) (.cons (.str _) (.cons (.int _) .nil)), shaped_ti n, shaped_ti n, false, ?_, k _ (((s1.trans s2).trans s3).trans (sm_new hu))⟩
  rw [eqv_two _ _ (by show (n == n) = true; simp)]; rfl
theorem h_rdr {Qb : Bool → Hp → Prop} {wd : Str} {v : V} (hl : GV te σ H v) (hb : BadRr v wd) (hs : SeqAt.shaped (.list [.str (Str.ofString "reader"), .str wd]) = true) (h2 : GV te2 σ H (.str wd)) (k : ∀ H', Same H H' → Qb false H') :
    tTest (tOp (rNeD K) (tCall (spHeard K) [] C8.E0 (tCons te tNil)) (tLst (tCons (tC (.str (Str.ofString "reader"))) (tCons te2 tNil)))) σ H Qb := by
  refine hl H (Same.refl _) _ fun H1 s1 => ⟨v, rfl, .inr ⟨wd, hb, fun q H2 s2 e2 => ?_⟩⟩
  refine h2 H2 (s1.trans s2) _ fun H3 s3 => ⟨by show 2 ≤ sizeLine; decide, fun u hu => ?_⟩
  refine ⟨.list [.str (Str.ofString "reader"), .str wd], .list [.str (Str.ofString "reader"), .str wd], .lst (SqL.of ((s3.trans (sm_new hu)) _ _ e2)) (.cons (.str _) (.cons (.str _) .nil)), .lst (SqL.of upd_same) (.cons (.str _) (.cons (.str _) .nil)), hs, hs, false, ?_, k _ (((s1.trans s2).trans s3).trans (sm_new hu))⟩
  rw [eqv_two _ _ (by show (wd == wd) = true; simp)]; rfl
theorem sh_rdr {wd : Str} (h : wd = "marks" ∨ wd = "first" ∨ wd = "steps" ∨ wd = "signs") : SeqAt.shaped (.list [.str (Str.ofString "reader"), .str wd]) = true := by
  rcases h with rfl | rfl | rfl | rfl <;> decide +kernel
end
end Toy
set_option maxHeartbeats 2000000
namespace LX
open PySem PySem.Spec PyProof.Rows L2 C8 SX
section
variable {X : Cx}
def tRevLX (K : PySem.W.Frag) (te ts : TE) : TE := fun σ H Q => te σ H fun x H1 => ts σ H1 fun y H2 => ∃ i, y = .int i ∧ (some i = some (-1) ∧ ∃ (a : Addr) (xs : List V), x = .ref a ∧ SqL K H2 a xs ∧ ∀ p, H2 p = none → Q (.ref p) (upd H2 p (.lst xs.reverse)))
theorem pe_revLX {e st : Expr} {te ts : TE} {p3 pos : Pos} (K : PySem.W.Frag) (he : PE X e te) (hs : PE X st ts) (hK : X.K = K := by rfl) : PE X (.Subscript e (.Slice none none (some st) p3) pos) (tRevLX K te ts) := by
  subst hK
  refine ⟨fun pins s σ H Q I h => ?_⟩
  refine Subscript_ (thn (he.run pins s σ H _ I h) fun v s1 ⟨x, H1, I1, r1, q1⟩ => ?_)
  have hst : PO X (some st) (tPart ts) := po_some hs
  refine wpAny_Slice (thn (po_none.run pins s1 σ H1 (fun o H2 => o = none ∧ H2 = H1) I1 ⟨rfl, rfl⟩) fun vl s2 ⟨l, H2, I2, pl, el, e2⟩ => ?_)
  subst el e2
  refine thn (po_none.run pins s2 σ H2 (fun o H3 => o = none ∧ H3 = H2) I2 ⟨rfl, rfl⟩) fun vu s3 ⟨u, H3, I3, pu, eu, e3⟩ => ?_
  subst eu e3
  refine thn (hst.run pins s3 σ H3 (fun o H4 => o = some (-1) ∧ ∃ (a : Addr) (xs : List V), x = .ref a ∧ SqL X.K H4 a xs ∧ ∀ p, H4 p = none → Q (.ref p) (upd H4 p (.lst xs.reverse))) I3 q1) fun vs s4 ⟨o, H4, I4, ps, eo, a, xs, ex, hx, q⟩ => ?_
  subst eo ex
  cases r1
  have I5 : Inv X pins σ H4 { s4 with heap := s4.heap.push { cls := .type "slice", data := .fields #[vl, vu, vs] } } := I4.kept (t' := s4.toks) fun b ob q => Heap.get?_push_of_some _ q
  obtain ⟨its, r, ht, hz⟩ := I5.list hx
  have hlen := r.length
  show wpAny (model X.prog X.w) X.A (subscriptTail e (.Slice none none (some st) p3) (.ref a) (.ref s4.heap.objs.size)) (EP X pins σ Q) X.xe { s4 with heap := s4.heap.push { cls := .type "slice", data := .fields #[vl, vu, vs] } }
  refine tail_any (ops := [.ref a, .ref s4.heap.objs.size]) ht.isList.typeIs (PySem.slot_list_getitem.lookup) ?_ (by with_unfolding_all rfl)
  refine wpAny_getItem_list_slice ht.isList (Heap.IsSliceOf.new _ vl vu vs) pl pu ps (by decide) ?_ (by rw [List.size_toArray]; omega)
  rw [PySem.W.krv_pick]
  refine ⟨.ref _, _, I5.laid (t' := s4.toks) (o := .lst xs.reverse) (fun b ob q => Heap.get?_push_of_some _ q) (Nat.le_refl _) ?_, rfl, q _ (I5.hok.fresh (Nat.le_refl _))⟩
  exact ⟨by rw [List.length_reverse]; exact hz, _, 0, r.reverse, Heap.get?_push_size _ rfl⟩
end
def NL (H H' : Hp) : Prop := ∀ a o, H a = some o → (∀ xs, o ≠ .lst xs) → H' a = some o
theorem NL.refl (H : Hp) : NL H H := fun _ _ e _ => e
theorem NL.trans {H H1 H2 : Hp} (p : NL H H1) (q : NL H1 H2) : NL H H2 := fun a o e n => q a o (p a o e n) n
theorem nl_same {H H' : Hp} (s : Same H H') : NL H H' := fun a o e _ => s a o e
theorem nl_lset {H : Hp} {a : Addr} {xs ys : List V} (h : H a = some (.lst xs)) : NL H (upd H a (.lst ys)) := fun b o e n => by
  rw [upd_ne (fun z => by rw [z, h] at e; exact n xs (Option.some.inj e).symm)]; exact e
end LX
set_option maxHeartbeats 2000000
namespace LX
open PySem PySem.Spec PyProof.Rows L2 C8 SX
section
variable {X : Cx} {k j : Nat} {C : Addr} {sp : Sp}
theorem met_run0 {mth : Str} {pins : List (Addr × Obj)} {σ : L2.St} {H : Hp} {s : Shared} {A : Around} {a : Addr} {Q : Value → Shared → Prop} (c : Met X.prog X.w X.K X.mg X.base k C mth sp []) (hr : Room k A) (hfr : A.frames = X.A.frames) (I : Inv X pins σ H s)
    {R : VK} (hsp : sp [.ref a] H R C8.E0) (hQ : ∀ v z H' s', Inv X pins σ H' s' → RelV z v → R z H' → Q v s') :
    ∃ f, PySem.W.findIn X.K (.ref C) mth = some (some (.ref f)) ∧ PySem.W.isFn X.K (.ref f) = true ∧ wpAny (model X.prog X.w) A (call (.ref f) [.ref a]) Q X.xe s := by
  obtain ⟨f, fd, ps, ds, hc, hm, F, hb, hd⟩ := c.ex
  refine ⟨f, hm.at_, hm.fn, ?_⟩
  have e0 : Env0 X.prog X.w X.K X.mg X.base A X.stack s H := by
    have e := I.env0
    exact ⟨by rw [hfr]; exact e.frames, e.mod, e.bs, e.bsz, e.funs, e.frf, e.hok, e.bare⟩
  have hds : ds = [] := by cases hd; rfl
  subst hds
  have hl := F.len _ _ _ _ hsp
  have r2 : Vals [V.ref a] [Value.ref a] := .cons rfl .nil
  refine wpAny_call (codeAny_mono (F.run A X.stack s H ⟨[.ref a], []⟩ [.ref a] [.ref a] _ C8.E0 hr e0 (by
    have := hb s [.ref a] I.kIn (by simpa using hl)
    simpa using this) r2 hsp) fun r s' hq => ?_)
  cases r with
  | error e => exact C8.pass0 (E := C8.E0) pins σ H s e s' I hq
  | ok fl =>
    cases fl with
    | ret w =>
      obtain ⟨z, H', I', rz, q⟩ := I.after hq
      exact hQ w z H' s' I' rz q
    | next => exact False.elim hq
    | brk => exact False.elim hq
    | cont => exact False.elim hq
theorem call_strI (c : Met X.prog X.w X.K X.mg X.base k C "__str__" sp []) (hr : Room j X.A) (hk : k + 2 ≤ j) : CallR X (.type "str") (fun xs H Q => ∃ a dx fs, xs = [.ref a] ∧ H a = some (.ins C dx fs) ∧ sp [.ref a] H (fun v H' => ∃ z, v = .str z ∧ Q (.str z) H') C8.E0) := by
  intro pins s σ H xs us Q I rel want
  obtain ⟨a, dx, fs, rfl, ha, hsp⟩ := want
  obtain ⟨u, rfl, ru⟩ := vals1 rel
  cases ru
  obtain ⟨mA, J, _⟩ := ins_get I.hok ha
  obtain ⟨od, J, _⟩ := J.look
  have r2 : Room k X.A.in1.in1 := (hr.mono hk).in1.in1
  obtain ⟨f, hs, hf, hw⟩ := met_run0 (A := X.A.in1.in1) (Q := PySem.W.StrBack (EP X pins σ Q)) c r2 rfl I hsp (fun v z H' s' I' rz q => by
    obtain ⟨y, rfl, q⟩ := q
    obtain ⟨t, rfl⟩ := rz
    exact ⟨.str y, H', I', ⟨t, rfl⟩, q⟩)
  exact PySem.W.kso_call r2.units0 I.kIn J hs hf hw
end
end LX
set_option maxHeartbeats 4000000
namespace LX
open PySem PySem.Spec PyProof.Rows L2 C8 SX
theorem fold_cps (l : List Nat) : ∀ (n : Nat) (acc : List Nat), ((List.replicate n (S l).cps).foldl (· ++ ·) acc.toArray) = (acc ++ (List.replicate n l).flatten).toArray
  | 0, acc => by simp
  | n + 1, acc => by
    rw [List.replicate_succ, List.replicate_succ, List.foldl_cons, List.flatten_cons]
    have e : acc.toArray ++ (S l).cps = (acc ++ l).toArray := by simp [S]
    rw [e, fold_cps l n (acc ++ l), List.append_assoc]
section
variable {X : Cx}
theorem op_mul_s3 : OpR X (binaryOp .Mult) (fun x y H Q => ∃ (l : List Nat) (k : Nat), x = .str (S l) ∧ y = .int (k : Nat) ∧ k ≤ 3 ∧ l.length ≤ 1000 ∧ Q (.str (S (List.replicate k l).flatten)) H) := by
  intro pins s σ H x y v u Q I rx ry h
  obtain ⟨l, k, rfl, rfl, hk, hl, q⟩ := h
  obtain ⟨t, rfl⟩ := rx
  obtain ⟨t', rfl⟩ := ry
  have hlen : (S l).length = l.length := S_len l
  by_cases h0 : k = 0
  · subst h0
    exact PySem.P.mul_str_none (by decide) (by decide) ⟨.str (S []), H, I.tok _, ⟨_, rfl⟩, q⟩
  have hk3 : k = 1 ∨ k = 2 ∨ k = 3 := by omega
  refine PySem.P.mul_str ?_ (fun _ _ => ?_) (fun _ _ => ?_) ?_
  · rcases hk3 with rfl | rfl | rfl <;> decide
  · rw [hlen]
    rcases hk3 with rfl | rfl | rfl
    · show ¬ ((l.length : Int) > (2 ^ 63 - 1) / 1); omega
    · show ¬ ((l.length : Int) > (2 ^ 63 - 1) / 2); omega
    · show ¬ ((l.length : Int) > (2 ^ 63 - 1) / 3); omega
  · rw [hlen]
    show decide _ = false
    refine decide_eq_false ?_
    have : l.length * (k : Int).toNat ≤ 3000 := by
      rw [Int.toNat_natCast]
      have := Nat.mul_le_mul hl hk
      omega
    have h2 : sizeLine = 16777216 := sizeLine_eq
    omega
  · rw [if_neg (by omega)]
    by_cases hc : ((k : Int) == 1 || (S l).length == 0) = true
    · rw [if_pos hc]
      have e : S (List.replicate k l).flatten = S l := by
        rcases Bool.or_eq_true_iff.mp hc with h | h
        · have : k = 1 := by have := eq_of_beq h; omega
          subst this; simp
        · have : l = [] := by
            have := eq_of_beq h
            rw [hlen] at this
            exact List.eq_nil_of_length_eq_zero this
          subst this; simp
      rw [e] at q
      exact ⟨.str (S l), H, I, ⟨t, rfl⟩, q⟩
    · rw [if_neg hc]
      have e : (⟨(List.replicate (k : Int).toNat (S l).cps).foldl (· ++ ·) #[]⟩ : Str) = S (List.replicate k l).flatten := by
        rw [Int.toNat_natCast]
        have := fold_cps l k []
        rw [List.nil_append] at this
        show Str.mk _ = Str.mk _
        exact congrArg Str.mk this
      rw [e]
      refine ⟨?_, .str _, H, I.tok _, ⟨_, rfl⟩, q⟩
      rw [S_len, List.length_flatten, List.map_replicate, List.sum_replicate_nat]
      have h2 : sizeLine = 16777216 := sizeLine_eq
      have := Nat.mul_le_mul hk hl
      omega
end
end LX
set_option maxHeartbeats 2000000
namespace Toy
open PySem L2 C8 SX LX
theorem Mch.good {sg : List Nat} {ms : List (List Nat)} {f : List Nat} {tg : List Nat → Nat → List Nat} {n : Nat} (m : Mch sg ms f tg n) (hn : n ≤ 7) : Good sg ms f tg :=
  ⟨m.hsg, m.hms.1, m.hms.2.1, by have := m.hms.2.2.1; omega, fun x hx => by
    have h : x ∈ nm8 := m.hms.2.2.2 x hx
    simp only [nm8, List.mem_cons, List.mem_nil_iff, or_false] at h
    rcases h with rfl | rfl | rfl | rfl | rfl | rfl | rfl | rfl <;> decide, m.hf, m.htg⟩
theorem mch_mk {sg : List Nat} {ms : List (List Nat)} {f : List Nat} {tg : List Nat → Nat → List Nat} (g : Good sg ms f tg) (h4 : ms.length ≤ 8) {ms2 : List (List Nat)} (hs : ∀ m ∈ ms2, m ∈ ms) (h1 : 1 ≤ ms2.length) (h9 : ms2.length ≤ 8) : MkOk sg f (ms2.map fun m => (m, sg.map (tg m))) := by
  have h3 := g.hsg
  have hne : sg ≠ [] := fun e => by have := h3.2.1; rw [e] at this; simp at this
  have hnf := g.hnm f g.hf
  refine ⟨⟨hne, h3.2.2.1, h3.2.2.2⟩, ⟨fun e => by have := hnf.1; rw [e] at this; simp at this, hnf.2.1, hnf.2.2.1⟩, fun p hp => ?_, by rw [List.length_map]; exact h1, by rw [List.length_map]; omega⟩
  obtain ⟨m, hm, rfl⟩ := List.mem_map.mp hp
  refine ⟨g.hnm m (hs m hm), fun e => hne (List.map_eq_nil_iff.mp e), by rw [List.length_map]; have := h3.2.2.1; omega, fun t ht => ?_⟩
  obtain ⟨c, hc, rfl⟩ := List.mem_map.mp ht
  exact g.hnm _ (g.htg m (hs m hm) c hc)
theorem lines_mk (sg : List Nat) (ms : List (List Nat)) (f : List Nat) (tg : List Nat → Nat → List Nat) : linesL sg ms f tg = mkL sg f (ms.map fun m => (m, sg.map (tg m))) := by
  unfold linesL mkL; rw [List.map_map]; rfl
theorem text_mk (sg : List Nat) (ms : List (List Nat)) (f : List Nat) (tg : List Nat → Nat → List Nat) : textL sg ms f tg = TL.joinL [10] (mkL sg f (ms.map fun m => (m, sg.map (tg m)))) := by
  rw [← lines_mk]; rfl
theorem take_mem {α : Type} {l : List α} {k : Nat} {x : α} (h : x ∈ l.take k) : x ∈ l := List.mem_of_mem_take h
theorem bad_put {K : PySem.W.Frag} {L : List (List Nat)} {lb : List Nat} {k j : Nat} (hg : ∀ (i : Nat) l, L[i]? = some l → goodL i l = true) (hk : k ≤ L.length) (hb : lb ∈ badL) (hL : ∀ l ∈ L, LineOk l) (hn : L.length ≤ 40) :
    NoNl (L.take k ++ [lb] ++ L.drop j) ∧ ∀ H, BadTx K H (.str (S (TL.joinL [10] (L.take k ++ [lb] ++ L.drop j)))) (k : Nat) := by
  have hl : (L.take k).length = k := by rw [List.length_take]; omega
  have hnl : NoNl (L.take k ++ [lb] ++ L.drop j) := by
    refine nl_of (by simp) (by simp only [List.length_append, List.length_cons, List.length_nil, List.length_drop, hl]; omega) fun l hm => ?_
    rcases List.mem_append.mp hm with hm | hm
    · rcases List.mem_append.mp hm with hm | hm
      · exact hL l (List.mem_of_mem_take hm)
      · rw [List.mem_singleton.mp hm]; exact bad_ok hb
    · exact hL l (List.mem_of_mem_drop hm)
  refine ⟨hnl, fun H => .inr ⟨_, k, rfl, hnl, ?_, .inr (by simp only [List.length_append, List.length_cons, List.length_nil, hl]; omega), rfl⟩⟩
  have e : L.take k ++ [lb] ++ L.drop j = L.take k ++ (lb :: L.drop j) := by rw [List.append_assoc]; rfl
  rw [e]
  exact end_bad hg hk (bad_good_at hb k)
theorem told_mk {p : List Nat × List (List Nat)} (h : Name p.1 ∧ p.2 ≠ [] ∧ p.2.length ≤ 4 ∧ ∀ t ∈ p.2, Name t) : toldL fiW (mkLine p) = false := by
  have e : mkLine p = TL.joinL [32] ((p.1 ++ [58]) :: p.2) := by
    unfold mkLine
    cases hp : p.2 with
    | nil => exact absurd hp h.2.1
    | cons t r =>
      show _ = (p.1 ++ [58]) ++ ([32] ++ TL.joinL [32] (t :: r))
      simp [List.append_assoc]
  have ew : wordsL (mkLine p) = (p.1 ++ [58]) :: p.2 := by
    rw [e]
    refine words_join (by simp) fun t ht => ?_
    rcases List.mem_cons.mp ht with rfl | ht
    · intro h1
      rcases List.mem_append.mp h1 with h1 | h1
      · exact (name_az h.1).no (by decide) h1
      · revert h1; decide
    · exact (name_az (h.2.2.2 t ht)).no (by decide)
  unfold toldL
  rw [ew]
  have hne : ¬ (p.1 ++ [58] = fiW) := fun h1 => by
    have h2 : 58 ∈ fiW := by rw [← h1]; simp
    revert h2; decide
  match p.2 with
  | [] => rfl
  | [t] => show (decide (p.1 ++ [58] = fiW) && _) = false; rw [decide_eq_false hne]; rfl
  | _ :: _ :: _ => rfl
section
variable {a f : List Nat} {ps : List (List Nat × List (List Nat))}
theorem MkOk.sub (h : MkOk a f ps) {ls : List (List Nat)} (hne : ls ≠ []) (hm : ∀ l ∈ ls, l ∈ mkL a f ps) (hl : ls.length ≤ 20) : NoNl ls := nl_of hne (by omega) fun l m => h.line l (hm l m)
theorem MkOk.to2 (h : MkOk a f ps) (K : PySem.W.Frag) (H : Hp) : NoNl ((mkL a f ps).take 2) ∧ BadTx K H (.str (S (TL.joinL [10] ((mkL a f ps).take 2)))) 2 := by
  have hn : NoNl ((mkL a f ps).take 2) := h.sub (by unfold mkL; simp) (fun l m => List.mem_of_mem_take m) (by rw [List.length_take]; omega)
  exact ⟨hn, .inr ⟨_, 2, rfl, hn, end_take h.good (by rw [mkL_len]; omega), .inl (by decide), rfl⟩⟩
theorem MkOk.to1 (h : MkOk a f ps) (K : PySem.W.Frag) (H : Hp) : BadTx K H (.str (S ([114, 101, 97, 100, 101, 114, 32] ++ a))) 1 := by
  have hn : NoNl ((mkL a f ps).take 1) := h.sub (by unfold mkL; simp) (fun l m => List.mem_of_mem_take m) (by rw [List.length_take]; omega)
  exact .inr ⟨(mkL a f ps).take 1, 1, rfl, hn, end_take h.good (by rw [mkL_len]; omega), .inl (by decide), rfl⟩
theorem MkOk.from1 (h : MkOk a f ps) (K : PySem.W.Frag) (H : Hp) : NoNl ((mkL a f ps).drop 1) ∧ BadTx K H (.str (S (TL.joinL [10] ((mkL a f ps).drop 1)))) 0 := by
  have hn : NoNl ((mkL a f ps).drop 1) := h.sub (by unfold mkL; simp) (fun l m => List.mem_of_mem_drop m) (by rw [List.length_drop, mkL_len]; have := h.h9; omega)
  refine ⟨hn, .inr ⟨_, 0, rfl, hn, ?_, .inl (by decide), rfl⟩⟩
  refine end_bad (L := mkL a f ps) (R := (mkL a f ps).drop 2) (b := [102, 105, 114, 115, 116, 32] ++ f) h.good (Nat.zero_le _) ?_
  show toldL rdW _ = false
  unfold toldL
  rw [h.l1]; rfl
theorem MkOk.no1 (h : MkOk a f ps) (K : PySem.W.Frag) (H : Hp) : NoNl ((mkL a f ps).take 1 ++ (mkL a f ps).drop 2) ∧ BadTx K H (.str (S (TL.joinL [10] ((mkL a f ps).take 1 ++ (mkL a f ps).drop 2)))) 1 := by
  have hn : NoNl ((mkL a f ps).take 1 ++ (mkL a f ps).drop 2) := h.sub (by unfold mkL; simp) (fun l m => by
    rcases List.mem_append.mp m with m | m
    · exact List.mem_of_mem_take m
    · exact List.mem_of_mem_drop m) (by rw [List.length_append, List.length_take, List.length_drop, mkL_len]; have := h.h9; omega)
  refine ⟨hn, .inr ⟨_, 1, rfl, hn, ?_, .inl (by decide), rfl⟩⟩
  have h1 := h.h1
  cases hps : ps with
  | nil => rw [hps] at h1; simp at h1
  | cons p r =>
    rw [← hps]
    have e : (mkL a f ps).drop 2 = mkLine p :: r.map mkLine := by rw [hps]; rfl
    rw [e]
    refine end_bad h.good (by rw [mkL_len]; omega) ?_
    show toldL fiW _ = false
    exact told_mk (h.hp p (by rw [hps]; exact List.mem_cons_self))
theorem MkOk.bad (h : MkOk a f ps) {wd : Str} (hb : BadT a f ps wd) : BadRr (.str (S (TL.joinL [10] (mkL a f ps)))) wd := ⟨_, _, a, f, ps, rfl, h.nonl, h.end_, h.full, h.rl, hb⟩
end
theorem cut_mid (ls : List (List Nat)) {a b : Nat} (h : a ≤ b) (hb : b ≤ ls.length) : cutV (txs ls) (some (a : Int)) (some (b : Int)) = txs ((ls.drop a).take (b - a)) := by
  unfold cutV
  rw [HT.sIx_nat, HT.sIx_nat, txs_len, show min a ls.length = a by omega, show min b ls.length = b by omega]
  unfold txs
  rw [← List.map_drop, ← List.map_take]
theorem cut_last (ls : List (List Nat)) (h : 1 ≤ ls.length) : cutV (txs ls) none (some (-1)) = txs (ls.take (ls.length - 1)) := by
  have e : HT.sIx ls.length ls.length (some (-1)) = ls.length - 1 := by
    show (if (-1 : Int) < 0 then ((-1 : Int) + (ls.length : Int)).toNat else min (-1 : Int).toNat ls.length) = ls.length - 1
    rw [if_pos (by decide)]; omega
  unfold cutV
  rw [HT.sIx_none, txs_len, e, Nat.sub_zero, List.drop_zero]
  unfold txs
  rw [← List.map_take]
theorem gl_eq {te : TE} {σ : L2.St} {H : Hp} {ls ms : List (List Nat)} (h : GL te σ H ls) (e : ls = ms) : GL te σ H ms := e ▸ h
theorem gv_s {x : String} {σ : L2.St} {H : Hp} {l : List Nat} (e : Str.ofString x = S l) : GV (tC (.str (Str.ofString x))) σ H (.str (S l)) := by rw [← e]; exact gv_c
theorem two_ways {c : Bool} {t1 t2 : TE} {σ : L2.St} {H : Hp} {R : VK} {F : List (List Nat)} (h1 : c = true → GL t1 σ H F) (h2 : c = false → GL t2 σ H F) (k : ∀ q H1, Same H H1 → H1 q = some (.lst (txs F)) → R (.ref q) H1) : if c = true then t1 σ H R else t2 σ H R := by
  cases c with
  | true => exact h1 rfl H (Same.refl _) R k
  | false => exact h2 rfl H (Same.refl _) R k
def qqW : List Nat := [113, 113]
def q4W : List Nat := [113, 113, 113, 113]
def zyW : List Nat := [122, 121]
theorem rep_join (w : List Nat) : ∀ n, TL.joinL [32] (List.replicate (n + 1) w) = w ++ (List.replicate n ([32] ++ w)).flatten
  | 0 => by simp [TL.joinL]
  | n + 1 => by
    show w ++ ([32] ++ TL.joinL [32] (List.replicate (n + 1) w)) = _
    rw [rep_join w n, List.replicate_succ (n := n), List.flatten_cons]
    simp [List.append_assoc]
theorem mkL_app (a f : List Nat) (xs ys : List (List Nat × List (List Nat))) : mkL a f (xs ++ ys) = mkL a f xs ++ ys.map mkLine := by
  unfold mkL; rw [List.map_append]; rfl
theorem msP_map (ms : List (List Nat)) (g : List Nat → List (List Nat)) : msP (ms.map fun m => (m, g m)) = ms := by
  unfold msP; rw [List.map_map]; exact List.map_id' ms
theorem name_mk {p : List Nat × List (List Nat)} (h : Name p.1) : nameOf (mkLine p) = p.1 := by
  unfold nameOf mkLine
  have e : p.1 ++ [58, 32] ++ TL.joinL [32] p.2 = p.1 ++ (58 :: [32] ++ TL.joinL [32] p.2) := by rw [List.append_assoc]
  rw [e, TL.spl_part1 ((name_az h).no (by decide)), List.nil_append]; rfl
theorem nm8_no {m : List Nat} (h : m ∈ nm8) : m ≠ qqW ∧ m ≠ q4W := by
  simp only [nm8, List.mem_cons, List.mem_nil_iff, or_false] at h
  rcases h with rfl | rfl | rfl | rfl | rfl | rfl | rfl | rfl <;> decide
theorem s_qq : (Str.ofString " qq") = S [32, 113, 113] := by decide +kernel
theorem s_qqc : (Str.ofString "qq: qq") = S [113, 113, 58, 32, 113, 113] := by decide +kernel
theorem s_f4 : (Str.ofString "first qqqq") = S ([102, 105, 114, 115, 116, 32] ++ q4W) := by decide +kernel
theorem s_zy : (Str.ofString "reader zy") = S ([114, 101, 97, 100, 101, 114, 32] ++ zyW) := by decide +kernel
theorem small_bad : Small badL := fun l hl c hc => by
  have h : ∀ l ∈ badL, ∀ c ∈ l, c < 1114112 := by decide +kernel
  exact h l hl c hc
section
variable {P : Program} {w : World} {K : PySem.W.Frag} {mg : Str → Option Value} {base : Heap}
abbrev s_law : Stmt := top 45
abbrev n_law : List Str := ["script", "base", "box", "told", "lines", "made", "line", "at", "other", "front", "value"]
theorem sc_law : FnScope n_law ["script"] (fnScope s_law) := fnScope_by (by decide +kernel)
def spLaw (K : PySem.W.Frag) : Sp := fun vs H Q _ => ∃ (a : Addr) (ns : List Int), vs = [.ref a] ∧ SqL K H a (ns.map V.int) ∧ ns.length ≤ 63 ∧ ∀ H', Q (.bl true) H'
theorem ok_law (T : BT mg) {C C_InvalidText C_InvalidReader : Addr} (CH : CR K C) (insC : InsC K C) (nC : NeC K C) (kS : PySem.W.kitOne K (.ref C) (.type "str") = some false) (mgC : mg "Reader" = some (.ref C)) (c_box : Cal P w K mg base 1 "_law_box" (spBox K) []) (c_take : Cal P w K mg base 1 "_law_take" spTake []) (c_mixed : Cal P w K mg base 2 "_law_mixed" (spMixed K) []) (c_signs : Cal P w K mg base 3 "_law_signs" spSigns []) (c_drawn : Cal P w K mg base 3 "_law_drawn" spDrawn []) (c_made : Cal P w K mg base 7 "_law_made" (spMade C) [])
  (c_llines : Cal P w K mg base 1 "_law_lines" spLLines []) (c_lbl : Cal P w K mg base 1 "_law_bad_lines" spLbl []) (c_lwrong : Cal P w K mg base 1 "_law_wrong" spLWrong []) (c_lheard : Cal P w K mg base 9 "_law_heard" (spHeard K) []) (c_str : Met P w K mg base 2 C "__str__" (spStr C) []) (c_eq : Met P w K mg base 1 C "__eq__" (spEqR K C) []) (c_parse : CMX P w K mg base 8 C "parse" (spParse K C C_InvalidText C_InvalidReader))
  {f : Addr} {fd : FuncData} (F : Def K mg "law" s_law f fd) : FnOk P w K mg base C8.CX0 10 f fd ["script"] (spLaw K) := by
  refine fn0 F.fn sc_law (fun vs H Q E h => ?_) (fun cdv A outer s H vs Q E hr h => ?_)
  · obtain ⟨a, ns, rfl, _⟩ := h; rfl
  · obtain ⟨a, ns, rfl, ha, hl, kk⟩ := h
    refine ⟨_, (pss_cons (ps_for PassesOwn.never rfl (pi_range1 (by rfl) T.m_range (pa_cons (pe_callB (call_max2 rfl) (by rfl) T.m_max PyProof.Rows.boot_max (pa_cons pe_int (pa_cons (pe_callB (call_min2 rfl) (by rfl) T.m_min PyProof.Rows.boot_min (pa_cons pe_int (pa_cons (pe_callB (lenK K) (by rfl) T.m_len PySem.boot_len (pa_cons (pv 0) pa_nil)) pa_nil))) pa_nil))) pa_nil)) (pg_name (i := 1) sc_law.nd rfl (.inl rfl)) 
        (pss_cons (ps_set (i := 2) sc_law.nd rfl (.inl rfl) (pe_c c_box hr (by first | decide | omega) (by rfl) (pa_cons (pv 0) (pa_cons (pv 1) pa_nil))))
        (pss_cons (ps_set (i := 3) sc_law.nd rfl (.inl rfl) (pe_c c_drawn hr (by first | decide | omega) (by rfl) (pa_cons (pv 2) (pa_cons (pe_c c_signs hr (by first | decide | omega) (by rfl) (pa_cons (pv 2) pa_nil)) (pa_cons pe_int pa_nil)))))
        (pss_cons (ps_par (i := 4) (j := 5) rfl sc_law.nd rfl rfl (by decide) rfl rfl (pa_cons (pe_c c_llines hr (by first | decide | omega) (by rfl) (pa_cons (pv 3) pa_nil)) (pa_cons (pe_c c_made hr (by first | decide | omega) (by rfl) (pa_cons (pv 3) pa_nil)) pa_nil)) rfl)
        (pss_cons (ps_if (PW.pt (pw_or (pt_cmpR op_ne (pe_callTy (call_strI c_str hr (by decide)) (by rfl) T.m_str PyProof.Rows.boot_str (pa_cons (pv 5) pa_nil)) (pe_join pe_str (pv 4)) (nomark _)) (pw_or1 (pt_cmpR (op_neI nC c_eq hr (by decide)) (pe_cmX c_parse takes_none5 hr (by decide) (pe_glob (v := .ref C) (by rfl) mgC rfl) (pa_cons (pe_join pe_str (pv 4)) pa_nil)) (pv 5) (nomark _))))) 
          (pss_one (ps_ret pe_bl)
          )
         pss_nil)
        (pss_cons (ps_for PassesOwn.never rfl (pi_list (pe_slice sl_list (pe_c c_mixed hr (by first | decide | omega) (by rfl) (pa_cons (pv 2) (pa_cons (pe_c0 c_lbl hr (by first | decide | omega) (by rfl)) pa_nil))) po_none (po_some pe_int))) (pg_name (i := 6) sc_law.nd rfl (.inl rfl)) 
          (pss_cons (ps_set (i := 7) sc_law.nd rfl (.inl rfl) (pe_c c_take hr (by first | decide | omega) (by rfl) (pa_cons (pv 2) (pa_cons (pe_callB (lenK K) (by rfl) T.m_len PySem.boot_len (pa_cons (pv 4) pa_nil)) pa_nil))))
          (pss_cons (ps_set (i := 8) sc_law.nd rfl (.inl rfl) (pe_op op_cat (pe_op op_cat (pe_slice sl_list (pv 4) po_none (po_some (pv 7))) (pe_lst (pa_cons (pv 6) pa_nil))) (pe_slice sl_list (pv 4) (po_some (pe_op op_add (pv 7) pe_int)) po_none)))
          (pss_cons (ps_if (pt_cmpR (op_neDK K hr) (pe_c c_lheard hr (by first | decide | omega) (by rfl) (pa_cons (pe_join pe_str (pv 8)) pa_nil)) (pe_lst (pa_cons pe_str (pa_cons (pv 7) pa_nil))) (nomark _)) 
            (pss_one (ps_ret pe_bl)
            )
           pss_nil)
          (pss_cons (ps_set (i := 7) sc_law.nd rfl (.inl rfl) (pe_c c_take hr (by first | decide | omega) (by rfl) (pa_cons (pv 2) (pa_cons (pe_op op_add (pe_callB (lenK K) (by rfl) T.m_len PySem.boot_len (pa_cons (pv 4) pa_nil)) pe_int) pa_nil))))
          (pss_cons (ps_set (i := 8) sc_law.nd rfl (.inl rfl) (pe_op op_cat (pe_op op_cat (pe_slice sl_list (pv 4) po_none (po_some (pv 7))) (pe_lst (pa_cons (pv 6) pa_nil))) (pe_slice sl_list (pv 4) (po_some (pv 7)) po_none)))
          (pss_one (ps_if (pt_cmpR (op_neDK K hr) (pe_c c_lheard hr (by first | decide | omega) (by rfl) (pa_cons (pe_join pe_str (pv 8)) pa_nil)) (pe_lst (pa_cons pe_str (pa_cons (pv 7) pa_nil))) (nomark _)) 
            (pss_one (ps_ret pe_bl)
            )
           pss_nil)
          )))))))
        (pss_cons (ps_if (PW.pt (pw_or (pt_cmpR (op_neDK K hr) (pe_c c_lheard hr (by first | decide | omega) (by rfl) (pa_cons (pe_join pe_str (pe_slice sl_list (pv 4) po_none (po_some pe_int))) pa_nil)) (pe_lst (pa_cons pe_str (pa_cons pe_int pa_nil))) (nomark _)) (pw_or1 (pt_cmpR (op_neDK K hr) (pe_c c_lheard hr (by first | decide | omega) (by rfl) (pa_cons (pe_ix (ixl K) (pv 4) pe_int (fun _ _ => rfl)) pa_nil)) (pe_lst (pa_cons pe_str (pa_cons pe_int pa_nil))) (nomark _))))) 
          (pss_one (ps_ret pe_bl)
          )
         pss_nil)
        (pss_cons (ps_if (pt_cmpR (op_neDK K hr) (pe_c c_lheard hr (by first | decide | omega) (by rfl) (pa_cons (pe_join pe_str (pe_slice sl_list (pv 4) (po_some pe_int) po_none)) pa_nil)) (pe_lst (pa_cons pe_str (pa_cons pe_int pa_nil))) (nomark _)) 
          (pss_one (ps_ret pe_bl)
          )
         pss_nil)
        (pss_cons (ps_if (pt_cmpR (op_neDK K hr) (pe_c c_lheard hr (by first | decide | omega) (by rfl) (pa_cons (pe_join pe_str (pe_op op_cat (pe_slice sl_list (pv 4) po_none (po_some pe_int)) (pe_slice sl_list (pv 4) (po_some pe_int) po_none))) pa_nil)) (pe_lst (pa_cons pe_str (pa_cons pe_int pa_nil))) (nomark _)) 
          (pss_one (ps_ret pe_bl)
          )
         pss_nil)
        (pss_cons (ps_set (i := 9) sc_law.nd rfl (.inl rfl) (pe_ifExp (pt_cmpR op_lt (pe_callB (lenK K) (by rfl) T.m_len PySem.boot_len (pa_cons (pv 4) pa_nil)) pe_int (nomark _)) (pv 4) (pe_slice sl_list (pv 4) po_none (po_some (pe_un un_neg pe_int)))))
        (pss_cons (ps_if (pt_cmpR (op_neDK K hr) (pe_c c_lheard hr (by first | decide | omega) (by rfl) (pa_cons (pe_join pe_str (pe_op op_cat (pv 9) (pe_slice sl_list (pv 4) (po_some pe_int) (po_some pe_int)))) pa_nil)) (pe_lst (pa_cons pe_str (pa_cons pe_str pa_nil))) (nomark _)) 
          (pss_one (ps_ret pe_bl)
          )
         pss_nil)
        (pss_cons (ps_if (pt_cmpR (op_neDK K hr) (pe_c c_lheard hr (by first | decide | omega) (by rfl) (pa_cons (pe_join pe_str (pe_op op_cat (pv 9) (pe_lst (pa_cons (pe_op op_add_str pe_str (pe_op op_mul_s3 pe_str (pe_callB call_len_str (by rfl) T.m_len PySem.boot_len (pa_cons (pe_dget (hu_of hr) (pv 3) pe_str (fun _ _ => rfl)) pa_nil)))) pa_nil)))) pa_nil)) (pe_lst (pa_cons pe_str (pa_cons (pe_c c_lwrong hr (by first | decide | omega) (by rfl) (pa_cons (pv 3) (pa_cons (pv 9) pa_nil))) pa_nil))) (nomark _)) 
          (pss_one (ps_ret pe_bl)
          )
         pss_nil)
        (pss_cons (ps_if (pt_cmpR (op_neDK K hr) (pe_c c_lheard hr (by first | decide | omega) (by rfl) (pa_cons (pe_join pe_str (pe_op op_cat (pe_lst (pa_cons (pe_ix (ixl K) (pv 4) pe_int (fun _ _ => rfl)) (pa_cons pe_str pa_nil))) (pe_slice sl_list (pv 4) (po_some pe_int) po_none))) pa_nil)) (pe_lst (pa_cons pe_str (pa_cons pe_str pa_nil))) (nomark _)) 
          (pss_one (ps_ret pe_bl)
          )
         pss_nil)
        (pss_cons (ps_if (pt_cmpR (op_neDK K hr) (pe_c c_lheard hr (by first | decide | omega) (by rfl) (pa_cons (pe_join pe_str (pe_op op_cat (pe_lst (pa_cons pe_str pa_nil)) (pe_slice sl_list (pv 4) (po_some pe_int) po_none))) pa_nil)) (pe_lst (pa_cons pe_str (pa_cons pe_str pa_nil))) (nomark _)) 
          (pss_one (ps_ret pe_bl)
          )
         pss_nil)
        (pss_one (ps_for PassesOwn.never rfl (pi_tup (pe_tup (pa_cons pe_non (pa_cons pe_int (pa_cons pe_str (pa_cons (pe_lst (pa_cons (pe_ix (ixl K) (pv 4) pe_int (fun _ _ => rfl)) pa_nil)) (pa_cons (pv 5) (pa_cons (pe_callTy (tupleK K) (by rfl) T.m_tuple PyProof.Rows.boot_tuple (pa_cons (pv 4) pa_nil)) pa_nil)))))))) (pg_name (i := 10) sc_law.nd rfl (.inl rfl)) 
          (pss_one (ps_if (pt_cmpR (op_neDK K hr) (pe_c c_lheard hr (by first | decide | omega) (by rfl) (pa_cons (pv 10) pa_nil)) (pe_lst (pa_cons pe_str (pa_cons pe_int pa_nil))) (nomark _)) 
            (pss_one (ps_ret pe_bl)
            )
           pss_nil)
          ))
        )))))))))))))))
      (pss_one (ps_ret pe_bl)
      )), ?_⟩
    refine ⟨_, rfl, a, _, rfl, .inl ha, _, _, rfl, _, _, rfl, _, rfl, ?_⟩
    rw [List.length_map]
    have hM : 0 ≤ (if (if (ns.length : Int) < 4 then (ns.length : Int) else 4) > 2 then (if (ns.length : Int) < 4 then (ns.length : Int) else 4) else 2) ∧ (if (if (ns.length : Int) < 4 then (ns.length : Int) else 4) > 2 then (if (ns.length : Int) < 4 then (ns.length : Int) else 4) else 2) ≤ 4 := by
      split <;> split <;> omega
    generalize (if (if (ns.length : Int) < 4 then (ns.length : Int) else 4) > 2 then (if (ns.length : Int) < 4 then (ns.length : Int) else 4) else 2) = M at hM ⊢
    refine ⟨by omega, by omega, ?_⟩
    refine for_it (walk_range (lo := 0)) (fun i σ H' => (∃ s1 s2 s3 s4 s5 s6 s7 s8 s9 s10 : Option V, σ = [some (.ref a), s1, s2, s3, s4, s5, s6, s7, s8, s9, s10]) ∧ Same H H')
      ⟨⟨_, _, _, _, _, _, _, _, _, _, rfl⟩, Same.refl _⟩ (fun _ _ _ _ _ => trivial) ?_ ?_
    · rintro i x0 σ H1 H1' hi ⟨⟨s1, s2, s3, s4, s5, s6, s7, s8, s9, s10, rfl⟩, e1⟩ ⟨rfl, rfl⟩
      have hi4 : i < 4 := by omega
      clear hi hM
      refine ⟨_, rfl, _, rfl, a, i, ns, by show [V.ref a, V.int (0 + (i : Int))] = _; rw [Int.zero_add], e1.seq ha, hl, by omega, fun b H2 h2 nb hB => ?_⟩
      refine ⟨_, rfl, _, rfl, b, rfl, hB, fun sg H3 hsg hq113 hB3 => ⟨b, sg, 4, rfl, hsg, by decide, by decide, hB3.2, fun ta ms f tg pm pl ad H4 hm hB4 na npm npl nad told4 => ?_⟩⟩
      have hgd := hm.good (by decide)
      refine ⟨_, rfl, ta, sg, ms, f, tg, pm, pl, ad, rfl, told4, hgd, fun p H5 s5 n5 h5 => ?_⟩
      refine ⟨_, rfl, ta, sg, ms, f, tg, pm, pl, ad, rfl, told4.same s5, hgd, fun x H6 s6 n6 r6 => ⟨_, _, rfl, ?_⟩⟩
      have hb4 : BoxAt b H4 := hB4.2
      have hb5 : BoxAt b H5 := let ⟨o, e, h⟩ := hb4; ⟨o, s5 _ _ e, h⟩
      have hb6 : BoxAt b H6 := let ⟨o, e, h⟩ := hb5; ⟨o, s6 _ _ e, h⟩
      have npb : p ≠ b := box_ne hb4 n5
      have nxb : x ≠ b := box_ne hb5 n6
      obtain ⟨ps, hps⟩ : ∃ ps, ps = ms.map (fun m => (m, sg.map (tg m))) := ⟨_, rfl⟩
      rw [lines_mk, ← hps] at h5
      have mk : MkOk sg f ps := by rw [hps]; exact mch_mk hgd hgd.h8 (fun _ h => h) hgd.h1 hgd.h8
      have hnl := mk.nonl
      have hp6 := s6 _ _ h5
      have hB36 : Bx b H3 H6 := hB4.trans ⟨fun c o _ e => s6 _ _ (s5 _ _ e), hb6⟩
      have hB26 := hB3.trans hB36
      have hlen : ps.length = ms.length := by rw [hps, List.length_map]
      have hlenL : (mkL sg f ps).length = ms.length + 2 := by rw [mkL_len, hlen]
      have hms4 : ms.length ≤ 4 := hm.hms.2.2.1
      have hms1 := hgd.h1
      obtain ⟨dx, mA, st, nu, le, sa, la, co, ca, r, hcol⟩ := id r6
      refine ⟨_, rfl, x, _, _, rfl, r.ha, ⟨x, sg, ms, f, tg, rfl, r6, hgd, fun H7 s7 => ⟨_, rfl, ?_⟩⟩⟩
      refine gj (gl_var rfl hp6) hnl H7 s7 _ fun H8 s8 => ?_
      refine ⟨rfl, _, rfl, iteN (by rw [text_mk, ← hps]; simp) ?_⟩
      refine ⟨rfl, ?_⟩
      refine gj (gl_var rfl hp6) hnl H8 (s7.trans s8) _ fun H9 s9 => ?_
      refine ⟨_, rfl, .inr ⟨_, _, rfl, hnl, mk.end_, .inr ⟨mk.full, sg, f, ps, mk.rl, .inl ⟨ms, tg, hgd, hps, fun y H10 s10 ny ry => ?_⟩⟩⟩⟩
      have s610 := ((s7.trans s8).trans s9).trans s10
      obtain ⟨dy, _, _, _, _, _, _, _, _, rr, _⟩ := id ry
      refine ⟨_, rfl, y, x, _, _, _, _, rfl, rfl, rr.ha, s610 _ _ r.ha, ⟨y, sg, ms, f, tg, .ref x, rfl, ry, hgd, .inl ⟨x, sg, ms, f, tg, rfl, r6.same s610, hgd, ⟨_, rfl, ?_⟩⟩⟩⟩
      refine ⟨_, rfl, iteN (by rw [decide_eq_true (show RSame sg ms f tg sg ms f tg from ⟨rfl, rfl, rfl, rfl⟩)]; rfl) ?_⟩
      have hb10 : BoxAt b H10 := let ⟨o, e, h⟩ := hb6; ⟨o, s610 _ _ e, h⟩
      have hW : wo [b] H6 p = some (.lst (txs (mkL sg f ps))) := wo_get hp6 (fun h => npb (List.mem_singleton.mp h))
      have rW := rdr_wo hb6 r6
      have tW : Told (wo [b] H6) ta sg ms f tg pm pl ad := (told_wo told4 (box_ne hB3.2 na) (box_ne hB3.2 npm) (box_ne hB3.2 npl) fun m hm => box_ne hB3.2 (nad m hm)).same (wo_same (s5.trans s6))
      have hBb : b ∈ [b] := List.mem_singleton.mpr rfl
      refine ⟨_, rfl, rfl, fun q0 H11 s11 n11 h11 => ?_⟩
      have hb11 : BoxAt b H11 := let ⟨o, e, h⟩ := hb10; ⟨o, s11 _ _ e, h⟩
      refine ⟨b, q0, badL, rfl, hb11, box_ne hb10 n11, SqL.of h11, small_bad, by decide, fun ys q1 H12 hperm n12 hB12 h12 => ?_⟩
      refine ⟨5, rfl, q1, _, rfl, SqL.of h12, fun q2 hq2 => ⟨q2, rfl, ⟨_, SqL.of upd_same⟩, ?_⟩⟩
      have e13 : (upd H12 q2 (.lst (cutV (txs ys) none (some 5)))) q2 = some (.lst (txs (ys.take 5))) := by rw [← cut_to]; exact upd_same
      have s13 : Same H12 (upd H12 q2 (.lst (cutV (txs ys) none (some 5)))) := sm_new hq2
      have nq2 : q2 ≠ b := box_ne hB12.2 hq2
      generalize upd H12 q2 (.lst (cutV (txs ys) none (some 5))) = H13 at e13 s13 ⊢
      have hb13 : BoxAt b H13 := let ⟨o, e, h⟩ := hB12.2; ⟨o, s13 _ _ e, h⟩
      have hB613 : Bx b H6 H13 := ⟨fun c o n e => s13 _ _ (hB12.1 _ _ n (s11 _ _ (s610 _ _ e))), hb13⟩
      have hybad : ∀ l ∈ ys.take 5, l ∈ badL := fun l h => hperm.mem_iff.mp (List.mem_of_mem_take h)
      refine for_it (walk_list (K := K) (a := q2) (xs := txs (ys.take 5))) (fun j σ H' => (∃ s6 s7 s8 s9 s10 : Option V, σ = [some (.ref a), some (.int (0 + (i : Int))), some (.ref b), some (.ref ta), some (.ref p), some (.ref x), s6, s7, s8, s9, s10]) ∧ Bx b H13 H')
        ⟨⟨_, _, _, _, _, rfl⟩, ⟨fun _ _ _ e => e, hb13⟩⟩ (fun _ _ _ _ h => SqL.of (h.2.1 _ _ nq2 e13)) ?_ ?_
      · rintro j x2 σ H14x H14 hj ⟨⟨s6, s7, s8, s9, s10, rfl⟩, e14⟩ hy
        obtain ⟨rfl, ex⟩ := hy
        obtain ⟨lb, elb, rfl⟩ := txs_get ex
        have hlb := hybad lb (List.mem_of_getElem? elb)
        have w14 : Same (wo [b] H6) (wo [b] H14) := bx_wo (hB613.trans e14) hBb
        have hp14 := (wo_sub (B := [b]) (H := H14)) _ _ (w14 _ _ hW)
        refine ⟨_, rfl, _, rfl, p, _, rfl, .inl (SqL.of hp14), b, _, rfl, e14.2, by rw [txs_len, hlenL]; omega, by rw [txs_len, hlenL]; omega, fun d H15 d0 d1 hB15 => ?_⟩
        rw [txs_len] at d1
        obtain ⟨k, rfl⟩ : ∃ k : Nat, d = k := ⟨d.toNat, by omega⟩
        have w15 : Same (wo [b] H6) (wo [b] H15) := w14.trans (bx_wo hB15 hBb)
        have hp15 := (wo_sub (B := [b]) (H := H15)) _ _ (w15 _ _ hW)
        obtain ⟨hnl1, hbad1⟩ := bad_put (K := K) (j := k + 1) mk.good (show k ≤ (mkL sg f ps).length by omega) hlb mk.line (by omega)
        refine gl_cat (gl_cat (gl_sl (i := 4) (lo := none) (hi := some (k : Int)) rfl hp15 (fun _ _ h => h) (fun _ _ h => ⟨_, rfl, _, rfl, h⟩) (cut_to _ _)) (gl_one (gv_var rfl)) (by rw [List.length_take]; simp; omega)) (gl_sl (i := 4) (lo := some ((k + 1 : Nat) : Int)) (hi := none) rfl hp15 (fun _ _ h => ⟨_, rfl, _, _, rfl, rfl, _, rfl, h⟩) (fun _ _ h => h) (cut_from _ _)) (by simp only [List.length_append, List.length_take, List.length_drop, List.length_cons, List.length_nil]; omega) H15 (Same.refl _) _ fun q3 H16 s16 h16 => ?_
        refine h_text (gj (gl_var rfl h16) hnl1) (fun _ _ => hbad1 _) (gv_var rfl) fun H17 s17 => iteN rfl ?_
        have s1517 := s16.trans s17
        have hb17 : BoxAt b H17 := let ⟨o, e, h⟩ := hB15.2; ⟨o, s1517 _ _ e, h⟩
        have hp17 := s1517 _ _ hp15
        refine ⟨_, rfl, _, rfl, p, _, rfl, .inl (SqL.of hp17), _, _, rfl, rfl, b, _, rfl, hb17, by rw [txs_len, hlenL]; omega, by rw [txs_len, hlenL]; omega, fun d H18 d0 d1 hB18 => ?_⟩
        rw [txs_len] at d1
        obtain ⟨k2, rfl⟩ : ∃ k : Nat, d = k := ⟨d.toNat, by omega⟩
        have hp18 := hB18.1 _ _ npb hp17
        obtain ⟨hnl2, hbad2⟩ := bad_put (K := K) (j := k2) mk.good (show k2 ≤ (mkL sg f ps).length by omega) hlb mk.line (by omega)
        refine gl_cat (gl_cat (gl_sl (i := 4) (lo := none) (hi := some (k2 : Int)) rfl hp18 (fun _ _ h => h) (fun _ _ h => ⟨_, rfl, _, rfl, h⟩) (cut_to _ _)) (gl_one (gv_var rfl)) (by rw [List.length_take]; simp; omega)) (gl_sl (i := 4) (lo := some (k2 : Int)) (hi := none) rfl hp18 (fun _ _ h => ⟨_, rfl, _, rfl, h⟩) (fun _ _ h => h) (cut_from _ _)) (by simp only [List.length_append, List.length_take, List.length_drop, List.length_cons, List.length_nil]; omega) H18 (Same.refl _) _ fun q4 H19 s19 h19 => ?_
        refine h_text (gj (gl_var rfl h19) hnl2) (fun _ _ => hbad2 _) (gv_var rfl) fun H20 s20 => iteN rfl ?_
        have hb20 : BoxAt b H20 := let ⟨o, e, h⟩ := hB18.2; ⟨o, (s19.trans s20) _ _ e, h⟩
        exact ⟨⟨_, _, _, _, _, rfl⟩, ⟨fun c o n e => (s19.trans s20) _ _ (hB18.1 _ _ n (s1517 _ _ (hB15.1 _ _ n (e14.1 _ _ n e)))), hb20⟩⟩
      rintro σ H14 ⟨⟨s6, s7, s8, s9, s10, rfl⟩, e14⟩
      have w14 : Same (wo [b] H6) (wo [b] H14) := bx_wo (hB613.trans e14) hBb
      have hp14 := (wo_sub (B := [b]) (H := H14)) _ _ (w14 _ _ hW)
      have r14 : Rdr C H14 x sg ms f tg := (rW.same w14).same wo_sub
      have t14 : Told H14 ta sg ms f tg pm pl ad := (tW.same w14).same wo_sub
      have hBH : Bx b H2 H14 := hB26.trans (hB613.trans e14)
      clear tW rW hW
      refine h_text (gj (gl_sl (i := 4) (lo := none) (hi := some ((2 : Nat) : Int)) rfl hp14 (fun _ _ h => h) (fun _ _ h => ⟨_, rfl, h⟩) (cut_to _ _)) (mk.to2 K H14).1) (fun H _ => (mk.to2 K H).2) gv_c fun H15 s15 => iteN rfl ?_
      refine h_text (gv_ix0 (i := 4) rfl (s15 _ _ hp14)) (fun H _ => mk.to1 K H) gv_c fun H16 s16 => iteN rfl ?_
      have s1416 := s15.trans s16
      refine h_text (gj (gl_sl (i := 4) (lo := some ((1 : Nat) : Int)) (hi := none) rfl (s1416 _ _ hp14) (fun _ _ h => ⟨_, rfl, h⟩) (fun _ _ h => h) (cut_from _ _)) (mk.from1 K H14).1) (fun H _ => (mk.from1 K H).2) gv_c fun H17 s17 => iteN rfl ?_
      have s1417 := s1416.trans s17
      refine h_text (gj (gl_cat (gl_sl (i := 4) (lo := none) (hi := some ((1 : Nat) : Int)) rfl (s1417 _ _ hp14) (fun _ _ h => h) (fun _ _ h => ⟨_, rfl, h⟩) (cut_to _ _)) (gl_sl (i := 4) (lo := some ((2 : Nat) : Int)) (hi := none) rfl (s1417 _ _ hp14) (fun _ _ h => ⟨_, rfl, h⟩) (fun _ _ h => h) (cut_from _ _)) (by rw [List.length_take, List.length_drop]; omega)) (mk.no1 K H14).1) (fun H _ => (mk.no1 K H).2) gv_c fun H18 s18 => iteN rfl ?_
      have s1418 := s1417.trans s18
      obtain ⟨m0, mr, hm0⟩ : ∃ m0 mr, ms = m0 :: mr := by
        cases ms with
        | nil => simp at hms1
        | cons m0 mr => exact ⟨m0, mr, rfl⟩
      obtain ⟨ms2, hms2⟩ : ∃ ms2, ms2 = if ms.length < 4 then ms else ms.take 3 := ⟨_, rfl⟩
      have hsub : ∀ m ∈ ms2, m ∈ ms := fun m h => by
        rw [hms2] at h
        split at h
        · exact h
        · exact List.mem_of_mem_take h
      have hl2 : 1 ≤ ms2.length ∧ ms2.length ≤ 3 := by
        rw [hms2]
        split
        · omega
        · rw [List.length_take]; omega
      have hnd2 : ms2.Nodup := by
        rw [hms2]
        split
        · exact hgd.hnd
        · exact hgd.hnd.sublist (List.take_sublist _ _)
      have hm02 : m0 ∈ ms2 := by
        rw [hms2, hm0]
        split
        · exact List.mem_cons_self
        · exact List.mem_cons_self
      have hp18 := s1418 _ _ hp14
      refine ⟨_, rfl, p, _, rfl, .inl (SqL.of hp18), _, _, rfl, rfl, _, rfl, ?_⟩
      rw [txs_len, hlenL]
      refine two_ways (F := mkL sg f (ms2.map fun m => (m, sg.map (tg m)))) (fun hc => ?_) (fun hc => ?_) fun q9 H19 s19 h19 => ?_
      · have h6 := of_decide_eq_true hc
        have e2 : ms2 = ms := by rw [hms2, if_pos (by omega)]
        rw [e2, ← hps]
        exact gl_var rfl hp18
      · have h6 := of_decide_eq_false hc
        have e2 : ms2 = ms.take 3 := by rw [hms2, if_neg (by omega)]
        refine gl_sl (i := 4) (lo := none) (hi := some (-1)) rfl hp18 (fun _ _ h => h) (fun _ _ h => ⟨_, rfl, _, rfl, h⟩) ?_
        rw [cut_last _ (by omega), hlenL, show ms.length + 2 - 1 = 5 by omega, e2, hps, List.map_take]
        refine congrArg txs ?_
        unfold mkL
        rw [List.map_take]; rfl
      refine gn1 ?_
      have hp19 := s19 _ _ hp18
      have hmm2 : ∀ m ∈ ms2 ++ [m0], m ∈ ms := fun m h => by
        rcases List.mem_append.mp h with h | h
        · exact hsub m h
        · rw [List.mem_singleton.mp h, hm0]; exact List.mem_cons_self
      have mk10 : MkOk sg f ((ms2 ++ [m0]).map fun m => (m, sg.map (tg m))) := mch_mk hgd hgd.h8 hmm2 (by simp) (by rw [List.length_append]; simp; omega)
      have e10 : mkL sg f (ms2.map fun m => (m, sg.map (tg m))) ++ ((mkL sg f ps).drop 2).take (3 - 2) = mkL sg f ((ms2 ++ [m0]).map fun m => (m, sg.map (tg m))) := by
        rw [List.map_append, mkL_app, hps, hm0]; rfl
      have b10 : BadRr (.str (S (TL.joinL [10] (mkL sg f ((ms2 ++ [m0]).map fun m => (m, sg.map (tg m))))))) (Str.ofString "marks") := mk10.bad (.inr ⟨hsg, .inl ⟨rfl, by
        rw [msP_map, List.nodup_append]
        exact fun h => h.2.2 m0 hm02 m0 (List.mem_singleton.mpr rfl) rfl⟩⟩)
      refine h_rdr (gj (gl_eq (gl_cat (gl_var (i := 9) rfl h19) (gl_sl (i := 4) (lo := some ((2 : Nat) : Int)) (hi := some ((3 : Nat) : Int)) rfl hp19 (fun _ _ h => ⟨_, rfl, h⟩) (fun _ _ h => ⟨_, rfl, h⟩) (cut_mid _ (by decide) (by omega))) (by rw [mkL_len, List.length_map, List.length_take]; omega)) e10) mk10.nonl) b10 (sh_rdr (.inl rfl)) gv_c fun H20 s20 => iteN rfl ?_
      have s1420 := (s1418.trans s19).trans s20
      have hsl : 1 ≤ sg.length ∧ sg.length ≤ 3 := ⟨hsg.2.1, hsg.2.2.1⟩
      obtain ⟨P11, hP11⟩ : ∃ P11, P11 = (ms2.map fun m => (m, sg.map (tg m))) ++ [(qqW, List.replicate (sg.length + 1) qqW)] := ⟨_, rfl⟩
      have mk2 : MkOk sg f (ms2.map fun m => (m, sg.map (tg m))) := mch_mk hgd hgd.h8 hsub hl2.1 (by omega)
      have nqq : Name qqW := by decide
      have mk11 : MkOk sg f P11 := ⟨mk2.ha, mk2.hf, fun pp hpp => by
        rw [hP11] at hpp
        rcases List.mem_append.mp hpp with hpp | hpp
        · exact mk2.hp pp hpp
        · rw [List.mem_singleton.mp hpp]
          exact ⟨nqq, by simp [List.replicate_succ], by rw [List.length_replicate]; omega, fun t ht => by rw [(List.mem_replicate.mp ht).2]; exact nqq⟩, by rw [hP11]; simp, by rw [hP11, List.length_append, List.length_map]; simp; omega⟩
      have em11 : msP P11 = ms2 ++ [qqW] := by
        have := msP_map ms2 (fun m => sg.map (tg m))
        unfold msP at this ⊢
        rw [hP11, List.map_append, this]; rfl
      have nq : ∀ m ∈ ms, m ≠ qqW ∧ m ≠ q4W := fun m h => nm8_no (hm.hms.2.2.2 m h)
      have b11 : BadRr (.str (S (TL.joinL [10] (mkL sg f P11)))) (if f ∈ ((mkL sg f (ms2.map fun m => (m, sg.map (tg m)))).drop 2).map nameOf then (Str.ofString "steps") else (Str.ofString "first")) := by
        have en : ((mkL sg f (ms2.map fun m => (m, sg.map (tg m)))).drop 2).map nameOf = ms2 := by
          show ((ms2.map fun m => (m, sg.map (tg m))).map mkLine).map nameOf = ms2
          rw [List.map_map, List.map_map]
          exact (List.map_congr_left fun m hm => name_mk (p := (m, sg.map (tg m))) (hgd.hnm m (hsub m hm))).trans (List.map_id' ms2)
        rw [en]
        have hnd : (msP P11).Nodup := by
          rw [em11, List.nodup_append]
          exact ⟨hnd2, by simp, fun a ha b hb => by rw [List.mem_singleton.mp hb]; exact (nq a (hsub a ha)).1⟩
        by_cases hf : f ∈ ms2
        · rw [if_pos hf]
          refine mk11.bad (.inr ⟨hsg, .inr ⟨hnd, .inr ⟨by rw [em11]; exact List.mem_append_left _ hf, rfl, (qqW, List.replicate (sg.length + 1) qqW), by rw [hP11]; simp, by simp⟩⟩⟩)
        · rw [if_neg hf]
          refine mk11.bad (.inr ⟨hsg, .inr ⟨hnd, .inl ⟨rfl, fun h => ?_, fun c hc => by have := (mk2.hf.2.2 c hc).2; omega⟩⟩⟩)
          rw [em11] at h
          rcases List.mem_append.mp h with h | h
          · exact hf h
          · exact (nq f hgd.hf).1 (List.mem_singleton.mp h)
      have e11 : mkL sg f (ms2.map fun m => (m, sg.map (tg m))) ++ [mkLine (qqW, List.replicate (sg.length + 1) qqW)] = mkL sg f P11 := by rw [hP11, mkL_app]; rfl
      have hwd : (if f ∈ ((mkL sg f (ms2.map fun m => (m, sg.map (tg m)))).drop 2).map nameOf then (Str.ofString "steps") else (Str.ofString "first")) = "marks" ∨ (if f ∈ ((mkL sg f (ms2.map fun m => (m, sg.map (tg m)))).drop 2).map nameOf then (Str.ofString "steps") else (Str.ofString "first")) = "first" ∨ (if f ∈ ((mkL sg f (ms2.map fun m => (m, sg.map (tg m)))).drop 2).map nameOf then (Str.ofString "steps") else (Str.ofString "first")) = "steps" ∨ (if f ∈ ((mkL sg f (ms2.map fun m => (m, sg.map (tg m)))).drop 2).map nameOf then (Str.ofString "steps") else (Str.ofString "first")) = "signs" := by
        split
        · exact .inr (.inr (.inl rfl))
        · exact .inr (.inl rfl)
      have h20 := s20 _ _ h19
      have p20 := s20 _ _ hp19
      have t20 := t14.same s1420
      have g11 : S [113, 113, 58, 32, 113, 113] ++ S (List.replicate sg.length [32, 113, 113]).flatten = S (mkLine (qqW, List.replicate (sg.length + 1) qqW)) := by
        rw [S_cat]; unfold mkLine; rw [rep_join]; rfl
      have l11 : (List.replicate sg.length [32, 113, 113]).flatten.length ≤ 9 := by
        rw [List.length_flatten, List.map_replicate, List.sum_replicate_nat]; simp; omega
      refine h_rdr (gj (gl_eq (gl_cat (gl_var (i := 9) rfl h20) (gl_one (l := mkLine (qqW, List.replicate (sg.length + 1) qqW)) (fun H' s R k => ?g11)) (by rw [mkL_len, List.length_map]; simp; omega)) e11) mk11.nonl) b11 (sh_rdr hwd) (fun H' s R k => ⟨_, rfl, _, rfl, ta, q9, sg, ms, f, tg, pm, pl, ad, _, rfl, t20.same s, s _ _ h20, by rw [mkL_len, List.length_map]; omega, fun l hl => (mk2.line l hl).2, k⟩) fun H21 s21 => iteN rfl ?_
      case g11 =>
        refine ⟨_, rfl, _, _, rfl, (t20.same s).signs, S sg, rfl, by rw [S_len]; exact sz (m := 3) hsl.2 (by decide), ?_⟩
        refine ⟨[32, 113, 113], sg.length, by rw [s_qq], by rw [S_len], hsl.2, by decide, _, _, rfl, rfl, by rw [s_qqc, S_len, S_len]; exact sz (m := 20) (by simp at l11 ⊢; omega) (by decide), ?_⟩
        rw [s_qqc, g11]
        exact k H' (Same.refl _)
      have s1421 := s1420.trans s21
      have mk12 : MkOk sg q4W ps := ⟨mk.ha, by decide, mk.hp, mk.h1, mk.h9⟩
      have em : msP ps = ms := by rw [hps]; exact msP_map _ _
      have b12 : BadRr (.str (S (TL.joinL [10] (mkL sg q4W ps)))) (Str.ofString "first") := mk12.bad (.inr ⟨hsg, .inr ⟨by rw [em]; exact hgd.hnd, .inl ⟨rfl, fun h => by rw [em] at h; exact (nq _ h).2 rfl, by decide⟩⟩⟩)
      have e12 : [[114, 101, 97, 100, 101, 114, 32] ++ sg, [102, 105, 114, 115, 116, 32] ++ q4W] ++ (mkL sg f ps).drop 2 = mkL sg q4W ps := rfl
      have hp21 := s1421 _ _ hp14
      refine h_rdr (gj (gl_eq (gl_cat (gl_two (gv_ix0 (i := 4) rfl hp21) (gv_s s_f4)) (gl_sl (i := 4) (lo := some ((2 : Nat) : Int)) (hi := none) rfl hp21 (fun _ _ h => ⟨_, rfl, h⟩) (fun _ _ h => h) (cut_from _ _)) (by rw [List.length_drop]; simp; omega)) e12) mk12.nonl) b12 (sh_rdr (.inr (.inl rfl))) gv_c fun H22 s22 => iteN rfl ?_
      have s1422 := s1421.trans s22
      have mk13 : MkOk zyW f ps := ⟨by decide, mk.hf, mk.hp, mk.h1, mk.h9⟩
      have b13 : BadRr (.str (S (TL.joinL [10] (mkL zyW f ps)))) (Str.ofString "signs") := mk13.bad (.inl ⟨rfl, by decide, by decide⟩)
      have e13 : [[114, 101, 97, 100, 101, 114, 32] ++ zyW] ++ (mkL sg f ps).drop 1 = mkL zyW f ps := rfl
      have hp22 := s1422 _ _ hp14
      refine h_rdr (gj (gl_eq (gl_cat (gl_one (gv_s s_zy)) (gl_sl (i := 4) (lo := some ((1 : Nat) : Int)) (hi := none) rfl hp22 (fun _ _ h => ⟨_, rfl, h⟩) (fun _ _ h => h) (cut_from _ _)) (by rw [List.length_drop]; simp; omega)) e13) mk13.nonl) b13 (sh_rdr (.inr (.inr (.inr rfl)))) gv_c fun H23 s23 => iteN rfl ?_
      have s1423 := s1422.trans s23
      have hp23 := s1423 _ _ hp14
      refine ⟨_, rfl, _, _, _, _, rfl, rfl, SqL.of hp23, at_of rfl rfl, by show 1 ≤ sizeLine; decide, fun u hu => ?_⟩
      have s24 : Same H23 (upd H23 u (.lst [V.str (S ([114, 101, 97, 100, 101, 114, 32] ++ sg))])) := sm_new hu
      have hu24 : (upd H23 u (.lst [V.str (S ([114, 101, 97, 100, 101, 114, 32] ++ sg))])) u = some (.lst [V.str (S ([114, 101, 97, 100, 101, 114, 32] ++ sg))]) := upd_same
      show tCons (tVar 5) _ _ (upd H23 u (.lst [V.str (S ([114, 101, 97, 100, 101, 114, 32] ++ sg))])) _
      generalize upd H23 u (.lst [V.str (S ([114, 101, 97, 100, 101, 114, 32] ++ sg))]) = H24 at s24 hu24 ⊢
      refine ⟨_, rfl, _, rfl, p, _, rfl, .inl ⟨SqL.of (s24 _ _ hp23), fun w hw => ?_⟩⟩
      have s25 : Same H24 (upd H24 w (.tup (txs (mkL sg f ps)))) := sm_new hw
      have hw25 : (upd H24 w (.tup (txs (mkL sg f ps)))) w = some (.tup (txs (mkL sg f ps))) := upd_same
      generalize upd H24 w (.tup (txs (mkL sg f ps))) = H25 at s25 hw25 ⊢
      refine ⟨by show 6 ≤ sizeLine; decide, fun v hv => ⟨v, rfl, ⟨_, SqT.of upd_same⟩, ?_⟩⟩
      have s26 : Same H25 (upd H25 v (.tup [V.non, V.int 3, V.str (Str.ofString ""), V.ref u, V.ref x, V.ref w])) := sm_new hv
      have hv26 : (upd H25 v (.tup [V.non, V.int 3, V.str (Str.ofString ""), V.ref u, V.ref x, V.ref w])) v = some (.tup [V.non, V.int 3, V.str (Str.ofString ""), V.ref u, V.ref x, V.ref w]) := upd_same
      generalize upd H25 v (.tup [V.non, V.int 3, V.str (Str.ofString ""), V.ref u, V.ref x, V.ref w]) = H26 at s26 hv26 ⊢
      have hu26 := s26 _ _ (s25 _ _ hu24)
      have hw26 := s26 _ _ hw25
      have s1426 := ((s1423.trans s24).trans s25).trans s26
      obtain ⟨dx4, _, _, _, _, _, _, _, _, r4, _⟩ := id r14
      have hx26 := s1426 _ _ r4.ha
      refine for_it (walk_tup (K := K) (a := v) (xs := [V.non, V.int 3, V.str (Str.ofString ""), V.ref u, V.ref x, V.ref w])) (fun j σ H' => (∃ s6 s7 s8 s9 s10 : Option V, σ = [some (.ref a), some (.int (0 + (i : Int))), some (.ref b), some (.ref ta), some (.ref p), some (.ref x), s6, s7, s8, s9, s10]) ∧ Same H26 H')
        ⟨⟨_, _, _, _, _, rfl⟩, Same.refl _⟩ (fun _ _ _ _ h => SqT.of (h.2 _ _ hv26)) ?_ ?_
      · rintro j y σ Hx H27 hj ⟨⟨s6, s7, s8, s9, s10, rfl⟩, e27⟩ hy
        obtain ⟨rfl, ey⟩ := hy
        have hbt : ∀ H', Same H26 H' → BadTx K H' y 0 := fun H' s' => by
          match j, ey with
          | 0, ey => cases ey; exact .inl ⟨.no (.base .non) (kit_ty (a := "NoneType") (by decide +kernel)), rfl⟩
          | 1, ey => cases ey; exact .inl ⟨.no (.base (.int _)) (kit_ty (a := "int") (by decide +kernel)), rfl⟩
          | 2, ey =>
            cases ey
            refine .inr ⟨[[]], 0, by rw [s_nil]; rfl, nl_of (by simp) (by decide) (fun l hl => by rw [List.mem_singleton.mp hl]; exact ⟨by simp, by simp⟩), ⟨Nat.zero_le _, fun j l h => absurd h (Nat.not_lt_zero _), fun l e => by cases e; decide⟩, .inl (by decide), rfl⟩
          | 3, ey => cases ey; exact .inl ⟨.no (.base (.lst (s' _ _ hu26))) (kit_ty (a := "list") (by decide +kernel)), rfl⟩
          | 4, ey => cases ey; exact .inl ⟨kv_ins insC kS (s' _ _ hx26), rfl⟩
          | 5, ey => cases ey; exact .inl ⟨.no (.base (.tup (s' _ _ hw26))) (kit_ty (a := "tuple") (by decide +kernel)), rfl⟩
          | k + 6, ey => simp at ey
        refine h_text (gv_var rfl) (fun H' s' => hbt H' (e27.trans s')) gv_c fun H28 s28 => iteN rfl ?_
        exact ⟨⟨_, _, _, _, _, rfl⟩, e27.trans s28⟩
      rintro σ H27 ⟨⟨s6, s7, s8, s9, s10, rfl⟩, e27⟩
      exact ⟨⟨_, _, _, _, _, _, _, _, _, _, rfl⟩, fun c o h => e27 _ _ (s1426 _ _ (hBH.1 _ _ (ne_of_none (e1 _ _ h) nb) (h2 _ _ (e1 _ _ h))))⟩
    · rintro σ H2 ⟨⟨s1, s2, s3, s4, s5, s6, s7, s8, s9, s10, rfl⟩, _⟩
      exact kk _
end
end Toy
set_option maxHeartbeats 8000000
namespace Toy
open PySem L2 C8 SX LX
theorem no_names {K : PySem.W.Frag} {N : Addr} {od : Option Addr} {n : Nat} {sl : Array (Option Value)} {u0 u1 u2 u3 u4 u5 u6 u7 u8 u9 : Tok}
    (h : K.lookup N = some ⟨.type "tuple", od, .seq #[.str (Str.ofString "back") u0, .str (Str.ofString "is") u1, .str (Str.ofString "not") u2, .str (Str.ofString "and") u3, .str (Str.ofString "or") u4, .str (Str.ofString "if") u5, .str (Str.ofString "then") u6, .str (Str.ofString "for") u7, .str (Str.ofString "all") u8, .str (Str.ofString "some") u9] n, sl⟩) (H : Hp) : SqT K H N (txs no10) := by
  refine .inr ⟨_, _, _, h, rfl, rfl, (by show 10 ≤ sizeLine; decide), ?_⟩
  have e0 : (Str.ofString "back") = S [98, 97, 99, 107] := by decide +kernel
  have e1 : (Str.ofString "is") = S [105, 115] := by decide +kernel
  have e2 : (Str.ofString "not") = S [110, 111, 116] := by decide +kernel
  have e3 : (Str.ofString "and") = S [97, 110, 100] := by decide +kernel
  have e4 : (Str.ofString "or") = S [111, 114] := by decide +kernel
  have e5 : (Str.ofString "if") = S [105, 102] := by decide +kernel
  have e6 : (Str.ofString "then") = S [116, 104, 101, 110] := by decide +kernel
  have e7 : (Str.ofString "for") = S [102, 111, 114] := by decide +kernel
  have e8 : (Str.ofString "all") = S [97, 108, 108] := by decide +kernel
  have e9 : (Str.ofString "some") = S [115, 111, 109, 101] := by decide +kernel
  rw [e0, e1, e2, e3, e4, e5, e6, e7, e8, e9]
  exact .cons ⟨_, rfl⟩ (.cons ⟨_, rfl⟩ (.cons ⟨_, rfl⟩ (.cons ⟨_, rfl⟩ (.cons ⟨_, rfl⟩ (.cons ⟨_, rfl⟩ (.cons ⟨_, rfl⟩ (.cons ⟨_, rfl⟩ (.cons ⟨_, rfl⟩ (.cons ⟨_, rfl⟩ .nil)))))))))
theorem all_mk {l : PySem.W.OpenLaw} {w : World} {K : PySem.W.Frag} {h : Heap} {mg : Str → Option Value} {fa : Addr} {f_take f_pick f_mixed f_signs f_drawn f_box f_isseq f_isrow f_isletters f_issigns f_isname f_ismarks f_istargets f_issteps f_m_num f_table f_cols f_init f_xir f_xit f_lines f_str f_eq f_lot f_istold f_tol f_rend f_wrl f_rol f_parse f_llines f_lwrong f_lbl f_lheard f_made f_law C_Reader C_InvalidReader C_InvalidText C_RowError p_parse : Addr} (X : K.In h) (G : h.Ns mainGlobals mg) (hfa : mg "law" = some (.ref fa))
    {rest_parse : List Value}
    {od_take an_take : Option Addr} {sl_take : Array (Option Value)} {oc_take kV_take dc_take pm_take cd_take ct_take : Value}
    {od_pick an_pick : Option Addr} {sl_pick : Array (Option Value)} {oc_pick kV_pick dc_pick pm_pick cd_pick ct_pick : Value}
    {od_mixed an_mixed : Option Addr} {sl_mixed : Array (Option Value)} {oc_mixed kV_mixed dc_mixed pm_mixed cd_mixed ct_mixed : Value}
    {od_signs an_signs : Option Addr} {sl_signs : Array (Option Value)} {oc_signs kV_signs dc_signs pm_signs cd_signs ct_signs : Value}
    {od_drawn an_drawn : Option Addr} {sl_drawn : Array (Option Value)} {oc_drawn kV_drawn dc_drawn pm_drawn cd_drawn ct_drawn : Value}
    {od_box an_box : Option Addr} {sl_box : Array (Option Value)} {oc_box kV_box dc_box pm_box cd_box ct_box : Value}
    {od_isseq an_isseq : Option Addr} {sl_isseq : Array (Option Value)} {oc_isseq kV_isseq dc_isseq pm_isseq cd_isseq ct_isseq : Value}
    {od_isrow an_isrow : Option Addr} {sl_isrow : Array (Option Value)} {oc_isrow kV_isrow dc_isrow pm_isrow cd_isrow ct_isrow : Value}
    {od_isletters an_isletters : Option Addr} {sl_isletters : Array (Option Value)} {oc_isletters kV_isletters dc_isletters pm_isletters cd_isletters ct_isletters : Value}
    {od_issigns an_issigns : Option Addr} {sl_issigns : Array (Option Value)} {oc_issigns kV_issigns dc_issigns pm_issigns cd_issigns ct_issigns : Value}
    {od_isname an_isname : Option Addr} {sl_isname : Array (Option Value)} {oc_isname kV_isname dc_isname pm_isname cd_isname ct_isname : Value}
    {od_ismarks an_ismarks : Option Addr} {sl_ismarks : Array (Option Value)} {oc_ismarks kV_ismarks dc_ismarks pm_ismarks cd_ismarks ct_ismarks : Value}
    {od_istargets an_istargets : Option Addr} {sl_istargets : Array (Option Value)} {oc_istargets kV_istargets dc_istargets pm_istargets cd_istargets ct_istargets : Value}
    {od_issteps an_issteps : Option Addr} {sl_issteps : Array (Option Value)} {oc_issteps kV_issteps dc_issteps pm_issteps cd_issteps ct_issteps : Value}
    {od_m_num an_m_num : Option Addr} {sl_m_num : Array (Option Value)} {oc_m_num kV_m_num dc_m_num pm_m_num cd_m_num ct_m_num : Value}
    {od_table an_table : Option Addr} {sl_table : Array (Option Value)} {oc_table kV_table dc_table pm_table cd_table ct_table : Value}
    {od_cols an_cols : Option Addr} {sl_cols : Array (Option Value)} {oc_cols kV_cols dc_cols pm_cols cd_cols ct_cols : Value}
    {od_init an_init : Option Addr} {sl_init : Array (Option Value)} {oc_init kV_init dc_init pm_init cd_init ct_init : Value}
    {od_xir an_xir : Option Addr} {sl_xir : Array (Option Value)} {oc_xir kV_xir dc_xir pm_xir cd_xir ct_xir : Value}
    {od_xit an_xit : Option Addr} {sl_xit : Array (Option Value)} {oc_xit kV_xit dc_xit pm_xit cd_xit ct_xit : Value}
    {od_lines an_lines : Option Addr} {sl_lines : Array (Option Value)} {oc_lines kV_lines dc_lines pm_lines cd_lines ct_lines : Value}
    {od_str an_str : Option Addr} {sl_str : Array (Option Value)} {oc_str kV_str dc_str pm_str cd_str ct_str : Value}
    {od_eq an_eq : Option Addr} {sl_eq : Array (Option Value)} {oc_eq kV_eq dc_eq pm_eq cd_eq ct_eq : Value}
    {od_lot an_lot : Option Addr} {sl_lot : Array (Option Value)} {oc_lot kV_lot dc_lot pm_lot cd_lot ct_lot : Value}
    {od_istold an_istold : Option Addr} {sl_istold : Array (Option Value)} {oc_istold kV_istold dc_istold pm_istold cd_istold ct_istold : Value}
    {od_tol an_tol : Option Addr} {sl_tol : Array (Option Value)} {oc_tol kV_tol dc_tol pm_tol cd_tol ct_tol : Value}
    {od_rend an_rend : Option Addr} {sl_rend : Array (Option Value)} {oc_rend kV_rend dc_rend pm_rend cd_rend ct_rend : Value}
    {od_wrl an_wrl : Option Addr} {sl_wrl : Array (Option Value)} {oc_wrl kV_wrl dc_wrl pm_wrl cd_wrl ct_wrl : Value}
    {od_rol an_rol : Option Addr} {sl_rol : Array (Option Value)} {oc_rol kV_rol dc_rol pm_rol cd_rol ct_rol : Value}
    {od_parse an_parse : Option Addr} {sl_parse : Array (Option Value)} {oc_parse kV_parse dc_parse pm_parse cd_parse ct_parse : Value}
    {od_llines an_llines : Option Addr} {sl_llines : Array (Option Value)} {oc_llines kV_llines dc_llines pm_llines cd_llines ct_llines : Value}
    {od_lwrong an_lwrong : Option Addr} {sl_lwrong : Array (Option Value)} {oc_lwrong kV_lwrong dc_lwrong pm_lwrong cd_lwrong ct_lwrong : Value}
    {od_lbl an_lbl : Option Addr} {sl_lbl : Array (Option Value)} {oc_lbl kV_lbl dc_lbl pm_lbl cd_lbl ct_lbl : Value}
    {od_lheard an_lheard : Option Addr} {sl_lheard : Array (Option Value)} {oc_lheard kV_lheard dc_lheard pm_lheard cd_lheard ct_lheard : Value}
    {od_made an_made : Option Addr} {sl_made : Array (Option Value)} {oc_made kV_made dc_made pm_made cd_made ct_made : Value}
    {od_law an_law : Option Addr} {sl_law : Array (Option Value)} {oc_law kV_law dc_law pm_law cd_law ct_law : Value}
    {N_nn : Addr} {od_nn : Option Addr} {n_nn : Nat} {sl_nn : Array (Option Value)} {u0_nn u1_nn u2_nn u3_nn u4_nn u5_nn u6_nn u7_nn u8_nn u9_nn : Tok}
    (tg_nn : PySem.W.nsIn K mainGlobals "_NO_NAMES" = some (some (.ref N_nn)))
    (tl_nn : K.lookup N_nn = some ⟨.type "tuple", od_nn, .seq #[.str (Str.ofString "back") u0_nn, .str (Str.ofString "is") u1_nn, .str (Str.ofString "not") u2_nn, .str (Str.ofString "and") u3_nn, .str (Str.ofString "or") u4_nn, .str (Str.ofString "if") u5_nn, .str (Str.ofString "then") u6_nn, .str (Str.ofString "for") u7_nn, .str (Str.ofString "all") u8_nn, .str (Str.ofString "some") u9_nn] n_nn, sl_nn⟩)
    {tk_az : Tok}
    (q_az : PySem.W.nsIn K mainGlobals "_LETTERS" = some (some (.str (S az) tk_az)))
    (g_Reader : PySem.W.nsIn K mainGlobals "Reader" = some (some (.ref C_Reader)))
    (pg_Reader : PySem.W.plainGet K C_Reader Str.empty = true)
    (hd_Reader : PySem.W.hasDictIn K C_Reader = true)
    (po_Reader : PySem.W.plainOver K C_Reader = true)
    (sa_Reader : PySem.W.findIn K (.ref C_Reader) "__setattr__" = some (some (.builtin "object.__setattr__")))
    (kc_Reader : PySem.W.keepIn K (.ref C_Reader) = true)
    (n_Reader_signs : PySem.W.findIn K (.ref C_Reader) "signs" = some none)
    (n_Reader_marks : PySem.W.findIn K (.ref C_Reader) "marks" = some none)
    (n_Reader_first : PySem.W.findIn K (.ref C_Reader) "first" = some none)
    (n_Reader_steps : PySem.W.findIn K (.ref C_Reader) "steps" = some none)
    (n_Reader__numbers : PySem.W.findIn K (.ref C_Reader) "_numbers" = some none)
    (n_Reader__leads : PySem.W.findIn K (.ref C_Reader) "_leads" = some none)
    (n_Reader__columns : PySem.W.findIn K (.ref C_Reader) "_columns" = some none)
    (mk_Reader : PySem.W.makesIn K C_Reader = true)
    (ha_Reader : PySem.W.findIn K (.ref C_Reader) "__class__" = some (some (.builtin "object.__class__")))
    (hn_Reader : PySem.W.specialIn K (.builtin "object.__class__") "__get__" = some (some (.builtin "getset_descriptor.__get__")))
    (tk_Reader : PySem.W.takesIn K (.builtin "object.__class__") = some true)
    (hm_Reader : PySem.W.mroIn K C_Reader (.type "object") = some true)
    (ne_Reader : PySem.W.findIn K (.ref C_Reader) "__ne__" = some (some (.builtin "object.__ne__")))
    (sf_Reader : PySem.W.selfFirst K C_Reader = true)
    (xg_InvalidReader : PySem.W.nsIn K mainGlobals "InvalidReader" = some (some (.ref C_InvalidReader)))
    (xg_InvalidText : PySem.W.nsIn K mainGlobals "InvalidText" = some (some (.ref C_InvalidText)))
    (xg_RowError : PySem.W.nsIn K mainGlobals "RowError" = some (some (.ref C_RowError)))
    (xc_InvalidReader : XC K C_InvalidReader)
    (xc_InvalidText : XC K C_InvalidText)
    (xf_InvalidReader : PySem.W.findIn K (.ref C_InvalidReader) "word" = some none)
    (xf_InvalidText : PySem.W.findIn K (.ref C_InvalidText) "at" = some none)
    (xs_TT : PySem.W.subIn K (.ref C_InvalidText) (.ref C_InvalidText) = some true)
    (xs_IT : PySem.W.subIn K (.ref C_InvalidReader) (.ref C_InvalidText) = some false)
    (xs_II : PySem.W.subIn K (.ref C_InvalidReader) (.ref C_InvalidReader) = some true)
    (xk_TR : PySem.W.kitOne K (.ref C_InvalidText) (.ref C_RowError) = some true)
    (xk_TI : PySem.W.kitOne K (.ref C_InvalidText) (.ref C_InvalidReader) = some false)
    (xk_rs : PySem.W.kitOne K (.ref C_Reader) (.type "str") = some false)
    (cm_at : PySem.W.findCls K (.ref C_Reader) (.type "type") "parse" = some (.get (.builtin "classmethod.__get__") (.ref p_parse) .none (.ref C_Reader)))
    (cm_rc : PySem.W.recIn K p_parse "classmethod" = some (.ref f_parse :: rest_parse))
    (cm_fi : PySem.W.fnIn K f_parse = true)
    (cr_rd : PySem.W.readsIn K C_Reader (.type "type") = true)
    (cr_ga : PySem.W.specialIn K (.ref C_Reader) "__getattribute__" = some (some (.builtin "type.__getattribute__")))
    (a_take : PySem.W.nsIn K mainGlobals "_law_take" = some (some (.ref f_take)))
    (l_take : K.lookup f_take = some ⟨oc_take, od_take, .func (PySem.W.fnOf "_law_take" "_law_take" (C8.fnArgs s_take) (C8.fnBody s_take) (C8.fnScope s_take) .none kV_take dc_take pm_take an_take cd_take ct_take), sl_take⟩)
    (c_take : PySem.W.codeIn K cd_take "_law_take" = true)
    (k_take : PySem.W.keepIn K (.ref f_take) = true)
    (a_pick : PySem.W.nsIn K mainGlobals "_law_pick" = some (some (.ref f_pick)))
    (l_pick : K.lookup f_pick = some ⟨oc_pick, od_pick, .func (PySem.W.fnOf "_law_pick" "_law_pick" (C8.fnArgs s_pick) (C8.fnBody s_pick) (C8.fnScope s_pick) .none kV_pick dc_pick pm_pick an_pick cd_pick ct_pick), sl_pick⟩)
    (c_pick : PySem.W.codeIn K cd_pick "_law_pick" = true)
    (k_pick : PySem.W.keepIn K (.ref f_pick) = true)
    (a_mixed : PySem.W.nsIn K mainGlobals "_law_mixed" = some (some (.ref f_mixed)))
    (l_mixed : K.lookup f_mixed = some ⟨oc_mixed, od_mixed, .func (PySem.W.fnOf "_law_mixed" "_law_mixed" (C8.fnArgs s_mixed) (C8.fnBody s_mixed) (C8.fnScope s_mixed) .none kV_mixed dc_mixed pm_mixed an_mixed cd_mixed ct_mixed), sl_mixed⟩)
    (c_mixed : PySem.W.codeIn K cd_mixed "_law_mixed" = true)
    (k_mixed : PySem.W.keepIn K (.ref f_mixed) = true)
    (a_signs : PySem.W.nsIn K mainGlobals "_law_signs" = some (some (.ref f_signs)))
    (l_signs : K.lookup f_signs = some ⟨oc_signs, od_signs, .func (PySem.W.fnOf "_law_signs" "_law_signs" (C8.fnArgs s_signs) (C8.fnBody s_signs) (C8.fnScope s_signs) .none kV_signs dc_signs pm_signs an_signs cd_signs ct_signs), sl_signs⟩)
    (c_signs : PySem.W.codeIn K cd_signs "_law_signs" = true)
    (k_signs : PySem.W.keepIn K (.ref f_signs) = true)
    (a_drawn : PySem.W.nsIn K mainGlobals "_law_drawn" = some (some (.ref f_drawn)))
    (l_drawn : K.lookup f_drawn = some ⟨oc_drawn, od_drawn, .func (PySem.W.fnOf "_law_drawn" "_law_drawn" (C8.fnArgs s_drawn) (C8.fnBody s_drawn) (C8.fnScope s_drawn) .none kV_drawn dc_drawn pm_drawn an_drawn cd_drawn ct_drawn), sl_drawn⟩)
    (c_drawn : PySem.W.codeIn K cd_drawn "_law_drawn" = true)
    (k_drawn : PySem.W.keepIn K (.ref f_drawn) = true)
    (a_box : PySem.W.nsIn K mainGlobals "_law_box" = some (some (.ref f_box)))
    (l_box : K.lookup f_box = some ⟨oc_box, od_box, .func (PySem.W.fnOf "_law_box" "_law_box" (C8.fnArgs s_box) (C8.fnBody s_box) (C8.fnScope s_box) .none kV_box dc_box pm_box an_box cd_box ct_box), sl_box⟩)
    (c_box : PySem.W.codeIn K cd_box "_law_box" = true)
    (k_box : PySem.W.keepIn K (.ref f_box) = true)
    (a_isseq : PySem.W.nsIn K mainGlobals "is_sequence" = some (some (.ref f_isseq)))
    (l_isseq : K.lookup f_isseq = some ⟨oc_isseq, od_isseq, .func (PySem.W.fnOf "is_sequence" "is_sequence" (C8.fnArgs s_isseq) (C8.fnBody s_isseq) (C8.fnScope s_isseq) .none kV_isseq dc_isseq pm_isseq an_isseq cd_isseq ct_isseq), sl_isseq⟩)
    (c_isseq : PySem.W.codeIn K cd_isseq "is_sequence" = true)
    (k_isseq : PySem.W.keepIn K (.ref f_isseq) = true)
    (a_isrow : PySem.W.nsIn K mainGlobals "is_row" = some (some (.ref f_isrow)))
    (l_isrow : K.lookup f_isrow = some ⟨oc_isrow, od_isrow, .func (PySem.W.fnOf "is_row" "is_row" (C8.fnArgs s_isrow) (C8.fnBody s_isrow) (C8.fnScope s_isrow) .none kV_isrow dc_isrow pm_isrow an_isrow cd_isrow ct_isrow), sl_isrow⟩)
    (c_isrow : PySem.W.codeIn K cd_isrow "is_row" = true)
    (k_isrow : PySem.W.keepIn K (.ref f_isrow) = true)
    (a_isletters : PySem.W.nsIn K mainGlobals "is_letters" = some (some (.ref f_isletters)))
    (l_isletters : K.lookup f_isletters = some ⟨oc_isletters, od_isletters, .func (PySem.W.fnOf "is_letters" "is_letters" (C8.fnArgs s_isletters) (C8.fnBody s_isletters) (C8.fnScope s_isletters) .none kV_isletters dc_isletters pm_isletters an_isletters cd_isletters ct_isletters), sl_isletters⟩)
    (c_isletters : PySem.W.codeIn K cd_isletters "is_letters" = true)
    (k_isletters : PySem.W.keepIn K (.ref f_isletters) = true)
    (a_issigns : PySem.W.nsIn K mainGlobals "is_signs" = some (some (.ref f_issigns)))
    (l_issigns : K.lookup f_issigns = some ⟨oc_issigns, od_issigns, .func (PySem.W.fnOf "is_signs" "is_signs" (C8.fnArgs s_issigns) (C8.fnBody s_issigns) (C8.fnScope s_issigns) .none kV_issigns dc_issigns pm_issigns an_issigns cd_issigns ct_issigns), sl_issigns⟩)
    (c_issigns : PySem.W.codeIn K cd_issigns "is_signs" = true)
    (k_issigns : PySem.W.keepIn K (.ref f_issigns) = true)
    (a_isname : PySem.W.nsIn K mainGlobals "is_name" = some (some (.ref f_isname)))
    (l_isname : K.lookup f_isname = some ⟨oc_isname, od_isname, .func (PySem.W.fnOf "is_name" "is_name" (C8.fnArgs s_isname) (C8.fnBody s_isname) (C8.fnScope s_isname) .none kV_isname dc_isname pm_isname an_isname cd_isname ct_isname), sl_isname⟩)
    (c_isname : PySem.W.codeIn K cd_isname "is_name" = true)
    (k_isname : PySem.W.keepIn K (.ref f_isname) = true)
    (a_ismarks : PySem.W.nsIn K mainGlobals "_is_marks" = some (some (.ref f_ismarks)))
    (l_ismarks : K.lookup f_ismarks = some ⟨oc_ismarks, od_ismarks, .func (PySem.W.fnOf "_is_marks" "_is_marks" (C8.fnArgs s_ismarks) (C8.fnBody s_ismarks) (C8.fnScope s_ismarks) .none kV_ismarks dc_ismarks pm_ismarks an_ismarks cd_ismarks ct_ismarks), sl_ismarks⟩)
    (c_ismarks : PySem.W.codeIn K cd_ismarks "_is_marks" = true)
    (k_ismarks : PySem.W.keepIn K (.ref f_ismarks) = true)
    (a_istargets : PySem.W.nsIn K mainGlobals "_is_targets" = some (some (.ref f_istargets)))
    (l_istargets : K.lookup f_istargets = some ⟨oc_istargets, od_istargets, .func (PySem.W.fnOf "_is_targets" "_is_targets" (C8.fnArgs s_istargets) (C8.fnBody s_istargets) (C8.fnScope s_istargets) .none kV_istargets dc_istargets pm_istargets an_istargets cd_istargets ct_istargets), sl_istargets⟩)
    (c_istargets : PySem.W.codeIn K cd_istargets "_is_targets" = true)
    (k_istargets : PySem.W.keepIn K (.ref f_istargets) = true)
    (a_issteps : PySem.W.nsIn K mainGlobals "_is_steps" = some (some (.ref f_issteps)))
    (l_issteps : K.lookup f_issteps = some ⟨oc_issteps, od_issteps, .func (PySem.W.fnOf "_is_steps" "_is_steps" (C8.fnArgs s_issteps) (C8.fnBody s_issteps) (C8.fnScope s_issteps) .none kV_issteps dc_issteps pm_issteps an_issteps cd_issteps ct_issteps), sl_issteps⟩)
    (c_issteps : PySem.W.codeIn K cd_issteps "_is_steps" = true)
    (k_issteps : PySem.W.keepIn K (.ref f_issteps) = true)
    (a_m_num : PySem.W.findIn K (.ref C_Reader) "number_of" = some (some (.ref f_m_num)))
    (i_m_num : PySem.W.isFn K (.ref f_m_num) = true)
    (l_m_num : K.lookup f_m_num = some ⟨oc_m_num, od_m_num, .func (PySem.W.fnOf "number_of" "Reader.number_of" (C8.fnArgs s_m_num) (C8.fnBody s_m_num) (C8.fnScope s_m_num) .none kV_m_num dc_m_num pm_m_num an_m_num cd_m_num ct_m_num), sl_m_num⟩)
    (c_m_num : PySem.W.codeIn K cd_m_num "Reader.number_of" = true)
    (k_m_num : PySem.W.keepIn K (.ref f_m_num) = true)
    (a_table : PySem.W.nsIn K mainGlobals "table_of" = some (some (.ref f_table)))
    (l_table : K.lookup f_table = some ⟨oc_table, od_table, .func (PySem.W.fnOf "table_of" "table_of" (C8.fnArgs s_table) (C8.fnBody s_table) (C8.fnScope s_table) .none kV_table dc_table pm_table an_table cd_table ct_table), sl_table⟩)
    (c_table : PySem.W.codeIn K cd_table "table_of" = true)
    (k_table : PySem.W.keepIn K (.ref f_table) = true)
    (a_cols : PySem.W.nsIn K mainGlobals "columns_of" = some (some (.ref f_cols)))
    (l_cols : K.lookup f_cols = some ⟨oc_cols, od_cols, .func (PySem.W.fnOf "columns_of" "columns_of" (C8.fnArgs s_cols) (C8.fnBody s_cols) (C8.fnScope s_cols) .none kV_cols dc_cols pm_cols an_cols cd_cols ct_cols), sl_cols⟩)
    (c_cols : PySem.W.codeIn K cd_cols "columns_of" = true)
    (k_cols : PySem.W.keepIn K (.ref f_cols) = true)
    (a_init : PySem.W.findIn K (.ref C_Reader) "__init__" = some (some (.ref f_init)))
    (i_init : PySem.W.isFn K (.ref f_init) = true)
    (l_init : K.lookup f_init = some ⟨oc_init, od_init, .func (PySem.W.fnOf "__init__" "Reader.__init__" (C8.fnArgs s_init) (C8.fnBody s_init) (C8.fnScope s_init) .none kV_init dc_init pm_init an_init cd_init ct_init), sl_init⟩)
    (c_init : PySem.W.codeIn K cd_init "Reader.__init__" = true)
    (k_init : PySem.W.keepIn K (.ref f_init) = true)
    (a_xir : PySem.W.findIn K (.ref C_InvalidReader) "__init__" = some (some (.ref f_xir)))
    (i_xir : PySem.W.isFn K (.ref f_xir) = true)
    (l_xir : K.lookup f_xir = some ⟨oc_xir, od_xir, .func (PySem.W.fnOf "__init__" "InvalidReader.__init__" (C8.fnArgs s_xir) (C8.fnBody s_xir) (C8.fnScope s_xir) .none kV_xir dc_xir pm_xir an_xir cd_xir ct_xir), sl_xir⟩)
    (c_xir : PySem.W.codeIn K cd_xir "InvalidReader.__init__" = true)
    (k_xir : PySem.W.keepIn K (.ref f_xir) = true)
    (a_xit : PySem.W.findIn K (.ref C_InvalidText) "__init__" = some (some (.ref f_xit)))
    (i_xit : PySem.W.isFn K (.ref f_xit) = true)
    (l_xit : K.lookup f_xit = some ⟨oc_xit, od_xit, .func (PySem.W.fnOf "__init__" "InvalidText.__init__" (C8.fnArgs s_xit) (C8.fnBody s_xit) (C8.fnScope s_xit) .none kV_xit dc_xit pm_xit an_xit cd_xit ct_xit), sl_xit⟩)
    (c_xit : PySem.W.codeIn K cd_xit "InvalidText.__init__" = true)
    (k_xit : PySem.W.keepIn K (.ref f_xit) = true)
    (a_lines : PySem.W.nsIn K mainGlobals "_lines_of_marks" = some (some (.ref f_lines)))
    (l_lines : K.lookup f_lines = some ⟨oc_lines, od_lines, .func (PySem.W.fnOf "_lines_of_marks" "_lines_of_marks" (C8.fnArgs s_lines) (C8.fnBody s_lines) (C8.fnScope s_lines) .none kV_lines dc_lines pm_lines an_lines cd_lines ct_lines), sl_lines⟩)
    (c_lines : PySem.W.codeIn K cd_lines "_lines_of_marks" = true)
    (k_lines : PySem.W.keepIn K (.ref f_lines) = true)
    (a_str : PySem.W.findIn K (.ref C_Reader) "__str__" = some (some (.ref f_str)))
    (i_str : PySem.W.isFn K (.ref f_str) = true)
    (l_str : K.lookup f_str = some ⟨oc_str, od_str, .func (PySem.W.fnOf "__str__" "Reader.__str__" (C8.fnArgs s_str) (C8.fnBody s_str) (C8.fnScope s_str) .none kV_str dc_str pm_str an_str cd_str ct_str), sl_str⟩)
    (c_str : PySem.W.codeIn K cd_str "Reader.__str__" = true)
    (k_str : PySem.W.keepIn K (.ref f_str) = true)
    (a_eq : PySem.W.findIn K (.ref C_Reader) "__eq__" = some (some (.ref f_eq)))
    (i_eq : PySem.W.isFn K (.ref f_eq) = true)
    (l_eq : K.lookup f_eq = some ⟨oc_eq, od_eq, .func (PySem.W.fnOf "__eq__" "Reader.__eq__" (C8.fnArgs s_eq) (C8.fnBody s_eq) (C8.fnScope s_eq) .none kV_eq dc_eq pm_eq an_eq cd_eq ct_eq), sl_eq⟩)
    (c_eq : PySem.W.codeIn K cd_eq "Reader.__eq__" = true)
    (k_eq : PySem.W.keepIn K (.ref f_eq) = true)
    (a_lot : PySem.W.nsIn K mainGlobals "lines_of_text" = some (some (.ref f_lot)))
    (l_lot : K.lookup f_lot = some ⟨oc_lot, od_lot, .func (PySem.W.fnOf "lines_of_text" "lines_of_text" (C8.fnArgs s_lot) (C8.fnBody s_lot) (C8.fnScope s_lot) .none kV_lot dc_lot pm_lot an_lot cd_lot ct_lot), sl_lot⟩)
    (c_lot : PySem.W.codeIn K cd_lot "lines_of_text" = true)
    (k_lot : PySem.W.keepIn K (.ref f_lot) = true)
    (a_istold : PySem.W.nsIn K mainGlobals "is_told" = some (some (.ref f_istold)))
    (l_istold : K.lookup f_istold = some ⟨oc_istold, od_istold, .func (PySem.W.fnOf "is_told" "is_told" (C8.fnArgs s_istold) (C8.fnBody s_istold) (C8.fnScope s_istold) .none kV_istold dc_istold pm_istold an_istold cd_istold ct_istold), sl_istold⟩)
    (c_istold : PySem.W.codeIn K cd_istold "is_told" = true)
    (k_istold : PySem.W.keepIn K (.ref f_istold) = true)
    (a_tol : PySem.W.nsIn K mainGlobals "_targets_of_line" = some (some (.ref f_tol)))
    (l_tol : K.lookup f_tol = some ⟨oc_tol, od_tol, .func (PySem.W.fnOf "_targets_of_line" "_targets_of_line" (C8.fnArgs s_tol) (C8.fnBody s_tol) (C8.fnScope s_tol) .none kV_tol dc_tol pm_tol an_tol cd_tol ct_tol), sl_tol⟩)
    (c_tol : PySem.W.codeIn K cd_tol "_targets_of_line" = true)
    (k_tol : PySem.W.keepIn K (.ref f_tol) = true)
    (a_rend : PySem.W.nsIn K mainGlobals "reader_end" = some (some (.ref f_rend)))
    (l_rend : K.lookup f_rend = some ⟨oc_rend, od_rend, .func (PySem.W.fnOf "reader_end" "reader_end" (C8.fnArgs s_rend) (C8.fnBody s_rend) (C8.fnScope s_rend) .none kV_rend dc_rend pm_rend an_rend cd_rend ct_rend), sl_rend⟩)
    (c_rend : PySem.W.codeIn K cd_rend "reader_end" = true)
    (k_rend : PySem.W.keepIn K (.ref f_rend) = true)
    (a_wrl : PySem.W.nsIn K mainGlobals "wrong_reader_line" = some (some (.ref f_wrl)))
    (l_wrl : K.lookup f_wrl = some ⟨oc_wrl, od_wrl, .func (PySem.W.fnOf "wrong_reader_line" "wrong_reader_line" (C8.fnArgs s_wrl) (C8.fnBody s_wrl) (C8.fnScope s_wrl) .none kV_wrl dc_wrl pm_wrl an_wrl cd_wrl ct_wrl), sl_wrl⟩)
    (c_wrl : PySem.W.codeIn K cd_wrl "wrong_reader_line" = true)
    (k_wrl : PySem.W.keepIn K (.ref f_wrl) = true)
    (a_rol : PySem.W.nsIn K mainGlobals "reader_of_lines" = some (some (.ref f_rol)))
    (l_rol : K.lookup f_rol = some ⟨oc_rol, od_rol, .func (PySem.W.fnOf "reader_of_lines" "reader_of_lines" (C8.fnArgs s_rol) (C8.fnBody s_rol) (C8.fnScope s_rol) .none kV_rol dc_rol pm_rol an_rol cd_rol ct_rol), sl_rol⟩)
    (c_rol : PySem.W.codeIn K cd_rol "reader_of_lines" = true)
    (k_rol : PySem.W.keepIn K (.ref f_rol) = true)
    (l_parse : K.lookup f_parse = some ⟨oc_parse, od_parse, .func (PySem.W.fnOf "parse" "Reader.parse" (C8.fnArgs s_parse) (C8.fnBody s_parse) (C8.fnScope s_parse) .none kV_parse dc_parse pm_parse an_parse cd_parse ct_parse), sl_parse⟩)
    (c_parse : PySem.W.codeIn K cd_parse "Reader.parse" = true)
    (a_llines : PySem.W.nsIn K mainGlobals "_law_lines" = some (some (.ref f_llines)))
    (l_llines : K.lookup f_llines = some ⟨oc_llines, od_llines, .func (PySem.W.fnOf "_law_lines" "_law_lines" (C8.fnArgs s_llines) (C8.fnBody s_llines) (C8.fnScope s_llines) .none kV_llines dc_llines pm_llines an_llines cd_llines ct_llines), sl_llines⟩)
    (c_llines : PySem.W.codeIn K cd_llines "_law_lines" = true)
    (k_llines : PySem.W.keepIn K (.ref f_llines) = true)
    (a_lwrong : PySem.W.nsIn K mainGlobals "_law_wrong" = some (some (.ref f_lwrong)))
    (l_lwrong : K.lookup f_lwrong = some ⟨oc_lwrong, od_lwrong, .func (PySem.W.fnOf "_law_wrong" "_law_wrong" (C8.fnArgs s_lwrong) (C8.fnBody s_lwrong) (C8.fnScope s_lwrong) .none kV_lwrong dc_lwrong pm_lwrong an_lwrong cd_lwrong ct_lwrong), sl_lwrong⟩)
    (c_lwrong : PySem.W.codeIn K cd_lwrong "_law_wrong" = true)
    (k_lwrong : PySem.W.keepIn K (.ref f_lwrong) = true)
    (a_lbl : PySem.W.nsIn K mainGlobals "_law_bad_lines" = some (some (.ref f_lbl)))
    (l_lbl : K.lookup f_lbl = some ⟨oc_lbl, od_lbl, .func (PySem.W.fnOf "_law_bad_lines" "_law_bad_lines" (C8.fnArgs s_lbl) (C8.fnBody s_lbl) (C8.fnScope s_lbl) .none kV_lbl dc_lbl pm_lbl an_lbl cd_lbl ct_lbl), sl_lbl⟩)
    (c_lbl : PySem.W.codeIn K cd_lbl "_law_bad_lines" = true)
    (k_lbl : PySem.W.keepIn K (.ref f_lbl) = true)
    (a_lheard : PySem.W.nsIn K mainGlobals "_law_heard" = some (some (.ref f_lheard)))
    (l_lheard : K.lookup f_lheard = some ⟨oc_lheard, od_lheard, .func (PySem.W.fnOf "_law_heard" "_law_heard" (C8.fnArgs s_lheard) (C8.fnBody s_lheard) (C8.fnScope s_lheard) .none kV_lheard dc_lheard pm_lheard an_lheard cd_lheard ct_lheard), sl_lheard⟩)
    (c_lheard : PySem.W.codeIn K cd_lheard "_law_heard" = true)
    (k_lheard : PySem.W.keepIn K (.ref f_lheard) = true)
    (a_made : PySem.W.nsIn K mainGlobals "_law_made" = some (some (.ref f_made)))
    (l_made : K.lookup f_made = some ⟨oc_made, od_made, .func (PySem.W.fnOf "_law_made" "_law_made" (C8.fnArgs s_made) (C8.fnBody s_made) (C8.fnScope s_made) .none kV_made dc_made pm_made an_made cd_made ct_made), sl_made⟩)
    (c_made : PySem.W.codeIn K cd_made "_law_made" = true)
    (k_made : PySem.W.keepIn K (.ref f_made) = true)
    (a_law : PySem.W.nsIn K mainGlobals "law" = some (some (.ref f_law)))
    (l_law : K.lookup f_law = some ⟨oc_law, od_law, .func (PySem.W.fnOf "law" "law" (C8.fnArgs s_law) (C8.fnBody s_law) (C8.fnScope s_law) .none kV_law dc_law pm_law an_law cd_law ct_law), sl_law⟩)
    (c_law : PySem.W.codeIn K cd_law "law" = true)
    (k_law : PySem.W.keepIn K (.ref f_law) = true)
    (z_int : PySem.W.nsIn K mainGlobals "int" = some none)
    (z_len : PySem.W.nsIn K mainGlobals "len" = some none)
    (z_abs : PySem.W.nsIn K mainGlobals "abs" = some none)
    (z_str : PySem.W.nsIn K mainGlobals "str" = some none)
    (z_list : PySem.W.nsIn K mainGlobals "list" = some none)
    (z_tuple : PySem.W.nsIn K mainGlobals "tuple" = some none)
    (z_dict : PySem.W.nsIn K mainGlobals "dict" = some none)
    (z_set : PySem.W.nsIn K mainGlobals "set" = some none)
    (z_isinstance : PySem.W.nsIn K mainGlobals "isinstance" = some none)
    (z_all : PySem.W.nsIn K mainGlobals "all" = some none)
    (z_zip : PySem.W.nsIn K mainGlobals "zip" = some none)
    (z_enumerate : PySem.W.nsIn K mainGlobals "enumerate" = some none)
    (z_range : PySem.W.nsIn K mainGlobals "range" = some none)
    (z_max : PySem.W.nsIn K mainGlobals "max" = some none)
    (z_min : PySem.W.nsIn K mainGlobals "min" = some none)
    (z_sorted : PySem.W.nsIn K mainGlobals "sorted" = some none)
    (z_repr : PySem.W.nsIn K mainGlobals "repr" = some none) :
    ∃ fd : FuncData, (∀ (s : Shared) (v : Value), BindsTo s fd ⟨[v], []⟩ [("script", v)]) ∧ ∀ base : Heap, K.In base → base.Ns mainGlobals mg → FnOk l.prog w K mg base C8.CX0 10 fa fd ["script"] (spLaw K) := by
  have e := hfa.symm.trans (PySem.W.mg_of X G a_law)
  cases e
  have T : BT mg := ⟨PySem.W.mg_none_of X G z_int, PySem.W.mg_none_of X G z_len, PySem.W.mg_none_of X G z_abs, PySem.W.mg_none_of X G z_str, PySem.W.mg_none_of X G z_list, PySem.W.mg_none_of X G z_tuple, PySem.W.mg_none_of X G z_dict, PySem.W.mg_none_of X G z_set, PySem.W.mg_none_of X G z_isinstance, PySem.W.mg_none_of X G z_all, PySem.W.mg_none_of X G z_zip, PySem.W.mg_none_of X G z_enumerate, PySem.W.mg_none_of X G z_range, PySem.W.mg_none_of X G z_max, PySem.W.mg_none_of X G z_min, PySem.W.mg_none_of X G z_sorted, PySem.W.mg_none_of X G z_repr⟩
  have mg_az := PySem.W.mg_of X G q_az
  have U_take : C8.Fun K "_law_take" "_law_take" s_take f_take (PySem.W.fnOf "_law_take" "_law_take" (C8.fnArgs s_take) (C8.fnBody s_take) (C8.fnScope s_take) .none kV_take dc_take pm_take an_take cd_take ct_take) := ⟨oc_take, od_take, .none, kV_take, dc_take, pm_take, an_take, cd_take, ct_take, sl_take, rfl, l_take, c_take⟩
  have F_take : C8.Def K mg "_law_take" s_take f_take _ := ⟨U_take, PySem.W.mg_of X G a_take, k_take⟩
  have b_take := U_take.binds rfl (ps := ["box", "many"]) fun _ _ _ _ _ _ us hl => match us, hl with | [_, _], _ => rfl
  have U_pick : C8.Fun K "_law_pick" "_law_pick" s_pick f_pick (PySem.W.fnOf "_law_pick" "_law_pick" (C8.fnArgs s_pick) (C8.fnBody s_pick) (C8.fnScope s_pick) .none kV_pick dc_pick pm_pick an_pick cd_pick ct_pick) := ⟨oc_pick, od_pick, .none, kV_pick, dc_pick, pm_pick, an_pick, cd_pick, ct_pick, sl_pick, rfl, l_pick, c_pick⟩
  have F_pick : C8.Def K mg "_law_pick" s_pick f_pick _ := ⟨U_pick, PySem.W.mg_of X G a_pick, k_pick⟩
  have b_pick := U_pick.binds rfl (ps := ["box", "some"]) fun _ _ _ _ _ _ us hl => match us, hl with | [_, _], _ => rfl
  have U_mixed : C8.Fun K "_law_mixed" "_law_mixed" s_mixed f_mixed (PySem.W.fnOf "_law_mixed" "_law_mixed" (C8.fnArgs s_mixed) (C8.fnBody s_mixed) (C8.fnScope s_mixed) .none kV_mixed dc_mixed pm_mixed an_mixed cd_mixed ct_mixed) := ⟨oc_mixed, od_mixed, .none, kV_mixed, dc_mixed, pm_mixed, an_mixed, cd_mixed, ct_mixed, sl_mixed, rfl, l_mixed, c_mixed⟩
  have F_mixed : C8.Def K mg "_law_mixed" s_mixed f_mixed _ := ⟨U_mixed, PySem.W.mg_of X G a_mixed, k_mixed⟩
  have b_mixed := U_mixed.binds rfl (ps := ["box", "some"]) fun _ _ _ _ _ _ us hl => match us, hl with | [_, _], _ => rfl
  have U_signs : C8.Fun K "_law_signs" "_law_signs" s_signs f_signs (PySem.W.fnOf "_law_signs" "_law_signs" (C8.fnArgs s_signs) (C8.fnBody s_signs) (C8.fnScope s_signs) .none kV_signs dc_signs pm_signs an_signs cd_signs ct_signs) := ⟨oc_signs, od_signs, .none, kV_signs, dc_signs, pm_signs, an_signs, cd_signs, ct_signs, sl_signs, rfl, l_signs, c_signs⟩
  have F_signs : C8.Def K mg "_law_signs" s_signs f_signs _ := ⟨U_signs, PySem.W.mg_of X G a_signs, k_signs⟩
  have b_signs := U_signs.binds rfl (ps := ["box"]) fun _ _ _ _ _ _ us hl => match us, hl with | [_], _ => rfl
  have U_drawn : C8.Fun K "_law_drawn" "_law_drawn" s_drawn f_drawn (PySem.W.fnOf "_law_drawn" "_law_drawn" (C8.fnArgs s_drawn) (C8.fnBody s_drawn) (C8.fnScope s_drawn) .none kV_drawn dc_drawn pm_drawn an_drawn cd_drawn ct_drawn) := ⟨oc_drawn, od_drawn, .none, kV_drawn, dc_drawn, pm_drawn, an_drawn, cd_drawn, ct_drawn, sl_drawn, rfl, l_drawn, c_drawn⟩
  have F_drawn : C8.Def K mg "_law_drawn" s_drawn f_drawn _ := ⟨U_drawn, PySem.W.mg_of X G a_drawn, k_drawn⟩
  have b_drawn := U_drawn.binds rfl (ps := ["box", "signs", "most"]) fun _ _ _ _ _ _ us hl => match us, hl with | [_, _, _], _ => rfl
  have U_box : C8.Fun K "_law_box" "_law_box" s_box f_box (PySem.W.fnOf "_law_box" "_law_box" (C8.fnArgs s_box) (C8.fnBody s_box) (C8.fnScope s_box) .none kV_box dc_box pm_box an_box cd_box ct_box) := ⟨oc_box, od_box, .none, kV_box, dc_box, pm_box, an_box, cd_box, ct_box, sl_box, rfl, l_box, c_box⟩
  have F_box : C8.Def K mg "_law_box" s_box f_box _ := ⟨U_box, PySem.W.mg_of X G a_box, k_box⟩
  have b_box := U_box.binds rfl (ps := ["script", "base"]) fun _ _ _ _ _ _ us hl => match us, hl with | [_, _], _ => rfl
  have U_isseq : C8.Fun K "is_sequence" "is_sequence" s_isseq f_isseq (PySem.W.fnOf "is_sequence" "is_sequence" (C8.fnArgs s_isseq) (C8.fnBody s_isseq) (C8.fnScope s_isseq) .none kV_isseq dc_isseq pm_isseq an_isseq cd_isseq ct_isseq) := ⟨oc_isseq, od_isseq, .none, kV_isseq, dc_isseq, pm_isseq, an_isseq, cd_isseq, ct_isseq, sl_isseq, rfl, l_isseq, c_isseq⟩
  have F_isseq : C8.Def K mg "is_sequence" s_isseq f_isseq _ := ⟨U_isseq, PySem.W.mg_of X G a_isseq, k_isseq⟩
  have b_isseq := U_isseq.binds rfl (ps := ["value"]) fun _ _ _ _ _ _ us hl => match us, hl with | [_], _ => rfl
  have U_isrow : C8.Fun K "is_row" "is_row" s_isrow f_isrow (PySem.W.fnOf "is_row" "is_row" (C8.fnArgs s_isrow) (C8.fnBody s_isrow) (C8.fnScope s_isrow) .none kV_isrow dc_isrow pm_isrow an_isrow cd_isrow ct_isrow) := ⟨oc_isrow, od_isrow, .none, kV_isrow, dc_isrow, pm_isrow, an_isrow, cd_isrow, ct_isrow, sl_isrow, rfl, l_isrow, c_isrow⟩
  have F_isrow : C8.Def K mg "is_row" s_isrow f_isrow _ := ⟨U_isrow, PySem.W.mg_of X G a_isrow, k_isrow⟩
  have b_isrow := U_isrow.binds rfl (ps := ["value", "signs"]) fun _ _ _ _ _ _ us hl => match us, hl with | [_, _], _ => rfl
  have U_isletters : C8.Fun K "is_letters" "is_letters" s_isletters f_isletters (PySem.W.fnOf "is_letters" "is_letters" (C8.fnArgs s_isletters) (C8.fnBody s_isletters) (C8.fnScope s_isletters) .none kV_isletters dc_isletters pm_isletters an_isletters cd_isletters ct_isletters) := ⟨oc_isletters, od_isletters, .none, kV_isletters, dc_isletters, pm_isletters, an_isletters, cd_isletters, ct_isletters, sl_isletters, rfl, l_isletters, c_isletters⟩
  have F_isletters : C8.Def K mg "is_letters" s_isletters f_isletters _ := ⟨U_isletters, PySem.W.mg_of X G a_isletters, k_isletters⟩
  have b_isletters := U_isletters.binds rfl (ps := ["value"]) fun _ _ _ _ _ _ us hl => match us, hl with | [_], _ => rfl
  have U_issigns : C8.Fun K "is_signs" "is_signs" s_issigns f_issigns (PySem.W.fnOf "is_signs" "is_signs" (C8.fnArgs s_issigns) (C8.fnBody s_issigns) (C8.fnScope s_issigns) .none kV_issigns dc_issigns pm_issigns an_issigns cd_issigns ct_issigns) := ⟨oc_issigns, od_issigns, .none, kV_issigns, dc_issigns, pm_issigns, an_issigns, cd_issigns, ct_issigns, sl_issigns, rfl, l_issigns, c_issigns⟩
  have F_issigns : C8.Def K mg "is_signs" s_issigns f_issigns _ := ⟨U_issigns, PySem.W.mg_of X G a_issigns, k_issigns⟩
  have b_issigns := U_issigns.binds rfl (ps := ["value"]) fun _ _ _ _ _ _ us hl => match us, hl with | [_], _ => rfl
  have U_isname : C8.Fun K "is_name" "is_name" s_isname f_isname (PySem.W.fnOf "is_name" "is_name" (C8.fnArgs s_isname) (C8.fnBody s_isname) (C8.fnScope s_isname) .none kV_isname dc_isname pm_isname an_isname cd_isname ct_isname) := ⟨oc_isname, od_isname, .none, kV_isname, dc_isname, pm_isname, an_isname, cd_isname, ct_isname, sl_isname, rfl, l_isname, c_isname⟩
  have F_isname : C8.Def K mg "is_name" s_isname f_isname _ := ⟨U_isname, PySem.W.mg_of X G a_isname, k_isname⟩
  have b_isname := U_isname.binds rfl (ps := ["value"]) fun _ _ _ _ _ _ us hl => match us, hl with | [_], _ => rfl
  have U_ismarks : C8.Fun K "_is_marks" "_is_marks" s_ismarks f_ismarks (PySem.W.fnOf "_is_marks" "_is_marks" (C8.fnArgs s_ismarks) (C8.fnBody s_ismarks) (C8.fnScope s_ismarks) .none kV_ismarks dc_ismarks pm_ismarks an_ismarks cd_ismarks ct_ismarks) := ⟨oc_ismarks, od_ismarks, .none, kV_ismarks, dc_ismarks, pm_ismarks, an_ismarks, cd_ismarks, ct_ismarks, sl_ismarks, rfl, l_ismarks, c_ismarks⟩
  have F_ismarks : C8.Def K mg "_is_marks" s_ismarks f_ismarks _ := ⟨U_ismarks, PySem.W.mg_of X G a_ismarks, k_ismarks⟩
  have b_ismarks := U_ismarks.binds rfl (ps := ["value"]) fun _ _ _ _ _ _ us hl => match us, hl with | [_], _ => rfl
  have U_istargets : C8.Fun K "_is_targets" "_is_targets" s_istargets f_istargets (PySem.W.fnOf "_is_targets" "_is_targets" (C8.fnArgs s_istargets) (C8.fnBody s_istargets) (C8.fnScope s_istargets) .none kV_istargets dc_istargets pm_istargets an_istargets cd_istargets ct_istargets) := ⟨oc_istargets, od_istargets, .none, kV_istargets, dc_istargets, pm_istargets, an_istargets, cd_istargets, ct_istargets, sl_istargets, rfl, l_istargets, c_istargets⟩
  have F_istargets : C8.Def K mg "_is_targets" s_istargets f_istargets _ := ⟨U_istargets, PySem.W.mg_of X G a_istargets, k_istargets⟩
  have b_istargets := U_istargets.binds rfl (ps := ["value", "signs", "marks"]) fun _ _ _ _ _ _ us hl => match us, hl with | [_, _, _], _ => rfl
  have U_issteps : C8.Fun K "_is_steps" "_is_steps" s_issteps f_issteps (PySem.W.fnOf "_is_steps" "_is_steps" (C8.fnArgs s_issteps) (C8.fnBody s_issteps) (C8.fnScope s_issteps) .none kV_issteps dc_issteps pm_issteps an_issteps cd_issteps ct_issteps) := ⟨oc_issteps, od_issteps, .none, kV_issteps, dc_issteps, pm_issteps, an_issteps, cd_issteps, ct_issteps, sl_issteps, rfl, l_issteps, c_issteps⟩
  have F_issteps : C8.Def K mg "_is_steps" s_issteps f_issteps _ := ⟨U_issteps, PySem.W.mg_of X G a_issteps, k_issteps⟩
  have b_issteps := U_issteps.binds rfl (ps := ["value", "signs", "marks"]) fun _ _ _ _ _ _ us hl => match us, hl with | [_, _, _], _ => rfl
  have U_m_num : C8.Fun K "number_of" "Reader.number_of" s_m_num f_m_num (PySem.W.fnOf "number_of" "Reader.number_of" (C8.fnArgs s_m_num) (C8.fnBody s_m_num) (C8.fnScope s_m_num) .none kV_m_num dc_m_num pm_m_num an_m_num cd_m_num ct_m_num) := ⟨oc_m_num, od_m_num, .none, kV_m_num, dc_m_num, pm_m_num, an_m_num, cd_m_num, ct_m_num, sl_m_num, rfl, l_m_num, c_m_num⟩
  have me_m_num : Meth K C_Reader "number_of" f_m_num := ⟨a_m_num, i_m_num, k_m_num⟩
  have b_m_num := U_m_num.binds rfl (ps := ["self", "mark"]) fun _ _ _ _ _ _ us hl => match us, hl with | [_, _], _ => rfl
  have U_table : C8.Fun K "table_of" "table_of" s_table f_table (PySem.W.fnOf "table_of" "table_of" (C8.fnArgs s_table) (C8.fnBody s_table) (C8.fnScope s_table) .none kV_table dc_table pm_table an_table cd_table ct_table) := ⟨oc_table, od_table, .none, kV_table, dc_table, pm_table, an_table, cd_table, ct_table, sl_table, rfl, l_table, c_table⟩
  have F_table : C8.Def K mg "table_of" s_table f_table _ := ⟨U_table, PySem.W.mg_of X G a_table, k_table⟩
  have b_table := U_table.binds rfl (ps := ["reader"]) fun _ _ _ _ _ _ us hl => match us, hl with | [_], _ => rfl
  have U_cols : C8.Fun K "columns_of" "columns_of" s_cols f_cols (PySem.W.fnOf "columns_of" "columns_of" (C8.fnArgs s_cols) (C8.fnBody s_cols) (C8.fnScope s_cols) .none kV_cols dc_cols pm_cols an_cols cd_cols ct_cols) := ⟨oc_cols, od_cols, .none, kV_cols, dc_cols, pm_cols, an_cols, cd_cols, ct_cols, sl_cols, rfl, l_cols, c_cols⟩
  have F_cols : C8.Def K mg "columns_of" s_cols f_cols _ := ⟨U_cols, PySem.W.mg_of X G a_cols, k_cols⟩
  have b_cols := U_cols.binds rfl (ps := ["signs", "table"]) fun _ _ _ _ _ _ us hl => match us, hl with | [_, _], _ => rfl
  have U_init : C8.Fun K "__init__" "Reader.__init__" s_init f_init (PySem.W.fnOf "__init__" "Reader.__init__" (C8.fnArgs s_init) (C8.fnBody s_init) (C8.fnScope s_init) .none kV_init dc_init pm_init an_init cd_init ct_init) := ⟨oc_init, od_init, .none, kV_init, dc_init, pm_init, an_init, cd_init, ct_init, sl_init, rfl, l_init, c_init⟩
  have me_init : Meth K C_Reader "__init__" f_init := ⟨a_init, i_init, k_init⟩
  have b_init := U_init.binds rfl (ps := ["self", "signs", "marks", "first", "steps"]) fun _ _ _ _ _ _ us hl => match us, hl with | [_, _, _, _, _], _ => rfl
  have U_xir : C8.Fun K "__init__" "InvalidReader.__init__" s_xir f_xir (PySem.W.fnOf "__init__" "InvalidReader.__init__" (C8.fnArgs s_xir) (C8.fnBody s_xir) (C8.fnScope s_xir) .none kV_xir dc_xir pm_xir an_xir cd_xir ct_xir) := ⟨oc_xir, od_xir, .none, kV_xir, dc_xir, pm_xir, an_xir, cd_xir, ct_xir, sl_xir, rfl, l_xir, c_xir⟩
  have me_xir : Meth K C_InvalidReader "__init__" f_xir := ⟨a_xir, i_xir, k_xir⟩
  have b_xir := U_xir.binds rfl (ps := ["self", "word"]) fun _ _ _ _ _ _ us hl => match us, hl with | [_, _], _ => rfl
  have U_xit : C8.Fun K "__init__" "InvalidText.__init__" s_xit f_xit (PySem.W.fnOf "__init__" "InvalidText.__init__" (C8.fnArgs s_xit) (C8.fnBody s_xit) (C8.fnScope s_xit) .none kV_xit dc_xit pm_xit an_xit cd_xit ct_xit) := ⟨oc_xit, od_xit, .none, kV_xit, dc_xit, pm_xit, an_xit, cd_xit, ct_xit, sl_xit, rfl, l_xit, c_xit⟩
  have me_xit : Meth K C_InvalidText "__init__" f_xit := ⟨a_xit, i_xit, k_xit⟩
  have b_xit := U_xit.binds rfl (ps := ["self", "at"]) fun _ _ _ _ _ _ us hl => match us, hl with | [_, _], _ => rfl
  have U_lines : C8.Fun K "_lines_of_marks" "_lines_of_marks" s_lines f_lines (PySem.W.fnOf "_lines_of_marks" "_lines_of_marks" (C8.fnArgs s_lines) (C8.fnBody s_lines) (C8.fnScope s_lines) .none kV_lines dc_lines pm_lines an_lines cd_lines ct_lines) := ⟨oc_lines, od_lines, .none, kV_lines, dc_lines, pm_lines, an_lines, cd_lines, ct_lines, sl_lines, rfl, l_lines, c_lines⟩
  have F_lines : C8.Def K mg "_lines_of_marks" s_lines f_lines _ := ⟨U_lines, PySem.W.mg_of X G a_lines, k_lines⟩
  have b_lines := U_lines.binds rfl (ps := ["reader"]) fun _ _ _ _ _ _ us hl => match us, hl with | [_], _ => rfl
  have U_str : C8.Fun K "__str__" "Reader.__str__" s_str f_str (PySem.W.fnOf "__str__" "Reader.__str__" (C8.fnArgs s_str) (C8.fnBody s_str) (C8.fnScope s_str) .none kV_str dc_str pm_str an_str cd_str ct_str) := ⟨oc_str, od_str, .none, kV_str, dc_str, pm_str, an_str, cd_str, ct_str, sl_str, rfl, l_str, c_str⟩
  have me_str : Meth K C_Reader "__str__" f_str := ⟨a_str, i_str, k_str⟩
  have b_str := U_str.binds rfl (ps := ["self"]) fun _ _ _ _ _ _ us hl => match us, hl with | [_], _ => rfl
  have U_eq : C8.Fun K "__eq__" "Reader.__eq__" s_eq f_eq (PySem.W.fnOf "__eq__" "Reader.__eq__" (C8.fnArgs s_eq) (C8.fnBody s_eq) (C8.fnScope s_eq) .none kV_eq dc_eq pm_eq an_eq cd_eq ct_eq) := ⟨oc_eq, od_eq, .none, kV_eq, dc_eq, pm_eq, an_eq, cd_eq, ct_eq, sl_eq, rfl, l_eq, c_eq⟩
  have me_eq : Meth K C_Reader "__eq__" f_eq := ⟨a_eq, i_eq, k_eq⟩
  have b_eq := U_eq.binds rfl (ps := ["self", "other"]) fun _ _ _ _ _ _ us hl => match us, hl with | [_, _], _ => rfl
  have U_lot : C8.Fun K "lines_of_text" "lines_of_text" s_lot f_lot (PySem.W.fnOf "lines_of_text" "lines_of_text" (C8.fnArgs s_lot) (C8.fnBody s_lot) (C8.fnScope s_lot) .none kV_lot dc_lot pm_lot an_lot cd_lot ct_lot) := ⟨oc_lot, od_lot, .none, kV_lot, dc_lot, pm_lot, an_lot, cd_lot, ct_lot, sl_lot, rfl, l_lot, c_lot⟩
  have F_lot : C8.Def K mg "lines_of_text" s_lot f_lot _ := ⟨U_lot, PySem.W.mg_of X G a_lot, k_lot⟩
  have b_lot := U_lot.binds rfl (ps := ["text"]) fun _ _ _ _ _ _ us hl => match us, hl with | [_], _ => rfl
  have U_istold : C8.Fun K "is_told" "is_told" s_istold f_istold (PySem.W.fnOf "is_told" "is_told" (C8.fnArgs s_istold) (C8.fnBody s_istold) (C8.fnScope s_istold) .none kV_istold dc_istold pm_istold an_istold cd_istold ct_istold) := ⟨oc_istold, od_istold, .none, kV_istold, dc_istold, pm_istold, an_istold, cd_istold, ct_istold, sl_istold, rfl, l_istold, c_istold⟩
  have F_istold : C8.Def K mg "is_told" s_istold f_istold _ := ⟨U_istold, PySem.W.mg_of X G a_istold, k_istold⟩
  have b_istold := U_istold.binds rfl (ps := ["line", "word"]) fun _ _ _ _ _ _ us hl => match us, hl with | [_, _], _ => rfl
  have U_tol : C8.Fun K "_targets_of_line" "_targets_of_line" s_tol f_tol (PySem.W.fnOf "_targets_of_line" "_targets_of_line" (C8.fnArgs s_tol) (C8.fnBody s_tol) (C8.fnScope s_tol) .none kV_tol dc_tol pm_tol an_tol cd_tol ct_tol) := ⟨oc_tol, od_tol, .none, kV_tol, dc_tol, pm_tol, an_tol, cd_tol, ct_tol, sl_tol, rfl, l_tol, c_tol⟩
  have F_tol : C8.Def K mg "_targets_of_line" s_tol f_tol _ := ⟨U_tol, PySem.W.mg_of X G a_tol, k_tol⟩
  have b_tol := U_tol.binds rfl (ps := ["line"]) fun _ _ _ _ _ _ us hl => match us, hl with | [_], _ => rfl
  have U_rend : C8.Fun K "reader_end" "reader_end" s_rend f_rend (PySem.W.fnOf "reader_end" "reader_end" (C8.fnArgs s_rend) (C8.fnBody s_rend) (C8.fnScope s_rend) .none kV_rend dc_rend pm_rend an_rend cd_rend ct_rend) := ⟨oc_rend, od_rend, .none, kV_rend, dc_rend, pm_rend, an_rend, cd_rend, ct_rend, sl_rend, rfl, l_rend, c_rend⟩
  have F_rend : C8.Def K mg "reader_end" s_rend f_rend _ := ⟨U_rend, PySem.W.mg_of X G a_rend, k_rend⟩
  have b_rend := U_rend.binds rfl (ps := ["lines"]) fun _ _ _ _ _ _ us hl => match us, hl with | [_], _ => rfl
  have U_wrl : C8.Fun K "wrong_reader_line" "wrong_reader_line" s_wrl f_wrl (PySem.W.fnOf "wrong_reader_line" "wrong_reader_line" (C8.fnArgs s_wrl) (C8.fnBody s_wrl) (C8.fnScope s_wrl) .none kV_wrl dc_wrl pm_wrl an_wrl cd_wrl ct_wrl) := ⟨oc_wrl, od_wrl, .none, kV_wrl, dc_wrl, pm_wrl, an_wrl, cd_wrl, ct_wrl, sl_wrl, rfl, l_wrl, c_wrl⟩
  have F_wrl : C8.Def K mg "wrong_reader_line" s_wrl f_wrl _ := ⟨U_wrl, PySem.W.mg_of X G a_wrl, k_wrl⟩
  have b_wrl := U_wrl.binds rfl (ps := ["lines"]) fun _ _ _ _ _ _ us hl => match us, hl with | [_], _ => rfl
  have U_rol : C8.Fun K "reader_of_lines" "reader_of_lines" s_rol f_rol (PySem.W.fnOf "reader_of_lines" "reader_of_lines" (C8.fnArgs s_rol) (C8.fnBody s_rol) (C8.fnScope s_rol) .none kV_rol dc_rol pm_rol an_rol cd_rol ct_rol) := ⟨oc_rol, od_rol, .none, kV_rol, dc_rol, pm_rol, an_rol, cd_rol, ct_rol, sl_rol, rfl, l_rol, c_rol⟩
  have F_rol : C8.Def K mg "reader_of_lines" s_rol f_rol _ := ⟨U_rol, PySem.W.mg_of X G a_rol, k_rol⟩
  have b_rol := U_rol.binds rfl (ps := ["lines"]) fun _ _ _ _ _ _ us hl => match us, hl with | [_], _ => rfl
  have U_parse : C8.Fun K "parse" "Reader.parse" s_parse f_parse (PySem.W.fnOf "parse" "Reader.parse" (C8.fnArgs s_parse) (C8.fnBody s_parse) (C8.fnScope s_parse) .none kV_parse dc_parse pm_parse an_parse cd_parse ct_parse) := ⟨oc_parse, od_parse, .none, kV_parse, dc_parse, pm_parse, an_parse, cd_parse, ct_parse, sl_parse, rfl, l_parse, c_parse⟩
  have b_parse := U_parse.binds rfl (ps := ["cls", "text"]) fun _ _ _ _ _ _ us hl => match us, hl with | [_, _], _ => rfl
  have U_llines : C8.Fun K "_law_lines" "_law_lines" s_llines f_llines (PySem.W.fnOf "_law_lines" "_law_lines" (C8.fnArgs s_llines) (C8.fnBody s_llines) (C8.fnScope s_llines) .none kV_llines dc_llines pm_llines an_llines cd_llines ct_llines) := ⟨oc_llines, od_llines, .none, kV_llines, dc_llines, pm_llines, an_llines, cd_llines, ct_llines, sl_llines, rfl, l_llines, c_llines⟩
  have F_llines : C8.Def K mg "_law_lines" s_llines f_llines _ := ⟨U_llines, PySem.W.mg_of X G a_llines, k_llines⟩
  have b_llines := U_llines.binds rfl (ps := ["told"]) fun _ _ _ _ _ _ us hl => match us, hl with | [_], _ => rfl
  have U_lwrong : C8.Fun K "_law_wrong" "_law_wrong" s_lwrong f_lwrong (PySem.W.fnOf "_law_wrong" "_law_wrong" (C8.fnArgs s_lwrong) (C8.fnBody s_lwrong) (C8.fnScope s_lwrong) .none kV_lwrong dc_lwrong pm_lwrong an_lwrong cd_lwrong ct_lwrong) := ⟨oc_lwrong, od_lwrong, .none, kV_lwrong, dc_lwrong, pm_lwrong, an_lwrong, cd_lwrong, ct_lwrong, sl_lwrong, rfl, l_lwrong, c_lwrong⟩
  have F_lwrong : C8.Def K mg "_law_wrong" s_lwrong f_lwrong _ := ⟨U_lwrong, PySem.W.mg_of X G a_lwrong, k_lwrong⟩
  have b_lwrong := U_lwrong.binds rfl (ps := ["told", "front"]) fun _ _ _ _ _ _ us hl => match us, hl with | [_, _], _ => rfl
  have U_lbl : C8.Fun K "_law_bad_lines" "_law_bad_lines" s_lbl f_lbl (PySem.W.fnOf "_law_bad_lines" "_law_bad_lines" (C8.fnArgs s_lbl) (C8.fnBody s_lbl) (C8.fnScope s_lbl) .none kV_lbl dc_lbl pm_lbl an_lbl cd_lbl ct_lbl) := ⟨oc_lbl, od_lbl, .none, kV_lbl, dc_lbl, pm_lbl, an_lbl, cd_lbl, ct_lbl, sl_lbl, rfl, l_lbl, c_lbl⟩
  have F_lbl : C8.Def K mg "_law_bad_lines" s_lbl f_lbl _ := ⟨U_lbl, PySem.W.mg_of X G a_lbl, k_lbl⟩
  have b_lbl := U_lbl.binds rfl (ps := []) fun _ _ _ _ _ _ us hl => match us, hl with | [], _ => rfl
  have U_lheard : C8.Fun K "_law_heard" "_law_heard" s_lheard f_lheard (PySem.W.fnOf "_law_heard" "_law_heard" (C8.fnArgs s_lheard) (C8.fnBody s_lheard) (C8.fnScope s_lheard) .none kV_lheard dc_lheard pm_lheard an_lheard cd_lheard ct_lheard) := ⟨oc_lheard, od_lheard, .none, kV_lheard, dc_lheard, pm_lheard, an_lheard, cd_lheard, ct_lheard, sl_lheard, rfl, l_lheard, c_lheard⟩
  have F_lheard : C8.Def K mg "_law_heard" s_lheard f_lheard _ := ⟨U_lheard, PySem.W.mg_of X G a_lheard, k_lheard⟩
  have b_lheard := U_lheard.binds rfl (ps := ["text"]) fun _ _ _ _ _ _ us hl => match us, hl with | [_], _ => rfl
  have U_made : C8.Fun K "_law_made" "_law_made" s_made f_made (PySem.W.fnOf "_law_made" "_law_made" (C8.fnArgs s_made) (C8.fnBody s_made) (C8.fnScope s_made) .none kV_made dc_made pm_made an_made cd_made ct_made) := ⟨oc_made, od_made, .none, kV_made, dc_made, pm_made, an_made, cd_made, ct_made, sl_made, rfl, l_made, c_made⟩
  have F_made : C8.Def K mg "_law_made" s_made f_made _ := ⟨U_made, PySem.W.mg_of X G a_made, k_made⟩
  have b_made := U_made.binds rfl (ps := ["told"]) fun _ _ _ _ _ _ us hl => match us, hl with | [_], _ => rfl
  have U_law : C8.Fun K "law" "law" s_law fa (PySem.W.fnOf "law" "law" (C8.fnArgs s_law) (C8.fnBody s_law) (C8.fnScope s_law) .none kV_law dc_law pm_law an_law cd_law ct_law) := ⟨oc_law, od_law, .none, kV_law, dc_law, pm_law, an_law, cd_law, ct_law, sl_law, rfl, l_law, c_law⟩
  have F_law : C8.Def K mg "law" s_law fa _ := ⟨U_law, PySem.W.mg_of X G a_law, k_law⟩
  have b_law := U_law.binds rfl (ps := ["script"]) fun _ _ _ _ _ _ us hl => match us, hl with | [_], _ => rfl
  have Cl_Reader : Cls K C_Reader := ⟨pg_Reader, hd_Reader, po_Reader, sa_Reader⟩
  have mg_Reader := PySem.W.mg_of X G g_Reader
  have M_Reader : Mk K C_Reader f_init := ⟨mk_Reader, a_init, i_init, kc_Reader⟩
  have I_Reader : C8.InsC K C_Reader := ⟨Cl_Reader, ha_Reader, hn_Reader, tk_Reader, hm_Reader, if_pos (beq_self_eq_true _)⟩
  have N_Reader : NeC K C_Reader := ⟨ne_Reader, hm_Reader, sf_Reader⟩
  refine ⟨PySem.W.fnOf "law" "law" (C8.fnArgs s_law) (C8.fnBody s_law) (C8.fnScope s_law) .none kV_law dc_law pm_law an_law cd_law ct_law, fun s v => .of_eq rfl, fun base _ _ => ?_⟩
  have CH : CR K C_Reader := ⟨Cl_Reader, n_Reader_signs, n_Reader_marks, n_Reader_first, n_Reader_steps, n_Reader__numbers, n_Reader__leads, n_Reader__columns⟩
  have c_take := ok_take (P := l.prog) (w := w) (base := base) T F_take b_take
  have c_pick := ok_pick T c_take F_pick b_pick
  have c_mixed := ok_mixed T c_take F_mixed b_mixed
  have c_signs := ok_signs T c_pick c_mixed F_signs b_signs
  have c_drawn := ok_drawn T c_take c_pick c_mixed F_drawn b_drawn
  have c_box := ok_box (P := l.prog) (w := w) (base := base) T F_box b_box
  have g_isseq := ok_isseq (P := l.prog) (w := w) (base := base) T F_isseq b_isseq
  have g_isrow := ok_isrow (P := l.prog) (w := w) (base := base) T F_isrow b_isrow
  have g_isletters := ok_isletters T mg_az g_isrow F_isletters b_isletters
  have g_issigns := ok_issigns T g_isletters F_issigns b_issigns
  have hNN : ∀ H, SqT K H N_nn (txs no10) := no_names tl_nn
  have g_isname := ok_isname T (PySem.W.mg_of X G tg_nn) hNN g_isletters F_isname b_isname
  have g_ismarks := ok_ismarks T g_isseq g_isname F_ismarks b_ismarks
  have g_istargets := ok_istargets T g_isseq F_istargets b_istargets
  have g_issteps := ok_issteps T g_isseq g_istargets F_issteps b_issteps
  have c_m_num := ok_mnum (P := l.prog) (w := w) (base := base) T CH me_m_num U_m_num b_m_num
  have c_table := ok_table T CH c_m_num F_table b_table
  have c_cols := ok_cols (P := l.prog) (w := w) (base := base) T F_cols b_cols
  have c_isseqD := ok_isseqD (P := l.prog) (w := w) (base := base) T F_isseq b_isseq
  have c_isrowD := ok_isrowD (P := l.prog) (w := w) (base := base) T F_isrow b_isrow
  have c_islettersD := ok_islettersD T mg_az c_isrowD F_isletters b_isletters
  have c_issignsD := ok_issignsD T c_islettersD F_issigns b_issigns
  have c_isnameD := ok_isnameD T (PySem.W.mg_of X G tg_nn) hNN c_islettersD F_isname b_isname
  have c_marksA := ok_marksA T g_isseq g_isname c_isseqD c_isnameD F_ismarks b_ismarks
  have c_istargetsD := ok_istargetsD T c_isseqD F_istargets b_istargets
  have c_isstepsD := ok_isstepsD T c_isseqD c_istargetsD F_issteps b_issteps
  have x_IR : XQ K mg "InvalidReader" C_InvalidReader := ⟨xc_InvalidReader, PySem.W.mg_of X G xg_InvalidReader⟩
  have x_IT : XQ K mg "InvalidText" C_InvalidText := ⟨xc_InvalidText, PySem.W.mg_of X G xg_InvalidText⟩
  have x_RE : XG mg "RowError" C_RowError := ⟨PySem.W.mg_of X G xg_RowError⟩
  have c_IR := ok_xir (P := l.prog) (w := w) (base := base) x_IR xf_InvalidReader a_xir (beq_iff_eq.mp i_xir) U_xir b_xir
  have c_IT := ok_xit (P := l.prog) (w := w) (base := base) x_IT xf_InvalidText a_xit (beq_iff_eq.mp i_xit) U_xit b_xit
  have c_Reader := ok_makeX T CH g_issigns g_ismarks g_issteps c_table c_cols c_IR c_issignsD c_marksA c_isstepsD M_Reader mg_Reader U_init b_init
  have c_lines := ok_lines (P := l.prog) (w := w) (base := base) T CH F_lines b_lines
  have c_str := ok_str T CH c_lines me_str U_str b_str
  have c_eq := ok_eq (P := l.prog) (w := w) (base := base) T CH I_Reader mg_Reader me_eq U_eq b_eq
  have c_lot := ok_lot T c_IT F_lot b_lot
  have c_istold := ok_told (P := l.prog) (w := w) (base := base) T F_istold b_istold
  have c_tol := ok_tol T g_isname F_tol b_tol
  have c_rend := ok_rend T c_istold c_tol F_rend b_rend
  have c_wrl := ok_wrl T c_rend F_wrl b_wrl
  have c_rol := ok_rol T c_tol c_Reader F_rol b_rol
  have c_parse : CMX l.prog w K mg base 8 C_Reader "parse" (spParse K C_Reader C_InvalidText C_InvalidReader) := ⟨⟨p_parse, f_parse, _, _, _, ⟨cr_rd, cr_ga⟩, ⟨cm_at, ⟨_, cm_rc⟩, cm_fi⟩, ok_parse T c_IT c_lot c_wrl c_rol U_parse, b_parse⟩⟩
  have c_made := ok_made T CH mg_Reader c_Reader F_made b_made
  have c_llines := ok_llines (P := l.prog) (w := w) (base := base) T F_llines b_llines
  have c_lwrong := ok_lwrong (P := l.prog) (w := w) (base := base) T F_lwrong b_lwrong
  have c_lbl := ok_lbl (P := l.prog) (w := w) (base := base) T F_lbl b_lbl
  have c_lheard := ok_lheard T mg_Reader c_parse x_IT xf_InvalidText x_IR xf_InvalidReader x_RE xs_TT xs_IT xs_II xk_TR xk_TI F_lheard b_lheard
  exact ok_law T CH I_Reader N_Reader xk_rs mg_Reader c_box c_take c_mixed c_signs c_drawn c_made c_llines c_lbl c_lwrong c_lheard c_str c_eq c_parse F_law
theorem walk {l : PySem.W.OpenLaw} {q : Program} {loose : List Str} {XP : (Str → Option Value) → Heap → Prop} {YP : World → Heap → Prop} {d : DefRec} {K : Params → PySem.W.Frag} (hn : l.most = some 63) (hdf : d.params.defaults = [])
    (hY : ∀ (w : World) (h : Heap), YP w h → (K w.params).In h)
    (F : ∀ (w : World) (mg : Str → Option Value) (fa : Addr) (h : Heap), (K w.params).In h → h.Ns mainGlobals mg → mg d.name = some (.ref fa) →
      ∃ fd : FuncData, (∀ (s : Shared) (u : Value), BindsTo s fd ⟨[u], []⟩ [("script", u)]) ∧ ∀ base : Heap, (K w.params).In base → base.Ns mainGlobals mg → FnOk l.prog w (K w.params) mg base C8.CX0 10 fa fd ["script"] (spLaw (K w.params))) :
    PySem.W.WalkO q loose XP YP l.row.toRowW d [] (fun f vs => PySem.call f vs) :=
  L2.walk_of (n := 63) (k := 10) (x := "script") (CX := fun _ => C8.CX0) (sp := fun w => spLaw (K w.params)) hn (by decide) hdf ⟨rfl, by decide, by decide⟩ hY F (fun _ _ a ns hl _ hS => ⟨a, ns, rfl, hS, hl, fun _ => rfl⟩) fun _ _ _ _ _ z => z
end Toy
open PySem PySem.W PyProof.Rows in
set_option maxRecDepth 100000 in
set_option maxHeartbeats 0 in
theorem PySem.Challenge.cw_allrows_k13_texts_of_readers_holds : PySem.Challenge.rw_allrows_k13_texts_of_readers.Holds := by
  w_on; o_law; k_head; (case hw => w_witness2)
  k_fill
  refine Toy.walk (l := PySem.Challenge.rw_allrows_k13_texts_of_readers) rfl rfl (fun w h Y => PySem.W.kIn_of Y) ?F
  case F =>
    intro w mg fa h KX G hmg
    refine' Toy.all_mk KX G hmg ?tg_nn ?tl_nn ?q_az ?g_Reader ?pg_Reader ?hd_Reader ?po_Reader ?sa_Reader ?kc_Reader ?n_Reader_signs ?n_Reader_marks ?n_Reader_first ?n_Reader_steps ?n_Reader__numbers ?n_Reader__leads ?n_Reader__columns ?mk_Reader ?ha_Reader ?hn_Reader ?tk_Reader ?hm_Reader ?ne_Reader ?sf_Reader ?xg_InvalidReader ?xg_InvalidText ?xg_RowError ?xc_InvalidReader ?xc_InvalidText ?xf_InvalidReader ?xf_InvalidText ?xs_TT ?xs_IT ?xs_II ?xk_TR ?xk_TI ?xk_rs ?cm_at ?cm_rc ?cm_fi ?cr_rd ?cr_ga ?a_take ?l_take ?c_take ?k_take ?a_pick ?l_pick ?c_pick ?k_pick ?a_mixed ?l_mixed ?c_mixed ?k_mixed ?a_signs ?l_signs ?c_signs ?k_signs ?a_drawn ?l_drawn ?c_drawn ?k_drawn ?a_box ?l_box ?c_box ?k_box ?a_isseq ?l_isseq ?c_isseq ?k_isseq ?a_isrow ?l_isrow ?c_isrow ?k_isrow ?a_isletters ?l_isletters ?c_isletters ?k_isletters ?a_issigns ?l_issigns ?c_issigns ?k_issigns ?a_isname ?l_isname ?c_isname ?k_isname ?a_ismarks ?l_ismarks ?c_ismarks ?k_ismarks ?a_istargets ?l_istargets ?c_istargets ?k_istargets ?a_issteps ?l_issteps ?c_issteps ?k_issteps ?a_m_num ?i_m_num ?l_m_num ?c_m_num ?k_m_num ?a_table ?l_table ?c_table ?k_table ?a_cols ?l_cols ?c_cols ?k_cols ?a_init ?i_init ?l_init ?c_init ?k_init ?a_xir ?i_xir ?l_xir ?c_xir ?k_xir ?a_xit ?i_xit ?l_xit ?c_xit ?k_xit ?a_lines ?l_lines ?c_lines ?k_lines ?a_str ?i_str ?l_str ?c_str ?k_str ?a_eq ?i_eq ?l_eq ?c_eq ?k_eq ?a_lot ?l_lot ?c_lot ?k_lot ?a_istold ?l_istold ?c_istold ?k_istold ?a_tol ?l_tol ?c_tol ?k_tol ?a_rend ?l_rend ?c_rend ?k_rend ?a_wrl ?l_wrl ?c_wrl ?k_wrl ?a_rol ?l_rol ?c_rol ?k_rol ?l_parse ?c_parse ?a_llines ?l_llines ?c_llines ?k_llines ?a_lwrong ?l_lwrong ?c_lwrong ?k_lwrong ?a_lbl ?l_lbl ?c_lbl ?k_lbl ?a_lheard ?l_lheard ?c_lheard ?k_lheard ?a_made ?l_made ?c_made ?k_made ?a_law ?l_law ?c_law ?k_law ?z_int ?z_len ?z_abs ?z_str ?z_list ?z_tuple ?z_dict ?z_set ?z_isinstance ?z_all ?z_zip ?z_enumerate ?z_range ?z_max ?z_min ?z_sorted ?z_repr
    (case tg_nn => k_is)
    (case tl_nn => k_is)
    (case q_az => k_is)
    (case g_Reader => k_is)
    (case pg_Reader => k_is)
    (case hd_Reader => k_is)
    (case po_Reader => k_is)
    (case sa_Reader => k_is)
    (case kc_Reader => k_is)
    (case n_Reader_signs => k_is)
    (case n_Reader_marks => k_is)
    (case n_Reader_first => k_is)
    (case n_Reader_steps => k_is)
    (case n_Reader__numbers => k_is)
    (case n_Reader__leads => k_is)
    (case n_Reader__columns => k_is)
    (case mk_Reader => k_is)
    (case ha_Reader => k_is)
    (case hn_Reader => k_is)
    (case tk_Reader => k_is)
    (case hm_Reader => k_is)
    (case ne_Reader => k_is)
    (case sf_Reader => k_is)
    (case xg_InvalidReader => k_is)
    (case xg_InvalidText => k_is)
    (case xg_RowError => k_is)
    (case xc_InvalidReader => exact LX.XC.ve (by show PySem.W.excInitIn _ _ [.type "ValueError", .type "Exception", .type "BaseException", .type "object"] "ValueError.__new__" = true; kx_is) (by k_is) (by k_is) (by k_is) (by k_is) (by k_is) (by k_is) (by k_is) (by k_is) (by k_is) (by k_is) (by k_is))
    (case xc_InvalidText => exact LX.XC.ve (by show PySem.W.excInitIn _ _ [.type "ValueError", .type "Exception", .type "BaseException", .type "object"] "ValueError.__new__" = true; kx_is) (by k_is) (by k_is) (by k_is) (by k_is) (by k_is) (by k_is) (by k_is) (by k_is) (by k_is) (by k_is) (by k_is))
    (case xf_InvalidReader => k_is)
    (case xf_InvalidText => k_is)
    (case xs_TT => k_is)
    (case xs_IT => k_is)
    (case xs_II => k_is)
    (case xk_TR => kit_is)
    (case xk_TI => kit_is)
    (case xk_rs => kit_is)
    (case cm_at => k_is)
    (case cm_rc => k_is)
    (case cm_fi => k_is)
    (case cr_rd => k_is)
    (case cr_ga => k_is)
    (case a_take => k_is)
    (case l_take => k_is)
    (case c_take => k_is)
    (case k_take => k_is)
    (case a_pick => k_is)
    (case l_pick => k_is)
    (case c_pick => k_is)
    (case k_pick => k_is)
    (case a_mixed => k_is)
    (case l_mixed => k_is)
    (case c_mixed => k_is)
    (case k_mixed => k_is)
    (case a_signs => k_is)
    (case l_signs => k_is)
    (case c_signs => k_is)
    (case k_signs => k_is)
    (case a_drawn => k_is)
    (case l_drawn => k_is)
    (case c_drawn => k_is)
    (case k_drawn => k_is)
    (case a_box => k_is)
    (case l_box => k_is)
    (case c_box => k_is)
    (case k_box => k_is)
    (case a_isseq => k_is)
    (case l_isseq => k_is)
    (case c_isseq => k_is)
    (case k_isseq => k_is)
    (case a_isrow => k_is)
    (case l_isrow => k_is)
    (case c_isrow => k_is)
    (case k_isrow => k_is)
    (case a_isletters => k_is)
    (case l_isletters => k_is)
    (case c_isletters => k_is)
    (case k_isletters => k_is)
    (case a_issigns => k_is)
    (case l_issigns => k_is)
    (case c_issigns => k_is)
    (case k_issigns => k_is)
    (case a_isname => k_is)
    (case l_isname => k_is)
    (case c_isname => k_is)
    (case k_isname => k_is)
    (case a_ismarks => k_is)
    (case l_ismarks => k_is)
    (case c_ismarks => k_is)
    (case k_ismarks => k_is)
    (case a_istargets => k_is)
    (case l_istargets => k_is)
    (case c_istargets => k_is)
    (case k_istargets => k_is)
    (case a_issteps => k_is)
    (case l_issteps => k_is)
    (case c_issteps => k_is)
    (case k_issteps => k_is)
    (case a_m_num => k_is)
    (case i_m_num => k_is)
    (case l_m_num => k_is)
    (case c_m_num => k_is)
    (case k_m_num => k_is)
    (case a_table => k_is)
    (case l_table => k_is)
    (case c_table => k_is)
    (case k_table => k_is)
    (case a_cols => k_is)
    (case l_cols => k_is)
    (case c_cols => k_is)
    (case k_cols => k_is)
    (case a_init => k_is)
    (case i_init => k_is)
    (case l_init => k_is)
    (case c_init => k_is)
    (case k_init => k_is)
    (case a_xir => k_is)
    (case i_xir => k_is)
    (case l_xir => k_is)
    (case c_xir => k_is)
    (case k_xir => k_is)
    (case a_xit => k_is)
    (case i_xit => k_is)
    (case l_xit => k_is)
    (case c_xit => k_is)
    (case k_xit => k_is)
    (case a_lines => k_is)
    (case l_lines => k_is)
    (case c_lines => k_is)
    (case k_lines => k_is)
    (case a_str => k_is)
    (case i_str => k_is)
    (case l_str => k_is)
    (case c_str => k_is)
    (case k_str => k_is)
    (case a_eq => k_is)
    (case i_eq => k_is)
    (case l_eq => k_is)
    (case c_eq => k_is)
    (case k_eq => k_is)
    (case a_lot => k_is)
    (case l_lot => k_is)
    (case c_lot => k_is)
    (case k_lot => k_is)
    (case a_istold => k_is)
    (case l_istold => k_is)
    (case c_istold => k_is)
    (case k_istold => k_is)
    (case a_tol => k_is)
    (case l_tol => k_is)
    (case c_tol => k_is)
    (case k_tol => k_is)
    (case a_rend => k_is)
    (case l_rend => k_is)
    (case c_rend => k_is)
    (case k_rend => k_is)
    (case a_wrl => k_is)
    (case l_wrl => k_is)
    (case c_wrl => k_is)
    (case k_wrl => k_is)
    (case a_rol => k_is)
    (case l_rol => k_is)
    (case c_rol => k_is)
    (case k_rol => k_is)
    (case l_parse => k_is)
    (case c_parse => k_is)
    (case a_llines => k_is)
    (case l_llines => k_is)
    (case c_llines => k_is)
    (case k_llines => k_is)
    (case a_lwrong => k_is)
    (case l_lwrong => k_is)
    (case c_lwrong => k_is)
    (case k_lwrong => k_is)
    (case a_lbl => k_is)
    (case l_lbl => k_is)
    (case c_lbl => k_is)
    (case k_lbl => k_is)
    (case a_lheard => k_is)
    (case l_lheard => k_is)
    (case c_lheard => k_is)
    (case k_lheard => k_is)
    (case a_made => k_is)
    (case l_made => k_is)
    (case c_made => k_is)
    (case k_made => k_is)
    (case a_law => k_is)
    (case l_law => k_is)
    (case c_law => k_is)
    (case k_law => k_is)
    (case z_int => k_is)
    (case z_len => k_is)
    (case z_abs => k_is)
    (case z_str => k_is)
    (case z_list => k_is)
    (case z_tuple => k_is)
    (case z_dict => k_is)
    (case z_set => k_is)
    (case z_isinstance => k_is)
    (case z_all => k_is)
    (case z_zip => k_is)
    (case z_enumerate => k_is)
    (case z_range => k_is)
    (case z_max => k_is)
    (case z_min => k_is)
    (case z_sorted => k_is)
    (case z_repr => k_is)
