
import PyProof.Rows.All
import Wide.All
import OpenK.AllK
import Wide.FinOn
import Lean
import PyProof.EqAt
import PyProof.EqKinds
import PyProof.TupleCall
import KE.KDictList
import PyProof.Rows.TupDisplay
import PyProof.ZipIter
import PyProof.TupleKey
import PyProof.MinMaxWalk
import PySem.SetTable
import PyProof.SetScanFacts
import PyProof.SetKind
import PyProof.FactsAll.tuple_iterator
import PyProof.Rows.StrKeys3
import PyProof.Rows.StrWeight2
import PyProof.SliceStr2
import PyProof.StrLaws
import PyProof.Rows.Range3
import PySem.Challenge.RW_threetrees_k05_texts_refused
set_option genSizeOfSpec false
set_option linter.all false
set_option Elab.async false
set_option maxRecDepth 100000
set_option linter.defProp false
abbrev AA:=List (List Nat)
abbrev AB:=List (List Int)
abbrev AC:=List Nat
abbrev AD:=List Int
abbrev AF:=List PySem.PyData
abbrev AG:=List PySem.Value
abbrev AH:=List PySem.Str
abbrev AJ:=Array PySem.Value
abbrev AK:=Option PySem.Addr
abbrev AL:=List PySem.Addr
abbrev AM:=List PySem.Expr
def Aa:=@PySem.wpAny_bind
def Ab:=@PySem.wpAny_pure
def Ac:=@if_neg
def Ae:=@if_pos
def Af:=@List.mem_cons_self
def Ag:=@PySem.F.type_list_append
def Ah:=@PySem.F.slot_list_append
def Ai:=@PySem.PassesOwn.never
def Aj:=@decide_eq_false
def Ak:=@Bool.false_ne_true
def Al:=@List.length_cons
def Am:=@PySem.boot_len
def An:=@of_decide_eq_true
def Ao:=@of_decide_eq_false
def Ap:=@PySem.isSubtype_type
def Aq:=@PySem.W.mg_none_of
def Ar:=@List.filterMap_map
def As:=@List.getElem?_set_self
def Au:=@PySem.Heap.get?_update_other
def Av:=@List.map_congr_left
def Aw:=@PySem.W.mg_of
def Ax:=@Nat.le_trans
def Ay:=@List.filterMap_cons
def Az:=@PySem.call_isinstance
def Ba:=@Option.map_eq_some_iff
def Bb:=@List.length_drop
def Bc:=@List.length_range
def Be:=@List.replicate_succ
def Bf:=@List.mem_of_getElem?
def Bg:=@List.mem_of_mem_take
def Bh:=@decide_eq_true
def Bi:=@List.getElem?_append_right
def Bj:=@PyProof.Rows.callWith_type1
def Bk:=@PyProof.Rows.slot_tuple_getitem
def Bl:=@Array.length_toList
def Bm:=@List.append_nil
def Bo:=@decide_eq_decide
def Bp:=@List.getElem?_append_left
def Bq:=@Nat.lt_or_ge
def Br:=@List.headD_cons
def Bs:=@Int.emod_nonneg
def Bu:=@Bool.and_eq_true
def Bv:=@Nat.zero_le
def Bw:=@PySem.Heap.get?_update_self
def Bx:=@List.take_succ_eq_append_getElem
def By:=@PySem.Heap.size_push
def Bz:=@PySem.wpAny_holding
def Ca:=@List.range_succ
def Cb:=@List.Pairwise.imp_of_mem
def Cc:=@List.cons.injEq
def Cd:=@Bool.false_eq_true
def Ce:=@Int.emod_lt_of_pos
def Cf:=@List.mem_append_left
def Cg:=@PySem.wpAny_newObj_type
def Ci:=@List.flatten_cons
def Cj:=@List.take_of_length_le
def Ck:=@Array.getElem?_eq_getElem
def Cm:=@List.drop_eq_getElem_cons
def Cn:=@List.idxOf_lt_length_iff
def Co:=@List.mem_of_mem_drop
def Cp:=@List.getElem?_replicate
def Cq:=@List.length_pos_of_mem
def Cr:=@List.take_length
def Cs:=@List.getElem_mem
def Ct:=@List.length_replicate
def Cu:=@List.mem_filter
def Cv:=@Bool.eq_iff_iff
def Cw:=@Nat.le_of_lt
def Cz:=@List.length_erase_of_mem
def Dc:=@List.length_pos_iff
def Dd:=@PySem.wpAny_call_entry
def De:=@PySem.wpAny_callSpecial?_slot
def Df:=@decide_eq_true_eq
def Dg:=@List.map_nil
def Dh:=@Nat.lt_succ_of_lt
def Di:=@List.take_succ
def Dj:=@List.nodup_range
def Dk:=@PySem.sizeLine_eq
def Dl:=@List.take_append_of_le_length
def Dm:=@List.length_set
def Dn:=@List.find?_cons
def Dq:=@List.pairwise_append
def Dr:=@Nat.lt_of_le_of_lt
def Ds:=@List.zip_cons_cons
def Dt:=@List.mem_reverse
def Du:=@List.map_id
def Dv:=@Bool.or_eq_true
abbrev Dy:=PySem.Value->PySem.Shared->Prop
abbrev Dz:=List (PySem.Addr×PySem.Obj)
open PySem.W (Frag)
def Aa0:=@List.mem_append
def Aa1:=@List.mem_cons
def Aa2:=@List.getElem?_eq_getElem
def Aa3:=@List.length_map
def Aa4:=@List.nodup_append
def Aa5:=@List.nodup_cons
def Aa6:=@PySem.Heap.get?_push_of_some
def Aa7:=@Nat.le_refl
def Aa8:=@List.mem_map
def Aa9:=@List.getElem?_map
def Ab0:=@List.getElem?_eq_some_iff
def Ab1:=@PySem.F.plainAttrs_list
def Ab2:=@List.size_toArray
def Ab3:=@PySem.Heap.lt_size
def Ab4:=@Option.some.inj
def Ab5:=@List.mem_range
def Ab6:=@List.cons_append
def Ab7:=@List.length_append
def Ab8:=@Nat.lt_of_lt_of_le
def Ab9:=@Nat.ne_of_lt
def Ac0:=@List.getD_eq_getElem?_getD
def Ac1:=@List.mem_append_right
def Ac2:=@List.not_mem_nil
def Ac3:=@PySem.Heap.get?_push_size
def Ac4:=@List.idxOf_lt_length_of_mem
def Ac5:=@List.eq_nil_or_concat
def Ac6:=@List.nodup_iff_pairwise_ne
def Ac7:=@List.map_cons
def Ac8:=@Int.toNat_natCast
def Ac9:=@List.all_eq_true
def Ad0:=@List.getElem?_set_ne
def Ad1:=@List.length_take
def Ad2:=@List.map_append
def Ad3:=@List.take_append_drop
def Ad4:=@List.mem_cons_of_mem
def Ad5:=@List.append_of_mem
def Ad6:=@List.getElem?_eq_none
def Ad7:=@List.append_assoc
def Ad8:=@List.mem_singleton
def Ad9:=@Nat.lt_irrefl
def Ae0:=@List.pairwise_map
def Ae1:=@List.pairwise_cons
def Ae2:=@List.length_reverse
def Ae3:=@List.map_map
namespace L2
open PySem PySem.Spec PyProof.Rows
abbrev Key:=Sum Int Str
def dP9:Key->Value->Bool
 | .inl k,v=>Value.isInt k v
 | .inr x,v=>Value.isStrOf x v
def eK6 (w:World):Key->Int
 | .inl k=>hashInt k
 | .inr x=>hashStr w x
theorem O0:∀{k:Key} {v:Value},dP9 k v=true->(∃i t,k=Sum.inl i/\v=Value.int i t)\/(∃x t,k=Sum.inr x/\v=Value.str x t)
 | .inl i,v,h=>by
  obtain⟨t,e⟩:=Value.isInt_shape (k:=i) (v:=v) h;exact .inl ⟨i,t,rfl,e⟩
 | .inr x,v,h=>by
  obtain⟨t,e⟩:=Value.isStrOf_shape (x:=x) (v:=v) h;exact .inr ⟨x,t,rfl,e⟩
theorem dX4 (a b:Int):decide ((Sum.inl a:Key)=Sum.inl b)=(a==b):=by
 by_cases e:a=b
 .subst e;simp
 .have h:¬(Sum.inl a:Key)=Sum.inl b:=λq=>e (Sum.inl.inj q)
  rw[Aj h];exact(beq_eq_false_iff_ne.mpr e).symm
theorem dW0 (a b:Str):decide ((Sum.inr a:Key)=Sum.inr b)=decide (a=b):=by
 by_cases e:a=b
 .subst e;simp
 .have h:¬(Sum.inr a:Key)=Sum.inr b:=λq=>e (Sum.inr.inj q)
  rw[Aj h,Aj e]
theorem dZ0 (a:Int)(b:Str):decide ((Sum.inl a:Key)=Sum.inr b)=false:=Aj (λq=>nomatch q)
theorem dZ8 (a:Str)(b:Int):decide ((Sum.inr a:Key)=Sum.inl b)=false:=Aj (λq=>nomatch q)
def cI8 (prog:Program)(w:World):PySem.KeyKind prog w Key where
 is:=dP9
 hash:=eK6 w
 inj:=λv a b ha hb=>by
  rcases O0 ha with⟨i,t,rfl,rfl⟩ | ⟨x,t,rfl,rfl⟩
  .rcases O0 hb with⟨j,u,rfl,e⟩ | ⟨y,u,rfl,e⟩
   .injection e with e1 _;rw[e1]
   .exact nomatch e
  .rcases O0 hb with⟨j,u,rfl,e⟩ | ⟨y,u,rfl,e⟩
   .exact nomatch e
   .injection e with e1 _;rw[e1]
 byValue:=λk v h=>by
  rcases O0 h with⟨i,t,rfl,rfl⟩ | ⟨x,t,rfl,rfl⟩ <;> rfl
 pyHash:=λhv h=>by
  rcases O0 hv with⟨i,t,rfl,rfl⟩ | ⟨x,t,rfl,rfl⟩
  .exact wpAny_pyHash_int h
  .exact wpAny_pyHash_str h
 eqBool:=λhu hv h=>by
  rcases O0 hu with⟨i,t,rfl,rfl⟩ | ⟨x,t,rfl,rfl⟩
  .rcases O0 hv with⟨j,u,rfl,rfl⟩ | ⟨y,u,rfl,rfl⟩
   .rw[dX4]at h;exact wpAny_eqBool_int h
   .rw[dZ0]at h;exact SeqAt.EqAt.int_str i t y u _ _ _ _ h
  .rcases O0 hv with⟨j,u,rfl,rfl⟩ | ⟨y,u,rfl,rfl⟩
   .rw[dZ8]at h;exact SeqAt.EqAt.str_int x t j u _ _ _ _ h
   .rw[dW0]at h;exact wpAny_eqBool_str h
 «strs» := λk x t v h=>by
  rcases O0 h with⟨i,u,rfl,e⟩ | ⟨y,u,rfl,e⟩
  .exact nomatch e
  .injection e with e1 _
   subst e1;cases v <;> rfl
inductive V where
 | non | bl (b:Bool) | int (i:Int) | str (x:Str) | byt (b:Array UInt8) | flt (b:UInt64) | ref (a:Addr) | ty (n:String)
 deriving DecidableEq
def RelV:V->Value->Prop
 | .non,u=>u=Value.none
 | .bl b,u=>u=Value.bool b
 | .int i,u=>∃t,u=Value.int i t
 | .str x,u=>∃t,u=Value.str x t
 | .byt b,u=>∃t,u=Value.bytes b t
 | .flt b,u=>∃t,u=Value.float b t
 | .ref a,u=>u=Value.ref a
 | .ty n,u=>u=Value.type n
abbrev Vals:List V->AG->Prop:=Paired RelV
theorem Vals.length {xs:List V}{us:AG}(r:Vals xs us):xs.length=us.length:=Paired.length r
theorem Vals.get:∀{xs:List V} {us:AG} {i:Nat} {x:V},Vals xs us->xs[i]? = some x->∃u,us[i]? = some u/\RelV x u
 | _,_,_,_,.nil,e=>by simp at e
 | _,_,0,_,.cons r _,e=>by simp at e;subst e;exact⟨_,rfl,r⟩
 | _,_,i+1,x,.cons _ t,e=>by
  obtain⟨u,h1,h2⟩:=Vals.get (i:=i) (x:=x) t (by simpa using e)
  exact⟨u,by simpa using h1,h2⟩
theorem Vals.set {x:V}{u:Value}(r:RelV x u):∀{xs:List V} {us:AG} (i:Nat),Vals xs us->Vals (xs.set i x) (us.set i u)
 | _,_,_,.nil=>.nil
 | _,_,0,.cons _ t=>.cons r t
 | _,_,i+1,.cons q t=>.cons q (Vals.set r i t)
theorem Vals.append:∀{xs ys:List V} {us ws:AG},Vals xs us->Vals ys ws->Vals (xs++ys) (us++ws)
 | _,_,_,_,.nil,s=>s
 | _,_,_,_,.cons r t,s=>.cons r (Vals.append t s)
theorem Vals.take:∀{xs:List V} {us:AG} (n:Nat),Vals xs us->Vals (xs.take n) (us.take n)
 | _,_,0,_=>.nil
 | _,_,_+1,.nil=>.nil
 | _,_,n+1,.cons r t=>.cons r (Vals.take n t)
theorem Vals.drop:∀{xs:List V} {us:AG} (n:Nat),Vals xs us->Vals (xs.drop n) (us.drop n)
 | _,_,0,r=>r
 | _,_,_+1,.nil=>.nil
 | _,_,n+1,.cons _ t=>Vals.drop n t
def RelO:Option V->Option Value->Prop
 | some v,some u=>RelV v u
 | none,none=>True
 | _,_=>False
def KV {κ:Type}:List (κ×V)->List (κ×Value)->Prop:=Paired λ(p:κ×V) (q:κ×Value)=>p.1=q.1/\RelV p.2 q.2
def kV:Key->V
 | .inl i=>.int i
 | .inr x=>.str x
inductive HO where
 /-- a list -/
 | lst (xs:List V)
 /-- a tuple (never changes) -/
 | tup (xs:List V)
 /-- a dict whose keys are ints and texts;one whose keys are tuples of ints and texts (the empty one is both) -/
 | dK (kvs:List (Key×V)) | dT (kvs:List (List Key×V))
 /-- a set of ints: its members,its size -/
 | set (S:Int->Bool) (n:Nat)
 /-- an instance of the class at C,its dict at dx,its attributes -/
 | ins (C dx:Addr) (fs:List (Str×V))
 /-- the dict of the instance at x -/
 | own (x:Addr)
 /-- the dict of an exception -/
 | xd (fs:List (Str×V))
 /-- a bound method,f of x -/
 | met (f x:Addr)
 /-- a range object lo,lo+1,.. below hi -/
 | rng (lo hi:Int)
 /-- a thing that is known to the object (the script;a dict while a loop walks it): read,never written while it is so -/
 | frz (o:Obj) (u:HO)
 /-- a code object's table -/
 | tbl (ps:AJ)
 /-- any other thing,by what is true of its one object (a def of one's own: SetO a S n:=HO.ext λh=>..) -/
 | ext (φ:Heap->Prop)
abbrev Hp:=Addr->Option HO
def upd (H:Hp)(a:Addr)(o:HO):Hp:=λb=>if b=a then some o else H b
theorem B6:upd H a o a=some o:=by unfold upd;rw[Ae rfl]
theorem B4 (h:b≠a):upd H a o b=H b:=by unfold upd;rw[Ac h]
theorem E7 {H:Hp}{a b:Addr}{o:HO}(h:H a=some o)(h':H b=none):a≠b:=by
 intro e;subst e;rw[h]at h';cases h'
def Tup0 (h:Heap)(a:Addr)(items:AJ):Prop:=∃o,h.get? a=some o/\o.cls=.type "tuple" /\ (∃n,o.data=.seq items n)/\o.dict=none
theorem Tup0.tup {h:Heap}{a:Addr}{items:AJ}(p:Tup0 h a items):IsTup h a items:=p.imp λ_ q=>⟨q.1,q.2.1,q.2.2.1⟩
theorem Tup0.nw (h:Heap)(items:AJ)(n:Nat):Tup0 (h.push {cls:=.type "tuple",data:=.seq items n}) h.objs.size items:=⟨_,Ac3 _ rfl,rfl,⟨n,rfl⟩,rfl⟩
section
variable (P:Program)(w:World)
def ObjOk (H:Hp)(h:Heap)(a:Addr):HO->Prop
 | .lst xs=>xs.length<=sizeLine/\∃(its:AG) (n:Nat),Vals xs its/\h.get? a=some {cls:=.type "list",data:=.seq its.toArray n}
 | .tup xs=>xs.length<=sizeLine/\∃its:AG,Vals xs its/\Tup0 h a its.toArray
 | .dK kvs=>kvs.length<=sizeLine/\(a==sysModules)=false/\∃vs,KV kvs vs/\h.DictOf (cI8 P w) a vs
 | .dT kvs=>kvs.length<=sizeLine/\(a==sysModules)=false/\∃xs:List (List Key×Addr×Value),
   Paired (λ(p:List Key×V) (q:List Key×Addr×Value)=>p.1=q.1/\H q.2.1=some (.tup (p.1.map kV))/\RelV p.2 q.2.2) kvs xs /\
   ∃o es ep,h.get? a=some o/\o.ExactDict/\o.data=.dict es ep/\es.toList=xs.map (entryOfKey (tupleKind (cI8 P w)))/\(xs.map (·.1)).Nodup
 | .set S n=>h.SetOf (intKind P w) a S n
 | .ins C dx fs=>H dx=some (.own a)/\fs.length<=1000/\dx≠a/\h.get? a=some (PySem.W.instObj C dx) /\
   ∃mA,h.Ns1 dx mA/\(∀f,RelO (fs.lookup f) (mA f))/\PySem.Within mA (fs.map (·.1))
 | .own _=>∃o,h.get? a=some o
 | .xd fs=>∃mA,h.Ns1 a mA/\∀f,RelO (fs.lookup f) (mA f)
 | .rng lo hi=>∃t u v,h.get? a=some {cls:=.type "range",data:=.fields #[.int lo t,.int hi u,.int 1 v]}
 | .frz o u=>h.get? a=some o/\ObjOk H h a u
 | .tbl ps=>h.get? a=some {cls:=.none,data:=.fields ps}
 | .met f x=>h.get? a=some (PySem.W.methodObj (.ref f) (.ref x))
 | .ext φ => φ h/\(∃o,h.get? a=some o)/\∀h1 h2:Heap,φ h1->(∀o,h1.get? a=some o->h2.get? a=some o)->φ h2
def HOk (H:Hp)(h:Heap):Prop:=∀a o,H a=some o->ObjOk P w H h a o
end
section
theorem ObjOk.lt (x:ObjOk P w H h a o):a<h.objs.size:=by
 cases o with
 | lst xs=>obtain⟨_,_,_,_,e⟩:=x;exact Ab3 e
 | tup xs=>obtain⟨_,_,_,p⟩:=x;exact p.tup.lt
 | dK kvs=>obtain⟨_,_,_,_,o,_,_,e,_⟩:=x;exact Ab3 e
 | dT kvs=>obtain⟨_,_,_,_,o,_,_,e,_⟩:=x;exact Ab3 e
 | set S n=>obtain⟨o,_,_,_,e,_⟩:=x;exact Ab3 e
 | ins C dx fs=>obtain⟨_,_,_,e,_⟩:=x;exact Ab3 e
 | own y=>obtain⟨_,e⟩:=x;exact Ab3 e
 | xd fs=>obtain⟨_,⟨_,_,_,e,_⟩,_⟩:=x;exact Ab3 e
 | rng lo hi=>obtain⟨_,_,_,e⟩:=x;exact Ab3 e
 | frz z u=>obtain⟨e,_⟩:=x;exact Ab3 e
 | tbl ps=>exact Ab3 (show h.get? a=some _ from x)
 | met f y=>exact Ab3 (show h.get? a=some _ from x)
 | ext φ=>obtain⟨_,⟨_,e⟩,_⟩:=x;exact Ab3 e
theorem Paired.mapP:∀{l₁:List α} {l₂:List β},Paired F l₁ l₂->(∀a b,F a b->G a b)->Paired G l₁ l₂
 | _,_,.nil,_=>.nil
 | _,_,.cons r t,f=>.cons (f _ _ r) (Paired.mapP t f)
theorem ObjOk.stay (x:ObjOk P w H h a o)(k:∀b u,(b=a\/H b=some (.own a))->h.get? b=some u->h'.get? b=some u)
  (ho:∀b,H b=some (.own a)->H' b=some (.own a)) (M:∀b xs,H b=some (.tup xs)->H' b=some (.tup xs)):ObjOk P w H' h' a o:=by
 induction o with
 | lst xs=>obtain⟨z,its,n,r,e⟩:=x;exact⟨z,its,n,r,k _ _ (.inl rfl) e⟩
 | tup xs=>obtain⟨z,its,r,j,e,c⟩:=x;exact⟨z,its,r,j,k _ _ (.inl rfl) e,c⟩
 | dK kvs=>obtain⟨z,y,vs,r,j,m,s,e,c⟩:=x;exact⟨z,y,vs,r,j,m,s,k _ _ (.inl rfl) e,c⟩
 | dT kvs=>
  obtain⟨z,y,xs,r,j,m,s,e,c⟩:=x;exact⟨z,y,xs,Paired.mapP r λp q z=>⟨z.1,M _ _ z.2.1,z.2.2⟩,j,m,s,k _ _ (.inl rfl) e,c⟩
 | set S n=>obtain⟨j,m,s,t,e,c⟩:=x;exact⟨j,m,s,t,k _ _ (.inl rfl) e,c⟩
 | ins C dx fs=>
  obtain⟨d,z,R,e,Y,⟨X,m,s,J,c⟩,r⟩:=x;exact⟨ho _ d,z,R,k _ _ (.inl rfl) e,Y,⟨X,m,s,k _ _ (.inr d) J,c⟩,r⟩
 | own y=>obtain⟨j,e⟩:=x;exact⟨j,k _ _ (.inl rfl) e⟩
 | xd fs=>obtain⟨Y,⟨X,m,s,e,c⟩,r⟩:=x;exact⟨Y,⟨X,m,s,k _ _ (.inl rfl) e,c⟩,r⟩
 | rng lo hi=>obtain⟨t,u,v,e⟩:=x;exact⟨t,u,v,k _ _ (.inl rfl) e⟩
 | frz j u N=>obtain⟨e,q⟩:=x;exact⟨k _ _ (.inl rfl) e,N q⟩
 | tbl ps=>
  have e:h.get? a=some {cls:=.none,data:=.fields ps}:=x
  show h'.get? a=some {cls:=.none,data:=.fields ps}
  exact k a _ (.inl rfl) e
 | met f y=>
  have e:h.get? a=some (PySem.W.methodObj (.ref f) (.ref y)):=x
  show h'.get? a=some (PySem.W.methodObj (.ref f) (.ref y))
  exact k a _ (.inl rfl) e
 | ext φ=>obtain⟨p,⟨o,e⟩,U⟩:=x;exact⟨U _ _ p λo q=>k _ _ (.inl rfl) q,⟨o,k _ _ (.inl rfl) e⟩,U⟩
theorem HOk.lt (x:HOk P w H h)(e:H a=some o):a<h.objs.size:=(x a o e).lt
theorem HOk.fresh (x:HOk P w H h)(e:h.objs.size<=a):H a=none:=by
 cases q:H a with
 | none=>rfl
 | some u=>exact absurd (Ab8 (x.lt q) e) (Ad9 _)
theorem HOk.kept (x:HOk P w H h)(k:∀b u,h.get? b=some u->h'.get? b=some u):HOk P w H h':=λa o e=>
 (x a o e).stay (λb u _ q=>k b u q) (λ_ q=>q) λ_ _ q=>q
theorem HOk.laid (x:HOk P w H h)(k:∀b u,h.get? b=some u->h'.get? b=some u)(hp:h.objs.size<=a)(y:ObjOk P w (upd H a o) h' a o):HOk P w (upd H a o) h':=λb u e=>by
 have j:=x.fresh hp
 by_cases z:b=a
 .subst z;rw[B6]at e;cases e;exact y
 .rw[B4 z]at e;exact(x b u e).stay (λc v _ q=>k c v q) (λc q=>by rw[B4 (E7 q j)];exact q) λc xs q=>by rw[B4 (E7 q j)];exact q
end
def Rd (H:Hp)(a:Addr)(u:HO):Prop:=H a=some u\/∃o,H a=some (.frz o u)
theorem Rd.ok {P:Program}{w:World}{H:Hp}{h:Heap}{a:Addr}{u:HO}(r:Rd H a u)(x:HOk P w H h):ObjOk P w H h a u:=by
 rcases r with r | ⟨o,r⟩
 .exact x a u r
 .obtain⟨_,q⟩:=x a _ r;exact q
def Mut:Option HO->Prop
 | some (.lst _)=>True
 | some (.dK _)=>True
 | some (.dT _)=>True
 | some (.set _ _)=>True
 | some (.ins _ _ _)=>True
 | some (.ext _)=>True
 | _=>False
section
theorem HOk.write (ok:HOk P w H h)(X:Mut (H x))(M:e=x\/H e=some (.own x))(k:∀b u,b≠e->h.get? b=some u->h'.get? b=some u)(U:∃u,h'.get? e=some u)
  (J:ObjOk P w (upd H x o') h' x o'):HOk P w (upd H x o') h':=λb u q=>by
 have s:∀c y,H c=some (.own y)->c≠x:=λc y r z=>by subst z;rw[r]at X;exact X
 have m:∀c xs,H c=some (.tup xs)->c≠x:=λc xs r z=>by subst z;rw[r]at X;exact X
 by_cases Y:b=x
 .subst Y;rw[B6]at q;cases q;exact J
 .rw[B4 Y]at q;by_cases j:b=e
  .have N:H b=some (.own x):=by
    rcases M with z | z
    .exact absurd (j.trans z) Y
    .rw[j];exact z
   rw[q]at N;cases N;obtain⟨v,R⟩:=U;exact⟨v,by rw[j];exact R⟩
  .refine(ok b u q).stay (λc v hc r=>k c v ?_ r) (λc r=>by rw[B4 (s c b r)];exact r) λc xs r=>by rw[B4 (m c xs r)];exact r
   rcases hc with rfl | hc
   .exact j
   .rintro rfl;rcases M with z | z
    .exact s c b hc z
    .rw[hc]at z;cases z;exact Y rfl
end
structure Un (fs ex:AL)(H H':Hp)(h h':Heap):Prop where
 keep:∀b o,h.get? b=some o->H b=none->b∉fs->b∉ex->h'.get? b=some o
 slot:∀b o,h.get? b=some o->H b=none->b∈fs->b∉ex->∃sl,h'.get? b=some {o with slots:=sl}
 free:∀b o,h.get? b=some o->H b=none->b∉ex->H' b=none
 there:∀b o,h.get? b=some o->b∉ex->∃o',h'.get? b=some o'
 tups:∀b xs,H b=some (.tup xs)->H' b=some (.tup xs)
 frzs:∀b o u,H b=some (.frz o u)->H' b=some (.frz o u)
 tbls:∀b ps,H b=some (.tbl ps)->∃more,H' b=some (.tbl (ps++more))
section
theorem Un.any (u:Un fs ex H H1 h h1){b:Addr}{ob:Obj}(q:h.get? b=some ob)(n:H b=none)(y:b∉ex):∃sl,h1.get? b=some {ob with slots:=sl}:=by
 by_cases e:b∈fs
 .exact u.slot b ob q n e y
 .exact⟨ob.slots,u.keep b ob q n e y⟩
theorem Un.kept (k:∀b u,h.get? b=some u->h'.get? b=some u):Un fs ex H H h h':=
 ⟨λb e q _ _ _=>k b e q,λb e q _ _ _=>⟨e.slots,k b e q⟩,λ_ _ _ n _=>n,λb e q _=>⟨e,k b e q⟩,λ_ _ q=>q,λ_ _ _ q=>q,λ_ ps q=>⟨#[],by rw[q];simp⟩⟩
theorem Un.refl:Un fs ex H H h h:=Un.kept λ_ _ q=>q
theorem Un.laid (k:∀b u,h.get? b=some u->h'.get? b=some u)(hp:h.objs.size<=a)(e:H a=none):Un fs ex H (upd H a o) h h' where
 keep:=λb u q _ _ _=>k b u q
 slot:=λb u q _ _ _=>⟨u.slots,k b u q⟩
 free:=λb u q n _=>by rw[B4 (Ab9 (Ab8 (Ab3 q) hp))];exact n
 there:=λb u q _=>⟨u,k b u q⟩
 tups:=λb xs q=>by rw[B4 (E7 q e)];exact q
 frzs:=λb u xs q=>by rw[B4 (E7 q e)];exact q
 tbls:=λb ps q=>⟨#[],by rw[B4 (E7 q e),q];simp⟩
theorem Un.write (w:Mut (H x))(Y:e=x\/H e=some (.own x))(k:∀b u,b≠e->h.get? b=some u->h'.get? b=some u)(j:∃u,h'.get? e=some u):Un fs ex H (upd H x o) h h':=by
 have m:∀b,H b=none->b≠x:=λb n z=>by subst z;rw[n]at w;exact w
 have s:∀b,H b=none->b≠e:=λb n z=>by
  subst z;rcases Y with r | r
  .exact m b n r
  .rw[n]at r;cases r
 have c:∀b u,H b=some u->¬Mut (some u)->b≠x:=λb u q nm z=>by subst z;rw[q]at w;exact nm w
 refine⟨λb u q n _ _=>k b u (s b n) q,λb u q n _ _=>⟨u.slots,k b u (s b n) q⟩,λb u q n _=>by rw[B4 (m b n)];exact n,λb u q _=>?_,
  λb xs q=>by rw[B4 (c b _ q λz=>z)];exact q,λb u xs q=>by rw[B4 (c b _ q λz=>z)];exact q,λb ps q=>⟨#[],by rw[B4 (c b _ q λz=>z),q];simp⟩⟩
 by_cases y:b=e
 .subst y;exact j
 .exact⟨u,k b u y q⟩
end
def trk (h:Heap)(H:Hp):AL:=(List.range h.objs.size).filter λa=>(H a).isSome
def bM2 (h:Heap)(H:Hp):Heap:=PySem.W.hideAll h (trk h H)
theorem cN8 (h:Heap)(H:Hp):(bM2 h H).objs.size=h.objs.size:=PySem.W.hideAll_size _ _
theorem cS8 {h:Heap}{H:Hp}{b:Addr}{o:Obj}(e:h.get? b=some o)(n:H b=none):(bM2 h H).get? b=some o:=
 PySem.W.hideAll_get _ e λy=>by
  have q:(H b).isSome=true:=(Cu.mp y).2
  rw[n]at q;simp at q
theorem dP0 {h:Heap}{H:Hp}{b:Addr}{o:Obj}(e:(bM2 h H).get? b=some o):h.get? b=some o/\H b=none:=by
 have e':h.get? b=some o:=PySem.W.of_hideAll (trk h H) e
 refine⟨e',?_⟩;cases q:H b with
 | none=>rfl
 | some x=>
  have y:b∈trk h H:=Cu.mpr ⟨Ab5.mpr (Ab3 e'),by simp[q]⟩
  have z:(bM2 h H).get? b=none:=PySem.W.hideAll_none (trk h H) y
  rw[z]at e;cases e
def bN0 (g h:Heap)(L:Addr):List (Addr×Obj):=(List.range h.objs.size).filterMap λa=>if a=L\/(g.get? a).isSome=true then none else(h.get? a).map λo=>(a,o)
theorem aD6 {g h:Heap}{L a:Addr}{o:Obj}(h1:a≠L)(y:g.get? a=none)(e:h.get? a=some o):(a,o)∈bN0 g h L:=
 List.mem_filterMap.mpr ⟨a,Ab5.mpr (Ab3 e),by simp[h1,y,e]⟩
theorem bD0 {g h:Heap}{L:Addr}{p:Addr×Obj}(hp:p∈bN0 g h L):p.1≠L/\g.get? p.1=none/\h.get? p.1=some p.2:=by
 obtain⟨b,_,e⟩:=List.mem_filterMap.mp hp;split at e
 .cases e
 .rename_i hn;cases q:h.get? b with
  | none=>rw[q]at e;simp at e
  | some u=>
   rw[q]at e;simp only[Option.map_some,Option.some.injEq]at e;subst e;refine⟨λz=>hn (.inl z),?_,q⟩
   show g.get? b=none
   cases r:g.get? b with
   | none=>rfl
   | some v=>exact(hn (.inr (by simp[r]))).elim
theorem dC6:News g L h (bN0 g h L):=λp hp=>let ⟨a,b,c⟩:=bD0 hp;⟨c,a,b⟩
structure Mod (K:Frag)(mg:Str->Option Value)(base:Heap):Prop where
 kin:K.In base
 glob:base.Ns mainGlobals mg
 blt:∃mb,base.Ns builtinsNs mb/\∀x:Str,x≠"__name__" -> mb x=bootBuiltins x
 nolimit:base.NoLimit
structure Cx where
 prog:Program
 w:World
 K:Frag
 mg:Str->Option Value
 base:Heap
 A:Around
 N:AH
 s₀:Shared
 H₀:Hp
 env:Env
 outer:List Env
 stack:List Env
 ex:AL
 fn:Str->Bool
 calm:Bool
 pn:List (Addr×Obj)
 xe:Value->Shared->Prop
def frs (l:List Env):AL:=l.filterMap (·.frame)
abbrev Cx.fs (X:Cx):AL:=frs X.outer
def Vis (sc:Scope)(x:Str):Prop:=sc.names.lookup x=some .local\/sc.names.lookup x=some .cell\/sc.names.lookup x=some .free
def Loc (sc:Scope)(x:Str):Prop:=sc.names.lookup x=some .local\/sc.names.lookup x=some .cell
def eH7 (env:Env)(h:Heap)(m:Str->Option Value)(x:Str)(u:Value):Prop:=
 (env.kindOf x=some .local/\m x=some u)\/((env.kindOf x=some .cell\/env.kindOf x=some .free)/\∃c,env.cells.lookup x=some c/\h.IsCell c (some u))
structure Cx.Ok (X:Cx):Prop where
 mod:Mod X.K X.mg X.base
 kind:X.env.scope.kind=.function
 glob:X.env.globals=mainGlobals
 blt:X.env.builtins=builtinsNs
 above:X.s₀.heap.objs.size<=X.env.locals
 inj:∀x y c,X.env.cells.lookup x=some c->X.env.cells.lookup y=some c->x=y
 has:∀x,(X.env.kindOf x=some .cell\/X.env.kindOf x=some .free)->∃c,X.env.cells.lookup x=some c
 cab:∀x c,X.fn x=true->X.env.cells.lookup x=some c->X.s₀.heap.objs.size<=c
 hd:X.calm=true->X.A.handled=none
 frames:X.A.frames=some X.stack
 stk:X.stack=X.outer\/(X.stack=X.env::X.outer/\X.env.frame=some X.env.locals)
 exf:∀b∈X.ex,b≠X.env.locals/\∀x c,X.env.cells.lookup x=some c->c≠b
 bs:∀b o,X.base.get? b=some o->X.s₀.heap.get? b=some o/\X.H₀ b=none
 bsz:X.base.objs.size<=X.s₀.heap.objs.size
 noex:∀b o,X.base.get? b=some o->b∉X.ex
 exfs:∀b∈X.ex,b∉X.fs
 funs:X.s₀.heap.FunFrames X.base X.outer
 frf:∀b∈X.fs,X.H₀ b=none
structure Inv (X:Cx)(aA:Dz)(σ:List (Option V))(H:Hp)(s:Shared):Prop where
 ok:X.Ok
 os:s.os=X.s₀.os
 bare:AllBare s.gens
 base:Un X.fs X.ex X.H₀ H X.s₀.heap s.heap
 loc:∃m,s.heap.Ns X.env.locals m/\∀(i:Nat) (x:Str) (v:V),X.N[i]? = some x->σ[i]? = some (some v)->Vis X.env.scope x->∃u,RelV v u/\eH7 X.env s.heap m x u
 cell:∀x c,X.env.cells.lookup x=some c->∃v,s.heap.IsCell c v
 free:H X.env.locals=none
 freeC:∀x c,X.env.cells.lookup x=some c->H c=none
 pin:∀p∈X.pn++aA,s.heap.get? p.1=some p.2/\H p.1=none/\p.1≠X.env.locals/\p.1∉X.fs/\∀v,p.2.data≠.cell v
 hok:HOk X.prog X.w H s.heap
 len:σ.length=X.N.length
section
variable {X:Cx}{aA:Dz}{σ:List (Option V)}{H H':Hp}{s:Shared}{h':Heap}
theorem Cx.Ok.nofr (ok:X.Ok)(e:X.base.get? b=some o):b∉X.fs:=λy=>by
 have:=(ok.funs.mem y).1
 rw[e]at this;cases this
theorem Inv.bs (I:Inv X aA σ H s):∀b o,X.base.get? b=some o->s.heap.get? b=some o/\H b=none:=λb o e=>
 ⟨I.base.keep b o (I.ok.bs b o e).1 (I.ok.bs b o e).2 (I.ok.nofr e) (I.ok.noex b o e),I.base.free b o (I.ok.bs b o e).1 (I.ok.bs b o e).2 (I.ok.noex b o e)⟩
theorem Inv.bk (I:Inv X aA σ H s):∀b o,X.base.get? b=some o->s.heap.get? b=some o:=λb o e=>(I.bs b o e).1
theorem Inv.mod (I:Inv X aA σ H s):Mod X.K X.mg X.base:=I.ok.mod
theorem Inv.kIn (I:Inv X aA σ H s):X.K.In s.heap:=I.ok.mod.kin.keeps I.bk
theorem Inv.lt (I:Inv X aA σ H s):X.env.locals<s.heap.objs.size:=let ⟨_,e,_⟩:=I.loc;e.lt
theorem Inv.sz (I:Inv X aA σ H s):X.s₀.heap.objs.size<=s.heap.objs.size:=Ax I.ok.above (Cw I.lt)
theorem Inv.nofs (I:Inv X aA σ H s)(h:s.heap.objs.size<=a):a∉X.fs:=λe=>by
 obtain⟨_,o,ho,_⟩:=I.ok.funs.mem e;exact absurd (Ab8 (Ab3 ho) (Ax I.sz h)) (Ad9 _)
theorem Inv.cne (I:Inv X aA σ H s):∀x c,X.env.cells.lookup x=some c->c≠X.env.locals:=λx c e z=>by
 obtain⟨v,o,ho,k⟩:=I.cell x c e;obtain⟨m,⟨U,Y,j,w,y,_⟩,_⟩:=I.loc;rw[z,w]at ho;cases ho;rw[y]at k;cases k
theorem Inv.funs (I:Inv X aA σ H s):s.heap.FunFrames X.base X.outer:=by
 have all:∀(l:List Env),(∀b∈frs l,b∈X.fs)->X.s₀.heap.FunFrames X.base l->s.heap.FunFrames X.base l:=by
  intro l;induction l with
  | nil=>intro _ _;trivial
  | cons c r N=>
   intro j U;obtain⟨Y,⟨L,o,k,J,ho,m⟩,M⟩:=U;have y:L∈X.fs:=j L (by unfold frs;rw[Ay,k];exact Af)
   obtain⟨R,e⟩:=I.base.slot L o ho (I.ok.frf L y) y λz=>I.ok.exfs L z y
   exact⟨Y,⟨L,_,k,J,e,m⟩,N (λb w=>j b (by unfold frs;rw[Ay,k];exact Ad4 _ w)) M⟩
 exact all X.outer (λ_ w=>w) I.ok.funs
theorem Inv.stack (I:Inv X aA σ H s):s.heap.FunFrames X.base X.stack:=by
 rcases I.ok.stk with e | ⟨e,y⟩
 .rw[e];exact I.funs
 .rw[e];obtain⟨m,w,_⟩:=I.loc;refine .cons (by rw[I.ok.kind];decide) y w ?_ I.funs
  exact Heap.get?_none_of_le (Ax I.ok.bsz I.ok.above)
theorem Inv.stkSub (I:Inv X aA σ H s):∀b∈frs X.stack,b∈X.env.locals::X.fs:=λb y=>by
 rcases I.ok.stk with e | ⟨e,w⟩
 .rw[e]at y;exact Ad4 _ y
 .rw[e]at y;unfold frs at y;rw[Ay,w]at y;exact y
theorem Inv.stkFree (I:Inv X aA σ H s):∀b∈frs X.stack,H b=none:=λb hb=>by
 rcases Aa1.mp (I.stkSub b hb) with e | hb
 .rw[e];exact I.free
 .obtain⟨_,o,ho,_⟩:=I.ok.funs.mem hb;exact I.base.free b o ho (I.ok.frf b hb) λz=>I.ok.exfs b z hb
theorem Inv.step {g':Array GenState}{t':Nat}{d':Drawn}{ch:AL}(I:Inv X aA σ H s)
  (U:∀b∈ch,(b∈X.ex\/X.s₀.heap.objs.size<=b)/\b≠X.env.locals/\(∀x c,X.env.cells.lookup x=some c->c≠b)/\∀p∈X.pn++aA,p.1≠b)
  (keep:∀b o,b≠X.env.locals->b∉X.fs->b∉ch->s.heap.get? b=some o->H b=none->h'.get? b=some o)
  (slot:∀b o,b≠X.env.locals->b∈X.fs->b∉ch->s.heap.get? b=some o->H b=none->∃sl,h'.get? b=some {o with slots:=sl}) (j:∀b o,b∉ch->s.heap.get? b=some o->H b=none->H' b=none)
  (there:∀b o,b∉ch->s.heap.get? b=some o->∃o',h'.get? b=some o')
  (P:∀b xs,H b=some (.tup xs)->H' b=some (.tup xs)) (D:∀b o u,H b=some (.frz o u)->H' b=some (.frz o u)) (B:∀b ps,H b=some (.tbl ps)->∃more,H' b=some (.tbl (ps++more)))
  (ns:∀m,s.heap.Ns X.env.locals m->h'.Ns X.env.locals m) (hok:HOk X.prog X.w H' h') (hg:AllBare g') :
  Inv X aA σ H' {s with heap:=h',gens:=g',drawn:=d',toks:=t'}:=by
 have F:∀b o,X.s₀.heap.get? b=some o->b≠X.env.locals:=λb o e=>Ab9 (Ab8 (Ab3 e) I.ok.above)
 have N:∀b o,X.s₀.heap.get? b=some o->b∉X.ex->b∉ch:=λb o e y R=>by
  rcases (U b R).1 with z | z
  .exact y z
  .exact absurd (Ab8 (Ab3 e) z) (Ad9 _)
 have Y:∀x c,X.env.cells.lookup x=some c->∀v,s.heap.IsCell c v->h'.IsCell c v:=by
  rintro x c e v ⟨o,ho,hd⟩;have J:c∉ch:=λz=>(U c z).2.2.1 x c e rfl
  by_cases hc:c∈X.fs
  .obtain⟨sl,q⟩:=slot c o (I.cne x c e) hc J ho (I.freeC x c e);exact⟨_,q,hd⟩
  .exact⟨o,keep c o (I.cne x c e) hc J ho (I.freeC x c e),hd⟩
 refine⟨I.ok,I.os,hg,⟨λb o e n R y=>?_,λb o e n R y=>?_,λb o e n y=>?_,λb o e y=>?_,λb xs e=>P b xs (I.base.tups b xs e),λb o xs e=>D b o xs (I.base.frzs b o xs e),λb ps e=>?_⟩,?_,λx c e=>?_,?_,λx c e=>?_,λp hp=>?_,hok,I.len⟩
 .exact keep b o (F b o e) R (N b o e y) (I.base.keep b o e n R y) (I.base.free b o e n y)
 .obtain⟨sl,M⟩:=I.base.slot b o e n R y;obtain⟨sl',Q⟩:=slot b _ (F b o e) R (N b o e y) M (I.base.free b o e n y);exact⟨sl',Q⟩
 .obtain⟨o',M⟩:=I.base.there b o e y;exact j b o' (N b o e y) M (I.base.free b o e n y)
 .obtain⟨o',M⟩:=I.base.there b o e y;exact there b o' (N b o e y) M
 .obtain⟨m1,M⟩:=I.base.tbls b ps e;obtain⟨m2,Q⟩:=B b _ M;exact⟨m1++m2,by rw[Q,Array.append_assoc]⟩
 .obtain⟨m,hn,hl⟩:=I.loc;refine⟨m,ns m hn,λi x v M Q e3=>?_⟩
  obtain⟨u,r,l⟩:=hl i x v M Q e3;refine⟨u,r,?_⟩;rcases l with l | ⟨k,c,e,z⟩
  .exact .inl l
  .exact .inr ⟨k,c,e,Y x c e _ z⟩
 .obtain⟨v,z⟩:=I.cell x c e;exact⟨v,Y x c e v z⟩
 .obtain⟨m,⟨o,_,_,ho,_⟩,_⟩:=I.loc;exact j _ o (λz=>(U _ z).2.1 rfl) ho I.free
 .obtain⟨v,o,ho,hd⟩:=I.cell x c e;exact j c o (λz=>(U c z).2.2.1 x c e rfl) ho (I.freeC x c e)
 .obtain⟨e,n,ne,nf,d⟩:=I.pin p hp;have J:p.1∉ch:=λz=>(U p.1 z).2.2.2 p hp rfl
  exact⟨keep p.1 p.2 ne nf J e n,j p.1 p.2 J e n,ne,nf,d⟩
theorem Inv.un {t':Nat}(I:Inv X aA σ H s)(u:Un X.fs [] H H' s.heap h')(Y:HOk X.prog X.w H' h'):Inv X aA σ H' {s with heap:=h',toks:=t'}:=by
 obtain⟨m,⟨o,R,N,ho,r⟩,_⟩:=id I.loc;obtain⟨F,U⟩:=u.any ho I.free (by simp)
 exact I.step (g':=s.gens) (d':=s.drawn) (ch:=[]) (λ_ z=>nomatch z) (λb o _ c _ e n=>u.keep b o e n c (by simp)) (λb o _ c _ e n=>u.slot b o e n c (by simp)) (λb o _ e n=>u.free b o e n (by simp)) (λb o _ e=>u.there b o e (by simp)) u.tups u.frzs u.tbls (λQ J=>by
  obtain⟨D,j,k,y,M⟩:=J;rw[ho]at y;cases y;exact⟨_,j,k,U,M⟩) Y I.bare
theorem Inv.call {g':Array GenState}{t':Nat}{d':Drawn}{ch:AL}(I:Inv X aA σ H s)(u:Un (frs X.stack) ch H H' s.heap h')(M:HOk X.prog X.w H' h')(R:AllBare g')
  (k:∀b∈ch,(b∈X.ex\/X.s₀.heap.objs.size<=b)/\b≠X.env.locals/\(∀x c,X.env.cells.lookup x=some c->c≠b)/\∀p∈X.pn++aA,p.1≠b) :
  Inv X aA σ H' {s with heap:=h',gens:=g',drawn:=d',toks:=t'}:=by
 obtain⟨m,⟨o,B,F,ho,r⟩,_⟩:=id I.loc;obtain⟨sl,J⟩:=u.any ho I.free λz=>(k _ z).2.1 rfl
 exact I.step (ch:=ch) k (λb o J N y e n=>u.keep b o e n (λz=>(Aa1.mp (I.stkSub b z)).elim J N) y) (λb o _ _ y e n=>u.any e n y) (λb o y e n=>u.free b o e n y) (λb o y e=>u.there b o e y) u.tups u.frzs u.tbls (λP Q=>by
  obtain⟨o',U,Y,j,D⟩:=Q;rw[ho]at j;cases j;exact⟨_,U,Y,J,D⟩) M R
theorem Inv.turned {t':Nat}{it:Addr}(I:Inv X aA σ H s)(k:∀b o,b≠it->s.heap.get? b=some o->h'.get? b=some o)(Q:H it=none)(j:it≠X.env.locals)
  (h1:it∈X.ex\/X.s₀.heap.objs.size<=it) (J:∀x c,X.env.cells.lookup x=some c->c≠it) (M:∀p∈X.pn++aA,p.1≠it):Inv X aA σ H {s with heap:=h',toks:=t'}:=by
 have w:∀b u,H b=some u->b≠it:=λb u e z=>by rw[z,Q]at e;cases e
 refine I.step (g':=s.gens) (d':=s.drawn) (ch:=[it]) (λb N=>?_) (λb o _ _ y e _=>k b o (λz=>y (by simp[z])) e) (λb o _ _ y e _=>⟨o.slots,k b o (λz=>y (by simp[z])) e⟩) (λ_ _ _ _ n=>n)
  (λb o y e=>⟨o,k b o (λz=>y (by simp[z])) e⟩) (λ_ _ e=>e) (λ_ _ _ e=>e) (λb ps e=>⟨#[],by rw[e];simp⟩) (λm R=>?_) (λb u e=>?_) I.bare
 .have e:b=it:=by simpa using N
  subst e;exact⟨h1,j,J,M⟩
 .obtain⟨o,U,Y,ho,r⟩:=R;exact⟨o,U,Y,k _ o (Ne.symm j) ho,r⟩
 .refine(I.hok b u e).stay (λc v y q=>k c v ?_ q) (λ_ q=>q) λ_ _ q=>q
  rcases y with z | z
  .rw[z];exact w b u e
  .exact w c _ z
theorem Inv.tok (I:Inv X aA σ H s)(t:Nat):Inv X aA σ H {s with toks:=t}:=I.un (h':=s.heap) (t':=t) Un.refl I.hok
theorem Inv.kept (I:Inv X aA σ H s)(k:∀b u,s.heap.get? b=some u->h'.get? b=some u):Inv X aA σ H {s with heap:=h',toks:=t'}:=I.un (Un.kept k) (I.hok.kept k)
theorem Inv.laid (I:Inv X aA σ H s)(k:∀b u,s.heap.get? b=some u->h'.get? b=some u)(hp:s.heap.objs.size<=a)(e:ObjOk X.prog X.w (upd H a o) h' a o) :
  Inv X aA σ (upd H a o) {s with heap:=h',toks:=t'}:=I.un (Un.laid k hp (I.hok.fresh hp)) (I.hok.laid k hp e)
theorem Inv.write (I:Inv X aA σ H s)(c:Mut (H x))(j:e=x\/H e=some (.own x))(k:∀b u,b≠e->s.heap.get? b=some u->h'.get? b=some u)(y:∃u,h'.get? e=some u)
  (z:ObjOk X.prog X.w (upd H x o) h' x o):Inv X aA σ (upd H x o) {s with heap:=h',toks:=t'}:=I.un (Un.write c j k y) (I.hok.write c j k y z)
theorem Inv.weak {σ':List (Option V)}(I:Inv X aA σ H s)(j:σ'.length=σ.length)(w:∀(i:Nat) v,σ'[i]? = some (some v)->σ[i]? = some (some v)):Inv X aA σ' H s:=
 ⟨I.ok,I.os,I.bare,I.base,let ⟨m,c,e⟩:=I.loc;⟨m,c,λi x v y z k=>e i x v y (w i v z) k⟩,I.cell,I.free,I.freeC,I.pin,I.hok,j.trans I.len⟩
theorem Inv.pins_of (I:Inv X aA σ H s)(h:∀p∈pins',s.heap.get? p.1=some p.2/\H p.1=none/\p.1≠X.env.locals/\p.1∉X.fs/\∀v,p.2.data≠.cell v):Inv X pins' σ H s:=
 ⟨I.ok,I.os,I.bare,I.base,I.loc,I.cell,I.free,I.freeC,λp hp=>(Aa0.mp hp).elim (λz=>I.pin p (Cf _ z)) (h p),I.hok,I.len⟩
theorem bR4 {N:AH}(w:N.Nodup){i j:Nat}{x:Str}(a:N[i]? = some x)(b:N[j]? = some x):i=j:=by
 obtain⟨h1,e⟩:=Ab0.mp a;obtain⟨z,y⟩:=Ab0.mp b;exact(List.getElem_inj w).mp (e.trans y.symm)
theorem bK4 (I:Inv X aA σ H s)(hN:X.N.Nodup)(hi:X.N[i]? = some x)(R:Loc X.env.scope x)(r:RelV v u)
  (h:∀s',Inv X aA (σ.set i (some v)) H s'->(∃a,Heap.SameBut a s.heap s'.heap/\(a=X.env.locals\/X.env.cells.lookup x=some a))->Q () s') (hf:X.fn x=true\/X.env.scope.names.lookup x=some .local:=by first | exact .inl rfl | exact .inr rfl | assumption):wpAny M A (storeName X.env x u) Q E s:=by
 obtain⟨m,hn,hl⟩:=id I.loc;have hcls:(X.env.scope.kind == .class||(X.env.scope.kind == .module&&X.env.locals != X.env.globals))=false:=by rw[I.ok.kind];rfl
 have hiσ:i<σ.length:=by rw[I.len];exact(Ab0.mp hi).1
 have cne:=I.cne
 have J:∀{a:Addr} {h':Heap},(∃o,s.heap.get? a=some o/\H a=none)->Heap.SameBut a s.heap h'->HOk X.prog X.w H h':=λ{a h'} ha Y b ob e=>by
  obtain⟨_,_,D⟩:=ha;refine(I.hok b ob e).stay (λc w' hc q=>(Y.2 c ?_).trans q) (λ_ q=>q) λ_ _ q=>q
  rintro rfl;rcases hc with rfl | hc
  .rw[D]at e;cases e
  .rw[D]at hc;cases hc
 rcases R with hk | hk
 .refine wpAny_storeName_local hk hn (λh' hn' Y=>?_) hcls
  obtain⟨oL,_,_,hoL,_⟩:=id hn;refine h _ ⟨I.ok,I.os,I.bare,⟨λb o e n B R=>?_,λb o e n B R=>?_,I.base.free,λb o e R=>?_,I.base.tups,I.base.frzs,I.base.tbls⟩,⟨_,hn',λj y v' U F e3=>?_⟩,λy c e=>?_,I.free,I.freeC,λp hp=>?_,J ⟨oL,hoL,I.free⟩ Y,by simpa using I.len⟩ ⟨_,Y,.inl rfl⟩
  .exact(Y.2 b (Ab9 (Ab8 (Ab3 e) I.ok.above))).trans (I.base.keep b o e n B R)
  .obtain⟨sl,U⟩:=I.base.slot b o e n B R;exact⟨sl,(Y.2 b (Ab9 (Ab8 (Ab3 e) I.ok.above))).trans U⟩
  .obtain⟨o',U⟩:=I.base.there b o e R;exact⟨o',(Y.2 b (Ab9 (Ab8 (Ab3 e) I.ok.above))).trans U⟩
  .by_cases hj:j=i
   .subst hj;rw[hi]at U;cases U;rw[As hiσ]at F;cases F;exact⟨u,r,.inl ⟨hk,by simp⟩⟩
   .rw[Ad0 (Ne.symm hj)]at F;obtain⟨u',r',q⟩:=hl j y v' U F e3;refine⟨u',r',?_⟩;rcases q with⟨k,e⟩ | ⟨k,c,e,z⟩
    .refine .inl ⟨k,?_⟩
     have:y≠x:=λe=>hj (bR4 hN U (e▸hi))
     simp[this,e]
    .exact .inr ⟨k,c,e,z.sameBut Y (cne y c e)⟩
  .obtain⟨w',z⟩:=I.cell y c e;exact⟨w',z.sameBut Y (cne y c e)⟩
  .obtain⟨e,n,ne,nf,d⟩:=I.pin p hp;exact⟨(Y.2 p.1 ne).trans e,n,ne,nf,d⟩
 .have P:X.fn x=true:=by
   rcases hf with z | z
   .exact z
   .rw[z]at hk;cases hk
  obtain⟨c,hc⟩:=I.ok.has x (.inl hk);obtain⟨w',z⟩:=I.cell x c hc;refine wpAny_storeName_cell I.ok.kind hk hc z (λh' hc' Y=>?_)
  obtain⟨oc,hoc,hocd⟩:=id z;refine h {s with heap:=h'} ⟨I.ok,I.os,I.bare,⟨λb o e n B R=>?_,λb o e n B R=>?_,I.base.free,λb o e R=>?_,I.base.tups,I.base.frzs,I.base.tbls⟩,⟨m,hn.sameBut Y (Ne.symm (cne x c hc)),λj y v' U F e3=>?_⟩,λy c' e=>?_,I.free,I.freeC,λp hp=>?_,J ⟨oc,hoc,I.freeC x c hc⟩ Y,by simpa using I.len⟩ ⟨c,Y,.inr hc⟩
  .exact(Y.2 b (Ab9 (Ab8 (Ab3 e) (I.ok.cab x c P hc)))).trans (I.base.keep b o e n B R)
  .obtain⟨sl,U⟩:=I.base.slot b o e n B R;exact⟨sl,(Y.2 b (Ab9 (Ab8 (Ab3 e) (I.ok.cab x c P hc)))).trans U⟩
  .obtain⟨o',U⟩:=I.base.there b o e R;exact⟨o',(Y.2 b (Ab9 (Ab8 (Ab3 e) (I.ok.cab x c P hc)))).trans U⟩
  .by_cases hj:j=i
   .subst hj;rw[hi]at U;cases U;rw[As hiσ]at F;cases F;exact⟨u,r,.inr ⟨.inl hk,c,hc,hc'⟩⟩
   .rw[Ad0 (Ne.symm hj)]at F;obtain⟨u',r',q⟩:=hl j y v' U F e3;refine⟨u',r',?_⟩;rcases q with q | ⟨k,c',e,z'⟩
    .exact .inl q
    .refine .inr ⟨k,c',e,z'.sameBut Y ?_⟩;rintro rfl;exact hj (bR4 hN U (I.ok.inj _ _ _ e hc▸hi))
  .by_cases hcc:c'=c
   .subst hcc;exact⟨_,hc'⟩
   .obtain⟨w2,z2⟩:=I.cell y c' e;exact⟨w2,z2.sameBut Y hcc⟩
  .obtain⟨e,n,ne,nf,d⟩:=I.pin p hp;refine⟨(Y.2 p.1 ?_).trans e,n,ne,nf,d⟩;intro q;rw[q,hoc]at e;have q':oc=p.2:=Ab4 e;exact d w' (by rw[<- q'];exact hocd)
theorem aE4 (I:Inv X aA σ H s)(y:X.N.Nodup)(hi:X.N[i]? = some x)(z:Loc X.env.scope x)(r:RelV v u)
  (h:∀s',Inv X aA (σ.set i (some v)) H s'->Q () s') (w:X.fn x=true\/X.env.scope.names.lookup x=some .local:=by first | exact .inl rfl | exact .inr rfl | assumption):wpAny M A (storeName X.env x u) Q E s:=
 bK4 I y hi z r (λs' e _=>h s' e) w
theorem Inv.call' {s':Shared}{ch:AL}(I:Inv X aA σ H s)(ho:s'.os=s.os)(u:Un (frs X.stack) ch H H' s.heap s'.heap)(z:HOk X.prog X.w H' s'.heap)(k:AllBare s'.gens)
  (y:∀b∈ch,(b∈X.ex\/X.s₀.heap.objs.size<=b)/\b≠X.env.locals/\(∀x c,X.env.cells.lookup x=some c->c≠b)/\∀p∈X.pn++aA,p.1≠b):Inv X aA σ H' s':=by
 obtain⟨h',g',d',t',j⟩:=s';have e:j=s.os:=ho;subst e;exact I.call (g':=g') (t':=t') (d':=d') u z k y
end
abbrev XK:=Value->AK->Hp->Prop
abbrev St:=List (Option V)
abbrev VK:=V->Hp->Prop
abbrev TE:=St->Hp->VK->Prop
abbrev TT:=St->Hp->(Bool->Hp->Prop)->Prop
abbrev TA:=St->Hp->(List V->Hp->Prop)->Prop
structure aZ5 where
 nx:St->Hp->Prop
 rt:VK
 bk:St->Hp->Prop:=λ_ _=>False
 ct:St->Hp->Prop:=λ_ _=>False
abbrev TS:=aZ5->St->Hp->Prop
def EP (X:Cx)(aA:Dz)(σ:St)(Q:VK)(u:Value)(s':Shared):Prop:=∃v H',Inv X aA σ H' s'/\RelV v u/\Q v H'
def TP (X:Cx)(aA:Dz)(σ:St)(Q:Bool->Hp->Prop)(b:Bool)(s':Shared):Prop:=∃H',Inv X aA σ H' s'/\Q b H'
def AP (X:Cx)(aA:Dz)(σ:St)(Q:List V->Hp->Prop)(us:AG)(s':Shared):Prop:=∃vs H',Inv X aA σ H' s'/\Vals vs us/\Q vs H'
def SP (X:Cx)(aA:Dz)(D:aZ5)(f:Flow)(s':Shared):Prop:=
 match f with
 | .next=>∃σ' H',Inv X aA σ' H' s'/\D.nx σ' H'
 | .brk=>∃σ' H',Inv X aA σ' H' s'/\D.bk σ' H'
 | .cont=>∃σ' H',Inv X aA σ' H' s'/\D.ct σ' H'
 | .ret u=>∃v σ' H',Inv X aA σ' H' s'/\RelV v u/\D.rt v H'
structure PE (X:Cx)(e:Expr)(t:TE):Prop where
 mk ::
 run :
  ∀(aA:Dz) (s:Shared) (σ:St) (H:Hp) (Q:VK),Inv X aA σ H s->t σ H Q->wpAny (model X.prog X.w) X.A (eval e X.env) (EP X aA σ Q) X.xe s
instance {X:Cx} {e:Expr} {t:TE}:CoeFun (PE X e t) λ_=>
 (∀(aA:Dz) (s:Shared) (σ:St) (H:Hp) (Q:VK),Inv X aA σ H s->t σ H Q->wpAny (model X.prog X.w) X.A (eval e X.env) (EP X aA σ Q) X.xe s):=⟨PE.run⟩
structure PT (X:Cx)(e:Expr)(t:TT):Prop where
 mk ::
 run :
  ∀(aA:Dz) (s:Shared) (σ:St) (H:Hp) (Q:Bool->Hp->Prop),Inv X aA σ H s->t σ H Q->wpAny (model X.prog X.w) X.A (isTrue e X.env (eval e X.env)) (TP X aA σ Q) X.xe s
instance {X:Cx} {e:Expr} {t:TT}:CoeFun (PT X e t) λ_=>
 (∀(aA:Dz) (s:Shared) (σ:St) (H:Hp) (Q:Bool->Hp->Prop),Inv X aA σ H s->t σ H Q->wpAny (model X.prog X.w) X.A (isTrue e X.env (eval e X.env)) (TP X aA σ Q) X.xe s):=⟨PT.run⟩
structure PW (X:Cx)(e:Expr)(t:TT):Prop where
 mk ::
 run :
  ∀(whole:Sem Value) (aA:Dz) (s:Shared) (σ:St) (H:Hp) (Q:Bool->Hp->Prop),Inv X aA σ H s->t σ H Q->wpAny (model X.prog X.w) X.A (isTrue e X.env whole) (TP X aA σ Q) X.xe s
instance {X:Cx} {e:Expr} {t:TT}:CoeFun (PW X e t) λ_=>
 (∀(whole:Sem Value) (aA:Dz) (s:Shared) (σ:St) (H:Hp) (Q:Bool->Hp->Prop),Inv X aA σ H s->t σ H Q->wpAny (model X.prog X.w) X.A (isTrue e X.env whole) (TP X aA σ Q) X.xe s):=⟨PW.run⟩
theorem PW.pt (h:PW X e t):PT X e t:=⟨h _⟩
structure PA (X:Cx)(es:AM)(t:TA):Prop where
 mk ::
 run :
  ∀(pos:Pos) (aA:Dz) (s:Shared) (σ:St) (H:Hp) (Q:List V->Hp->Prop),Inv X aA σ H s->t σ H Q->wpAny (model X.prog X.w) X.A (spliced (backTo pos (starEach es X.env))) (AP X aA σ Q) X.xe s
instance {X:Cx} {es:AM} {t:TA}:CoeFun (PA X es t) λ_=>
 (∀(pos:Pos) (aA:Dz) (s:Shared) (σ:St) (H:Hp) (Q:List V->Hp->Prop),Inv X aA σ H s->t σ H Q->wpAny (model X.prog X.w) X.A (spliced (backTo pos (starEach es X.env))) (AP X aA σ Q) X.xe s):=⟨PA.run⟩
structure PS (X:Cx)(st:Stmt)(t:TS):Prop where
 mk ::
 run :
  ∀(aA:Dz) (s:Shared) (σ:St) (H:Hp) (D:aZ5),Inv X aA σ H s->t D σ H->wpAny (model X.prog X.w) X.A (exec st X.env) (SP X aA D) X.xe s
instance {X:Cx} {st:Stmt} {t:TS}:CoeFun (PS X st t) λ_=>
 (∀(aA:Dz) (s:Shared) (σ:St) (H:Hp) (D:aZ5),Inv X aA σ H s->t D σ H->wpAny (model X.prog X.w) X.A (exec st X.env) (SP X aA D) X.xe s):=⟨PS.run⟩
structure PSs (X:Cx)(st:List Stmt)(t:TS):Prop where
 mk ::
 run :
  ∀(aA:Dz) (s:Shared) (σ:St) (H:Hp) (D:aZ5),Inv X aA σ H s->t D σ H->wpAny (model X.prog X.w) X.A (execs st X.env) (SP X aA D) X.xe s
instance {X:Cx} {st:List Stmt} {t:TS}:CoeFun (PSs X st t) λ_=>
 (∀(aA:Dz) (s:Shared) (σ:St) (H:Hp) (D:aZ5),Inv X aA σ H s->t D σ H->wpAny (model X.prog X.w) X.A (execs st X.env) (SP X aA D) X.xe s):=⟨PSs.run⟩
theorem thn (h:wpAny M A t Q E s)(e:∀a s,Q a s->Q' a s):wpAny M A t Q' E s:=wpAny_mono h e λ_ _ x=>x
section
def F0 (i:Nat):TE:=λσ H Q=>∃v,σ[i]? = some (some v)/\Q v H
def tC (v:V):TE:=λ_ H Q=>Q v H
theorem dB0 (U:X.N[i]? = some x)(D:Vis X.env.scope x)(k:(x==("__debug__" : Str))=false:=by decide)(z:(x==("__classdict__" : Str))=false:=by decide):PE X (.Name x pos) (F0 i):=by
 refine⟨?_⟩;intro Y s σ H Q I h;obtain⟨v,e,h⟩:=h;obtain⟨m,R,J⟩:=I.loc;obtain⟨u,r,l⟩:=J i x v U e D;have w:EP X Y σ Q u s:=⟨v,H,I,r,h⟩;rcases l with⟨hk,M⟩ | ⟨hk,c,j,y⟩
 .exact wpAny_Name (wpAny_loadName_local I.ok.kind hk R M w) k
 .rcases hk with hk | hk
  .exact wpAny_Name (wpAny_loadName_cell I.ok.kind hk j y w) k
  .exact wpAny_Name (wpAny_loadName_free I.ok.kind hk j y w z) k
theorem A4:PE X (.Constant (.int i) j pos) (tC (.int i)):=⟨λ_ _ _ H _ I h=>wpAny_Constant_int ⟨.int i,H,I.tok _,⟨_,rfl⟩,h⟩⟩
theorem Z0:PE X (.Constant (.bool b) j pos) (tC (.bl b)):=⟨λ_ _ _ H _ I h=>Constant_bool ⟨.bl b,H,I,rfl,h⟩⟩
theorem aJ9:PE X (.Constant .none j pos) (tC .non):=⟨λ_ _ _ H _ I h=>Constant_none ⟨.non,H,I,rfl,h⟩⟩
theorem L5:PE X (.Constant (.str x) j pos) (tC (.str x)):=⟨λ_ _ _ H _ I h=>Calls.Constant_str ⟨.str x,H,I.tok _,⟨_,rfl⟩,h⟩⟩
def Gl (X:Cx)(x:Str):Prop:=X.env.kindOf x=some .globalImplicit
theorem j7 (I:Inv X aA σ H s)(y:Gl X x)(z:X.mg x=some u)(h:Q u s)
  (e:(x==("__debug__" : Str))=false:=by decide):wpAny (model X.prog X.w) X.A (eval (.Name x pos) X.env) Q E s:=
 Calls.Name_function_global I.ok.kind y (Calls.loadGlobal_global (by rw[I.ok.glob];exact I.mod.glob.keeps I.bk) z h) e
theorem t8 (I:Inv X aA σ H s)(z:Gl X x)(k:X.mg x=none)(c:bootBuiltins x=some u)(h:Q u s)
  (j:x≠"__name__" := by decide) (y:(x==("__debug__" : Str))=false:=by decide):wpAny (model X.prog X.w) X.A (eval (.Name x pos) X.env) Q E s:=by
 obtain⟨m,h1,e⟩:=I.mod.blt;exact Calls.Name_function_global I.ok.kind z (Calls.loadGlobal_builtin (by rw[I.ok.glob];exact I.mod.glob.keeps I.bk) k (by rw[I.ok.blt];exact h1.keeps I.bk) ((e x j).trans c) h) y
theorem N6 (y:Gl X x)(w:X.mg x=some u)(r:RelV v u)(e:(x==("__debug__" : Str))=false:=by decide):PE X (.Name x pos) (tC v):=⟨λ_ _ _ H _ I h=>j7 I y w ⟨v,H,I,r,h⟩ e⟩
theorem dN1 (y:Gl X x)(w:X.mg x=none)(k:bootBuiltins x=some u)(r:RelV v u)(z:x≠"__name__" := by decide)(e:(x==("__debug__" : Str))=false:=by decide):PE X (.Name x pos) (tC v):=⟨λ_ _ _ H _ I h=>t8 I y w k ⟨v,H,I,r,h⟩ z e⟩
def t2I (ta tb:TE)(k:Int->Int->Hp->Prop):St->Hp->Prop:=λσ H=>ta σ H λx H1=>tb σ H1 λy H2=>∃i j,x=.int i/\y=.int j/\k i j H2
structure PC (X:Cx)(op:CmpOp)(a b:Expr)(t:TE):Prop where
 mk ::
 run :
  ∀(aA:Dz) (s:Shared) (σ:St) (H:Hp) (Q:VK),Inv X aA σ H s->t σ H Q ->
   wpAny (model X.prog X.w) X.A (eval a X.env) (λv s₁=>wpAny (model X.prog X.w) X.A (eval b X.env) (λu s₂=>wpAny (model X.prog X.w) X.A (compareOp op v u) (EP X aA σ Q) X.xe s₂) X.xe s₁) X.xe s
instance {X:Cx} {op:CmpOp} {a b:Expr} {t:TE}:CoeFun (PC X op a b t) λ_=>
 (∀(aA:Dz) (s:Shared) (σ:St) (H:Hp) (Q:VK),Inv X aA σ H s->t σ H Q ->
  wpAny (model X.prog X.w) X.A (eval a X.env) (λv s₁=>wpAny (model X.prog X.w) X.A (eval b X.env) (λu s₂=>wpAny (model X.prog X.w) X.A (compareOp op v u) (EP X aA σ Q) X.xe s₂) X.xe s₁) X.xe s):=⟨PC.run⟩
def cN7 (p:Int->Int->Bool)(ta tb:TE):TE:=λσ H Q=>t2I ta tb (λi j H2=>Q (.bl (p i j)) H2) σ H
abbrev tLt:TE->TE->TE:=cN7 λi j=>decide (i<j)
abbrev tLe:TE->TE->TE:=cN7 λi j=>decide (i<=j)
abbrev tGt:TE->TE->TE:=cN7 λi j=>decide (j<i)
abbrev tGe:TE->TE->TE:=cN7 λi j=>decide (j<=i)
abbrev eM1:TE->TE->TE:=cN7 λi j=>decide (i=j)
abbrev eM0:TE->TE->TE:=cN7 λi j => !decide (i=j)
def tB (t:TE):TT:=λσ H Q=>t σ H λx H1=>∃c,x=.bl c/\Q c H1
theorem V1 {e:Expr}{t:TE}(h:PE X e t)(k:∀whole,isTrue e X.env whole=(do let v <- whole;standAt e.pos;holding [v] (truthy v)):=by intro _;rfl):PT X e (tB t):=by
 refine⟨?_⟩;intro z s σ H Q I j;refine isTrue_plain (thn (h z s σ H _ I j) λv U c=>?_) (k _)
 obtain⟨x,y,w,Y,m⟩:=c;obtain⟨d,rfl,q⟩:=m;cases Y;exact wpAny_truthy_bool ⟨y,w,q⟩
def eG1 (t u:TT):TT:=λσ H Q=>t σ H λc H1=>if c=true then u σ H1 Q else Q false H1
def tOr (t u:TT):TT:=λσ H Q=>t σ H λc H1=>if c=true then Q true H1 else u σ H1 Q
def eD8 (t:TT):TT:=λσ H Q=>t σ H λc H1=>Q (!c) H1
theorem aM2 (w:PT X a tA):PW X (.BoolOp .And [a] pos) tA:=by
 refine⟨?_⟩;intro k y s σ H Q I h;refine isTrue_and (thn (w y s σ H Q I h) λc z e=>?_)
 cases c with
 | true=>exact isTrue_and_nil e
 | false=>exact e
theorem aI5 (w:PT X a tA):PW X (.BoolOp .Or [a] pos) tA:=by
 refine⟨?_⟩;intro k y s σ H Q I h;refine isTrue_or (thn (w y s σ H Q I h) λc z e=>?_)
 cases c with
 | false=>exact isTrue_or_nil e
 | true=>exact e
theorem bB5 (k:PT X a tA)(j:PW X (.BoolOp .And (b::rest) pos) tB'):PW X (.BoolOp .And (a::b::rest) pos) (eG1 tA tB'):=by
 refine⟨?_⟩;intro U w s σ H Q I h;refine isTrue_and (thn (k w s σ H _ I h) λc Y m=>?_)
 obtain⟨e,y,z⟩:=m;cases c with
 | true=>exact j U w Y σ e Q y z
 | false=>exact⟨e,y,z⟩
theorem aT6 (k:PT X a tA)(j:PW X (.BoolOp .Or (b::rest) pos) tB'):PW X (.BoolOp .Or (a::b::rest) pos) (tOr tA tB'):=by
 refine⟨?_⟩;intro U w s σ H Q I h;refine isTrue_or (thn (k w s σ H _ I h) λc Y m=>?_)
 obtain⟨e,y,z⟩:=m;cases c with
 | true=>exact⟨e,y,z⟩
 | false=>exact j U w Y σ e Q y z
theorem aA1 (w:PT X a tA):PT X (.UnaryOp .Not a pos) (eD8 tA):=by
 refine⟨?_⟩;intro y s σ H Q I h;exact isTrue_not (w y s σ H (λc e=>Q (!c) e) I h)
def dQ2 (ta tb:TE):TE:=λσ H Q=>ta σ H λx H1=>∃c,x=.bl c/\if c=true then tb σ H1 Q else Q (.bl false) H1
def eK4 (ta tb:TE):TE:=λσ H Q=>ta σ H λx H1=>∃c,x=.bl c/\if c=true then Q (.bl true) H1 else tb σ H1 Q
def dQ1 (ta:TE):TE:=λσ H Q=>ta σ H λx H1=>∃c,x=.bl c/\Q (.bl (!c)) H1
theorem aJ2 (h:PE X a t):PE X (.BoolOp op [a] pos) t:=⟨λe s σ H Q I y=>BoolOp_one (h e s σ H Q I y)⟩
theorem bL3 (k:PE X a ta)(j:PE X (.BoolOp .And (b::rest) pos) tb):PE X (.BoolOp .And (a::b::rest) pos) (dQ2 ta tb):=by
 refine⟨?_⟩;intro z s σ H Q I h;refine BoolOp_and (thn (k z s σ H _ I h) λv U m=>?_)
 obtain⟨x,y,w,Y,e⟩:=m;obtain⟨c,rfl,e⟩:=e;cases Y;refine wpAny_truthy_bool ?_;cases c with
 | true=>exact j z U σ y Q w e
 | false=>exact⟨.bl false,y,w,rfl,e⟩
theorem dD0 (k:PE X a ta)(j:PE X (.BoolOp .Or (b::rest) pos) tb):PE X (.BoolOp .Or (a::b::rest) pos) (eK4 ta tb):=by
 refine⟨?_⟩;intro z s σ H Q I h;refine BoolOp_or (thn (k z s σ H _ I h) λv U m=>?_)
 obtain⟨x,y,w,Y,e⟩:=m;obtain⟨c,rfl,e⟩:=e;cases Y;refine wpAny_truthy_bool ?_;cases c with
 | false=>exact j z U σ y Q w e
 | true=>exact⟨.bl true,y,w,rfl,e⟩
theorem cY3 (k:PE X a ta):PE X (.UnaryOp .Not a pos) (dQ1 ta):=by
 refine⟨?_⟩;intro z s σ H Q I h;refine UnaryOp_ (thn (k z s σ H _ I h) λv Y j=>?_)
 obtain⟨x,y,w,m,e⟩:=j;obtain⟨c,rfl,e⟩:=e;cases m;exact not_of (wpAny_truthy_bool ⟨.bl (!c),y,w,rfl,e⟩)
def tIf (t:TT)(ta tb:TE):TE:=λσ H Q=>t σ H λc H1=>if c=true then ta σ H1 Q else tb σ H1 Q
theorem bT8 (Y:PT X c tA)(j:PE X a ta)(m:PE X b tb):PE X (.IfExp c a b pos) (tIf tA ta tb):=by
 refine⟨?_⟩;intro e s σ H Q I h;refine wpAny_IfExp (thn (Y e s σ H _ I h) λd k U=>?_)
 obtain⟨y,w,z⟩:=U;cases d with
 | true=>exact j e k σ y Q w z
 | false=>exact m e k σ y Q w z
end
def SqL (K:Frag)(H:Hp)(a:Addr)(xs:List V):Prop:=
 Rd H a (.lst xs) \/
  ∃(o:Obj) (its:AJ) (n:Nat),K.lookup a=some o/\o.cls=.type "list" /\ o.dict=none/\o.data=.seq its n/\its.size<=sizeLine/\Vals xs its.toList
def SqT (K:Frag)(H:Hp)(a:Addr)(xs:List V):Prop:=
 Rd H a (.tup xs) \/
  ∃(o:Obj) (its:AJ) (n:Nat),K.lookup a=some o/\o.cls=.type "tuple" /\ o.dict=none/\o.data=.seq its n/\its.size<=sizeLine/\Vals xs its.toList
def eL4:Value->Option V
 | .none=>some .non
 | .bool b=>some (.bl b)
 | .int i _=>some (.int i)
 | .str x _=>some (.str x)
 | .bytes b _=>some (.byt b)
 | .float b _=>some (.flt b)
 | .ref a=>some (.ref a)
 | .type n=>some (.ty n)
 | _=>none
theorem RelV.abs (r:RelV x u):eL4 u=some x:=by
 cases x with
 | non=>cases r;rfl
 | bl _=>cases r;rfl
 | int _=>obtain⟨t,rfl⟩:=r;rfl
 | str _=>obtain⟨t,rfl⟩:=r;rfl
 | byt _=>obtain⟨t,rfl⟩:=r;rfl
 | flt _=>obtain⟨t,rfl⟩:=r;rfl
 | ref _=>cases r;rfl
 | ty _=>cases r;rfl
theorem RelV.inj (r:RelV x u)(q:RelV y u):x=y:=Ab4 (r.abs.symm.trans q.abs)
theorem Vals.inj:∀{xs ys:List V} {us:AG},Vals xs us->Vals ys us->xs=ys
 | _,_,_,.nil,.nil=>rfl
 | _,_,_,.cons r t,.cons r' t'=>by rw[r.inj r',Vals.inj t t']
section
theorem SqL.of {K:Frag}(h:H a=some (.lst xs)):SqL K H a xs:=.inl (.inl h)
theorem SqT.of {K:Frag}(h:H a=some (.tup xs)):SqT K H a xs:=.inl (.inl h)
theorem Inv.list (I:Inv X aA σ H s)(h:SqL X.K H a xs):∃its:AG,Vals xs its/\PlainL s.heap a its.toArray/\xs.length<=sizeLine:=by
 rcases h with h | ⟨o,its,n,k,y,w,j,c,r⟩
 .obtain⟨z,its,n,r,e⟩:=h.ok I.hok;exact⟨its,r,⟨_,n,e,rfl,rfl,rfl⟩,z⟩
 .refine⟨its.toList,r,⟨o,n,I.kIn a o k,y,w,by simpa using j⟩,?_⟩
  have e:=r.length
  simp only[Bl]at e
  lia
theorem Inv.tuple0 (I:Inv X aA σ H s)(h:SqT X.K H a xs):∃its:AG,Vals xs its/\Tup0 s.heap a its.toArray/\xs.length<=sizeLine:=by
 rcases h with h | ⟨o,its,n,k,y,w,j,c,r⟩
 .obtain⟨z,its,r,p⟩:=h.ok I.hok;exact⟨its,r,p,z⟩
 .refine⟨its.toList,r,⟨o,I.kIn a o k,y,⟨n,by simpa using j⟩,w⟩,?_⟩
  have e:=r.length
  simp only[Bl]at e
  lia
theorem Inv.tuple (I:Inv X aA σ H s)(h:SqT X.K H a xs):∃its:AG,Vals xs its/\IsTup s.heap a its.toArray/\xs.length<=sizeLine:=by
 obtain⟨its,r,p,z⟩:=I.tuple0 h;exact⟨its,r,p.tup,z⟩
theorem Inv.list_inj (I:Inv X aA σ H s)(h:SqL X.K H a xs)(h':SqL X.K H a ys):xs=ys:=by
 obtain⟨its,r,⟨o,n,e,_,_,d⟩,_⟩:=I.list h;obtain⟨y,k,⟨c,j,e',_,_,w⟩,_⟩:=I.list h';rw[e]at e';cases e';rw[d]at w
 injection w with z _
 have:its=y:=by simpa using congrArg Array.toList z
 subst this;exact r.inj k
theorem Inv.tuple_inj (I:Inv X aA σ H s)(h:SqT X.K H a xs)(h':SqT X.K H a ys):xs=ys:=by
 obtain⟨its,r,⟨o,e,_,n,d⟩,_⟩:=I.tuple h;obtain⟨y,k,⟨c,e',_,j,w⟩,_⟩:=I.tuple h';rw[e]at e';cases e';rw[d]at w
 injection w with z _
 have:its=y:=by simpa using congrArg Array.toList z
 subst this;exact r.inj k
end
abbrev Cx.wish (X:Cx)(E:Dy):Cx:={X with xe:=E}
abbrev Cx.nox (X:Cx):Cx:=X.wish λ_ _=>False
theorem Cx.Ok.wish {X:Cx}(ok:X.Ok)(E:Dy):(X.wish E).Ok:=
 ⟨ok.mod,ok.kind,ok.glob,ok.blt,ok.above,ok.inj,ok.has,ok.cab,ok.hd,ok.frames,ok.stk,ok.exf,ok.bs,ok.bsz,ok.noex,ok.exfs,ok.funs,ok.frf⟩
theorem Cx.Ok.unwish {X:Cx}{E:Dy}(ok:(X.wish E).Ok):X.Ok:=
 ⟨ok.mod,ok.kind,ok.glob,ok.blt,ok.above,ok.inj,ok.has,ok.cab,ok.hd,ok.frames,ok.stk,ok.exf,ok.bs,ok.bsz,ok.noex,ok.exfs,ok.funs,ok.frf⟩
section
theorem Inv.wish (I:Inv X aA σ H s)(E:Dy):Inv (X.wish E) aA σ H s:=⟨I.ok.wish E,I.os,I.bare,I.base,I.loc,I.cell,I.free,I.freeC,I.pin,I.hok,I.len⟩
theorem Inv.unwish (I:Inv (X.wish E) aA σ H s):Inv X aA σ H s:=⟨I.ok.unwish,I.os,I.bare,I.base,I.loc,I.cell,I.free,I.freeC,I.pin,I.hok,I.len⟩
theorem SP.unwish {D:aZ5}{f:Flow}{s':Shared}(h:SP (X.wish E) aA D f s'):SP X aA D f s':=by
 cases f with
 | next=>obtain⟨y,e,I,q⟩:=h;exact⟨y,e,I.unwish,q⟩
 | brk=>obtain⟨y,e,I,q⟩:=h;exact⟨y,e,I.unwish,q⟩
 | cont=>obtain⟨y,e,I,q⟩:=h;exact⟨y,e,I.unwish,q⟩
 | ret u=>obtain⟨v,y,e,I,r,q⟩:=h;exact⟨v,y,e,I.unwish,r,q⟩
theorem PSs.nox {st:List Stmt}{t:TS}(h:PSs X.nox st t):PSs X st t:=⟨λe s σ H D I y=>
 wpAny_mono (h e s σ H D (I.wish _) y) (λ_ _ q=>q.unwish) λ_ _ z=>False.elim z⟩
end
section
variable {X:Cx}{st:Stmt}{rest:List Stmt}{t u:TS}{e:Expr}{te:TE}{pos:Pos}
def dS8:TS:=λD σ H=>D.nx σ H
def dT8 (t u:TS):TS:=λD σ H=>t {D with nx:=u D} σ H
theorem C5:PSs X [] dS8:=⟨λ_ _ σ H _ I h=>wpAny_execs_nil ⟨σ,H,I,h⟩⟩
theorem A3 (h1:PS X st t)(k:PSs X rest u):PSs X (st::rest) (dT8 t u):=by
 refine⟨?_⟩;intro y s σ H D I h;refine wpAny_execs_cons (thn (h1 y s σ H {D with nx:=u D} I h) λf j q=>?_)
 cases f with
 | next=>
  obtain⟨c,w,z,q⟩:=q;exact k y j c w D z q
 | ret v=>exact q
 | brk=>exact q
 | cont=>exact q
theorem A6 (h1:PS X st t):PSs X [st] t:=by
 refine⟨?_⟩;intro y s σ H D I h;refine wpAny_execs_cons (thn (h1 y s σ H D I h) λf w q=>?_)
 cases f with
 | next=>exact wpAny_execs_nil q
 | ret v=>exact q
 | brk=>exact q
 | cont=>exact q
theorem Inv.quiet (I:Inv X aA σ H s):interactive X.env=false:=by simp[interactive,I.ok.kind]
def bR3 (te:TE):TS:=λD σ H=>te σ H λ_ H1=>D.nx σ H1
theorem G7 (k:PE X e te)(j:swapsWith e none pos.line X.env=pure false:=by rfl):PS X (.Expr e pos) (bR3 te):=by
 refine⟨?_⟩;intro z s σ H D I h;exact wpAny_Expr_any (thn (k z s σ H _ I h) λv Y ⟨x,y,w,m,c⟩=>⟨σ,y,w,c⟩) I.quiet j
def dE0 (te:TE):TS:=λD σ H=>te σ H D.rt
theorem B7 (k:PE X e te):PS X (.Return (some e) pos) (dE0 te):=by
 refine⟨?_⟩;intro z s σ H D I h;exact wpAny_Return_some (thn (k z s σ H _ I h) λv m ⟨x,y,w,c,j⟩=>⟨x,σ,y,w,c,j⟩)
def cW1 (c:TT)(t u:TS):TS:=λD σ H=>c σ H λb H1=>if b=true then t D σ H1 else u D σ H1
theorem G9 (U:PT X c tc)(m:PSs X a t)(Y:PSs X b u):PS X (.If c a b pos) (cW1 tc t u):=by
 refine⟨?_⟩;intro y s σ H D I h;refine wpAny_If (thn (U y s σ H _ I h) λd j J=>?_)
 obtain⟨w,z,k⟩:=J;cases d with
 | true=>exact m y j σ w D z k
 | false=>exact Y y j σ w D z k
end
abbrev TG:=V->St->Hp->(St->Hp->Prop)->Prop
abbrev TGs:=List V->St->Hp->(St->Hp->Prop)->Prop
structure PG (X:Cx)(target:Expr)(t:TG):Prop where
 mk ::
 run :
  ∀(aA:Dz) (s:Shared) (σ:St) (H:Hp) (v:V) (u:Value) (Q:St->Hp->Prop),Inv X aA σ H s->RelV v u->t v σ H Q ->
   wpAny (model X.prog X.w) X.A (assign target X.env u) (λ_ s'=>∃σ' H',Inv X aA σ' H' s'/\Q σ' H') X.xe s
instance {X:Cx} {target:Expr} {t:TG}:CoeFun (PG X target t) λ_=>
 (∀(aA:Dz) (s:Shared) (σ:St) (H:Hp) (v:V) (u:Value) (Q:St->Hp->Prop),Inv X aA σ H s->RelV v u->t v σ H Q ->
  wpAny (model X.prog X.w) X.A (assign target X.env u) (λ_ s'=>∃σ' H',Inv X aA σ' H' s'/\Q σ' H') X.xe s):=⟨PG.run⟩
structure PGs (X:Cx)(ts:AM)(t:TGs):Prop where
 mk ::
 run :
  ∀(aA:Dz) (s:Shared) (σ:St) (H:Hp) (vs:List V) (us:AG) (Q:St->Hp->Prop),Inv X aA σ H s->Vals vs us->t vs σ H Q ->
   wpAny (model X.prog X.w) X.A (assignInOrder ((assignEach ts X.env).map (·.2)) us) (λ_ s'=>∃σ' H',Inv X aA σ' H' s'/\Q σ' H') X.xe s
instance {X:Cx} {ts:AM} {t:TGs}:CoeFun (PGs X ts t) λ_=>
 (∀(aA:Dz) (s:Shared) (σ:St) (H:Hp) (vs:List V) (us:AG) (Q:St->Hp->Prop),Inv X aA σ H s->Vals vs us->t vs σ H Q ->
  wpAny (model X.prog X.w) X.A (assignInOrder ((assignEach ts X.env).map (·.2)) us) (λ_ s'=>∃σ' H',Inv X aA σ' H' s'/\Q σ' H') X.xe s):=⟨PGs.run⟩
abbrev eI4:=V->V->V->Hp->(Hp->Prop)->Prop
def eD1 (X:Cx)(t:eI4):Prop:=
 ∀(aA:Dz) (s:Shared) (σ:St) (H:Hp) (o i v:V) (ov iv u:Value) (Q:Hp->Prop),Inv X aA σ H s->RelV o ov->RelV i iv->RelV v u->t o i v H Q ->
  wpAny (model X.prog X.w) X.A (setItem ov iv u) (λ_ s'=>∃H',Inv X aA σ H' s'/\Q H') X.xe s
abbrev TIp:=V->V->Hp->VK->Prop
def PIp (X:Cx)(op:Operator)(t:TIp):Prop:=
 ∀(aA:Dz) (s:Shared) (σ:St) (H:Hp) (x y:V) (v u:Value) (Q:VK),Inv X aA σ H s->RelV x v->RelV y u->t x y H Q ->
  wpAny (model X.prog X.w) X.A (inplaceOp op v u) (EP X aA σ Q) X.xe s
section
def Q3 (i:Nat):TG:=λv σ H Q=>Q (σ.set i (some v)) H
theorem F1 (y:X.N.Nodup)(hi:X.N[i]? = some x)(z:Loc X.env.scope x)(w:X.fn x=true\/X.env.scope.names.lookup x=some .local:=by first | exact .inl rfl | exact .inr rfl | assumption):PG X (.Name x pos) (Q3 i):=by
 refine⟨?_⟩;intro k s σ H v u Q I r h;exact wpAny_assign_Name (aE4 I y hi z r (λj e=>⟨_,H,e,h⟩) w)
def eG3:TGs:=λvs σ H Q=>vs=[]/\Q σ H
def dQ8 (t:TG)(u:TGs):TGs:=λvs σ H Q=>∃v r,vs=v::r/\t v σ H λσ' H'=>u r σ' H' Q
theorem aP5:PGs X [] eG3:=by
 refine⟨?_⟩;intro y s σ H vs w Q I r h;obtain⟨e,h⟩:=h;subst e;cases r;exact assignInOrder_nil ⟨σ,H,I,h⟩
theorem S6 (h1:PG X e t)(j:PGs X es u)
  (c:(assignEach (e::es) X.env).map (·.2)=assign e X.env::(assignEach es X.env).map (·.2):=by rfl):PGs X (e::es) (dQ8 t u):=by
 refine⟨?_⟩;intro y s σ H vs M Q I r h;obtain⟨v,N,k,h⟩:=h;subst k;cases r with
 | cons r rr=>
  rw[c];refine assignInOrder_cons (thn (h1 y s σ H _ _ _ I r h) λ_ U m=>?_)
  obtain⟨J,w,z,Y⟩:=m;exact j y U J w _ _ Q z rr Y
def eE7 (K:Frag)(n:Nat)(t:TGs):TG:=λv σ H Q=>∃a xs,v=.ref a/\SqT K H a xs/\xs.length=n/\t xs σ H Q
theorem aZ6 (U:X.calm=true)(h:PGs X es t)
  (M:(assignEach es X.env).length=n:=by rfl) (y:(assignEach es X.env).findIdx? (·.1)=none:=by rfl):PG X (.Tuple es k pos) (eE7 X.K n t):=by
 refine⟨?_⟩;intro z s σ H v u Q I r w;obtain⟨a,xs,m,N,J,w⟩:=w;subst m;cases r;obtain⟨its,j,R,F⟩:=I.tuple N;refine assign_Tuple_tuple (I.ok.hd U) R (by simp[M,<- J,j.length]) y λY D=>?_
 have c:Inv X z σ H {s with heap:=Y}:=I.kept (t':=s.toks) λb o e=>D b o (Ab9 (Ab3 e)) e
 exact h z _ σ H xs _ Q c (by simpa using j) w
def dX2 (to ti:TE)(t:eI4):TG:=λv σ H Q=>to σ H λo H1=>ti σ H1 λi H2=>t o i v H2 λH3=>Q σ H3
theorem cE0 (ho:PE X o to)(hi:PE X i ti)(J:eD1 X t)
  (U:∀v,assign (.Subscript o i pos) X.env v=(do
   let ov <- holding [v] (eval o X.env)
   let iv <- holding [v,ov] (eval i X.env)
   standAt pos
   holding [v,ov,iv] (setItem ov iv v)
   release [v,ov,iv] []):=by intro _;rfl):PG X (.Subscript o i pos) (dX2 to ti t):=by
 refine⟨?_⟩;intro w s σ H v u Q I r h;rw[U];refine Aa (Bz (thn (ho w s σ H _ I h) λov B e=>?_))
 obtain⟨x,z,c,D,M⟩:=e;refine Aa (Bz (thn (hi w B σ z _ c M) λiv P e=>?_))
 obtain⟨y,k,m,F,N⟩:=e;refine Aa (wpAny_standAt (Aa (Bz (thn (J w P σ k x y v ov iv u _ m D F r N) λ_ s3 e=>?_))))
 obtain⟨j,Y,R⟩:=e;exact wpAny_release ⟨σ,j,Y,R⟩
def aK1 (te:TE)(g:TG):TS:=λD σ H=>te σ H λx H1=>g x σ H1 D.nx
theorem bO3 (k:PE X e te)(j:PG X tg g)(c:swapsWithSole [tg] e pos.line X.env=pure false:=by rfl)(m:swappedStores [tg] e X.env=pure none:=by rfl)
  (h1:(assignEach [tg] X.env).map (·.2)=[assign tg X.env]:=by rfl):PS X (.Assign [tg] e pos) (aK1 te g):=by
 refine⟨?_⟩;intro y s σ H D I h;refine wpAny_Assign_stores (thn (k y s σ H _ I h) λv M Y=>?_) c m
 obtain⟨x,w,z,J,U⟩:=Y;rw[h1];exact thn (j y M σ w x v _ z J U) λ_ N q=>q
theorem aZ1 (c:X.N.Nodup)(hi:X.N[i]? = some x)(J:Loc X.env.scope x)(m:PE X e te)(U:swapsWith e (some (.Name x pos')) pos.line X.env=pure false:=by rfl)(Y:X.fn x=true\/X.env.scope.names.lookup x=some .local:=by first | exact .inl rfl | exact .inr rfl | assumption) :
  PS X (.Assign [.Name x pos'] e pos) (aK1 te (Q3 i)):=by
 refine⟨?_⟩;intro j s σ H D I h;refine wpAny_Assign_Name (thn (m j s σ H _ I h) λv F M=>?_) U
 obtain⟨y,w,z,Q,R⟩:=M;exact aE4 z c hi J Q (λB k=>⟨_,w,k,R⟩) Y
def eD7 (i:Nat)(te:TE)(ti:TIp):TS:=λD σ H=>∃x,σ[i]? = some (some x)/\te σ H λy H1=>ti x y H1 λz H2=>D.nx (σ.set i (some z)) H2
theorem dW1 (hN:X.N.Nodup)(hi:X.N[i]? = some x)(U:Loc X.env.scope x)(he:PE X e te)(ho:PIp X op ti)(hf:X.fn x=true\/X.env.scope.names.lookup x=some .local:=by first | exact .inl rfl | exact .inr rfl | assumption) :
  PS X (.AugAssign (.Name x pos') op e pos) (eD7 i te ti):=by
 refine⟨?_⟩;intro Y s σ H D I h;obtain⟨v,e1,h⟩:=h;obtain⟨m,hn,hl⟩:=I.loc;have M:Vis X.env.scope x:=by rcases U with k | k;exact .inl k;exact .inr (.inl k)
 obtain⟨u,r,l⟩:=hl i x v hi e1 M;refine wpAny_AugAssign_Name ?_;have R:wpAny (model X.prog X.w) X.A (eval e X.env) (λw s₂=>wpAny (model X.prog X.w) X.A (inplaceOp op u w) (λr s₃=>wpAny (model X.prog X.w) X.A (storeName X.env x r) (λ_=>SP X Y D .next) X.xe s₃) X.xe s₂) X.xe s:=by
  refine thn (he Y s σ H _ I h) λw s1 J=>?_
  obtain⟨y,Q,B,r1,q1⟩:=J;refine thn (ho Y s1 σ Q v y u w _ B r r1 q1) λz s2 J=>?_
  obtain⟨zv,F,P,r2,q2⟩:=J;exact aE4 P hN hi U r2 (λs3 I3=>⟨_,F,I3,q2⟩) hf
 rcases l with⟨hk,hm⟩ | ⟨hk,c,hc,j⟩
 .exact wpAny_loadName_local I.ok.kind hk hn hm R
 .rcases hk with hk | hk
  .exact wpAny_loadName_cell I.ok.kind hk hc j R
  .rcases U with k | k
   .have:X.env.scope.names.lookup x=some .free:=hk
    rw[k]at this;cases this
   .have:X.env.scope.names.lookup x=some .free:=hk
    rw[k]at this;cases this
def ipI (f:Int->Int->Int):TIp:=λx y H Q=>∃i j,x=.int i/\y=.int j/\Q (.int (f i j)) H
theorem dW8:PIp X .Add (ipI λi j=>i+j):=by
 intro c s σ H x y v u Q I z k h;obtain⟨i,j,e,w,q⟩:=h;subst e;subst w;obtain⟨t,rfl⟩:=z;obtain⟨m,rfl⟩:=k;exact iadd_int ⟨.int _,H,I.tok _,⟨_,rfl⟩,q⟩
end
section
def cY2 (c:TT)(tb:TS):TS:=λD σ H=>∃W:Nat->St->Hp->Prop,(∃m,W m σ H)/\∀m σ H,W m σ H ->
 c σ H λb H1=>if b=true then ∃N:St->Hp->Prop,(∀σ' H',N σ' H'->∃m',m'<m/\W m' σ' H')/\tb {D with nx:=N,ct:=N,bk:=D.nx} σ H1 else D.nx σ H1
theorem aD5 (hp:PassesOwn (model X.prog X.w) X.A X.env X.xe)(hc:PT X c tc)(hb:PSs X body tb):PS X (.While c body [] pos) (cY2 tc tb):=by
 refine⟨?_⟩;intro U s σ H D I h;obtain⟨W,⟨m0,w0⟩,y⟩:=h;refine wpAny_While (codeAny_whileLoop (λn s'=>∃σ' F,Inv X U σ' F s'/\W n σ' F) ?_ m0 ⟨σ,H,I,w0⟩)
 rintro n s1 ⟨m,B,I1,w1⟩;refine wpAny_passesOwn hp (thn (hc U s1 m B _ I1 (y n m B w1)) λb s2 pz=>?_)
 obtain⟨P,I2,k⟩:=pz;cases b with
 | true=>
  obtain⟨N,hN,k⟩:=k;rw[Ae rfl];refine wpAny_passesOwn hp (thn (hb U s2 m P _ I2 k) λf s3 j=>?_)
  cases f with
  | next=>
   obtain⟨z,e,Y,R⟩:=j;obtain⟨M,J,Q⟩:=hN z e R;exact⟨M,J,z,e,Y,Q⟩
  | cont=>
   obtain⟨z,e,Y,R⟩:=j;obtain⟨M,J,Q⟩:=hN z e R;exact⟨M,J,z,e,Y,Q⟩
  | brk=>exact j
  | ret v=>exact j
 | false=>
  rw[Ac Ak];exact wpAny_execs_nil ⟨m,P,I2,k⟩
end
structure It where
 go:Nat->Hp->Prop
 yld:Nat->Hp->V->Hp->Prop
 stop:Nat->Hp->Prop
def bD2 (X:Cx)(aA:Dz)(H:Hp)(b:Addr):Prop:=
 H b=none/\b≠X.env.locals/\b∉X.fs/\(b∈X.ex\/X.s₀.heap.objs.size<=b)/\(∀x c,X.env.cells.lookup x=some c->c≠b)/\∀p∈X.pn++aA,p.1≠b
theorem Inv.fpOk {X:Cx}{aA:Dz}{σ:St}{H H':Hp}{s:Shared}{b:Addr}(I:Inv X aA σ H s)(y:s.heap.objs.size<=b)(w:H' b=none):bD2 X aA H' b:=by
 refine⟨w,Nat.ne_of_gt (Ab8 I.lt y),I.nofs y,.inr (Ax I.sz y),λx c e z=>?_,λp hp z=>?_⟩
 .obtain⟨v,q⟩:=I.cell x c e;exact absurd (Ab8 q.lt (by rw[z];exact y)) (Ad9 _)
 .exact absurd (Ab8 (Ab3 (I.pin p hp).1) (by rw[z];exact y)) (Ad9 _)
structure bF2 (P:Program)(w:World)(K:Frag)(tg:Expr)(J:It)(fp:AL)(it:Addr)(tn:Nat->Heap->Prop):Prop where
 mem:it∈fp
 obj:∀i h,tn i h->∀b∈fp,∃o,h.get? b=some o/\∀v,o.data≠.cell v
 keep:∀i h h',tn i h->(∀b∈fp,∀o,h.get? b=some o->h'.get? b=some o)->tn i h'
 item:∀(X:Cx),X.prog=P->X.w=w->X.K=K->X.calm=true->∀(i:Nat) (aA:Dz) (s:Shared) (σ:St) (H:Hp) (E:Dy),Inv X aA σ H s->(∀b∈fp,bD2 X aA H b)->tn i s.heap->J.go i H ->
  wpAny (model P w) X.A (pyNext (.ref it)) (λr s1=>∃u,r=some u /\
   wpAny (model P w) X.A (letOwnedTupleGo tg (.ref it) u) (λ_ s2=>∃x H',Inv X aA σ H' s2/\RelV x u/\J.yld i H x H'/\tn (i+1) s2.heap/\∀b∈fp,H' b=none) E s1) E s
 done:∀(X:Cx),X.prog=P->X.w=w->X.K=K->X.calm=true->∀(i:Nat) (aA:Dz) (s:Shared) (σ:St) (H:Hp) (E:Dy),Inv X aA σ H s->(∀b∈fp,bD2 X aA H b)->tn i s.heap->J.stop i H ->
  wpAny (model P w) X.A (pyNext (.ref it)) (λr s1=>r=none/\Inv X aA σ H s1) E s
 self:∀(A:Around) (i:Nat) (s:Shared) (Q:Dy) (E:Dy),tn i s.heap->Q (.ref it) s->wpAny (model P w) A (pyIter (.ref it)) Q E s
abbrev TI:=St->Hp->(It->Hp->Prop)->Prop
def PIE (X:Cx)(aA:Dz)(σ:St)(tg:Expr)(R:It->Hp->Prop)(itv:Value)(s2:Shared):Prop:=
 ∃(it:Addr) (fp:AL) (tn:Nat->Heap->Prop) (J:It) (H':Hp),itv=.ref it/\Inv X aA σ H' s2/\bF2 X.prog X.w X.K tg J fp it tn/\tn 0 s2.heap/\(∀b∈fp,bD2 X aA H' b)/\R J H'
structure PI (X:Cx)(tg iter:Expr)(wi:TI):Prop where
 mk ::
 run :
  ∀(aA:Dz) (s:Shared) (σ:St) (H:Hp) (R:It->Hp->Prop),Inv X aA σ H s->wi σ H R ->
   wpAny (model X.prog X.w) X.A (eval iter X.env) (λv s1=>wpAny (model X.prog X.w) X.A (pyIter v) (PIE X aA σ tg R) X.xe s1) X.xe s
instance {X:Cx} {tg iter:Expr} {wi:TI}:CoeFun (PI X tg iter wi) λ_=>
 (∀(aA:Dz) (s:Shared) (σ:St) (H:Hp) (R:It->Hp->Prop),Inv X aA σ H s->wi σ H R ->
  wpAny (model X.prog X.w) X.A (eval iter X.env) (λv s1=>wpAny (model X.prog X.w) X.A (pyIter v) (PIE X aA σ tg R) X.xe s1) X.xe s):=⟨PI.run⟩
theorem cJ4 {M:Model}{A:Around}{E:Dy}{s:Shared}{tg:Expr}{it:Addr}{u:Value}{o:Obj}{n:String}{vs:AJ}{Q:Unit->Shared->Prop}(ho:s.heap.get? it=some o)(y:o.cls=.type n)(w:o.data=.fields vs)
  (z:["enumerate", "zip", "dict_itemiterator", "dict_reverseitemiterator", "odict_iterator", "itertools.zip_longest", "itertools.pairwise"].contains n=false) (e:Q () s):wpAny M A (letOwnedTupleGo tg (.ref it) u) Q E s:=by
 unfold letOwnedTupleGo;cases tg <;> first
  | exact Ab e
  | (cases u <;> first
    | exact Ab e
    | (refine Aa (wpAny_load ho ?_)
       rw[y,w];show wpAny M A (if(["enumerate", "zip", "dict_itemiterator", "dict_reverseitemiterator", "odict_iterator", "itertools.zip_longest", "itertools.pairwise"].contains n&&vs[0]? == some (rawInt _))=true then _ else _) Q E s;rw[Ac (by intro h;rw[z,Bool.false_and]at h;cases h)]
       exact Ab e))
def Itl (K:Frag)(a:Addr):It:=
 ⟨λi H=>∃xs x,SqL K H a xs/\xs[i]? = some x,λi H x H'=>H'=H/\∀xs,SqL K H a xs->xs[i]? = some x,λi H=>∃xs,SqL K H a xs/\xs.length<=i⟩
def Itt (K:Frag)(a:Addr):It:=
 ⟨λi H=>∃xs x,SqT K H a xs/\xs[i]? = some x,λi H x H'=>H'=H/\∀xs,SqT K H a xs->xs[i]? = some x,λi H=>∃xs,SqT K H a xs/\xs.length<=i⟩
def Itr (lo:Int)(n:Nat):It:=⟨λi _=>i<n,λi H x H'=>H'=H/\x=.int (lo+i),λi _=>n<=i⟩
theorem cP1 {P:Program}{w:World}{K:Frag}{tg:Expr}(a it:Addr):bF2 P w K tg (Itl K a) [it] it (λi h=>h.IsListIter it a i) where
 mem:=by simp
 obj:=λi h y b j=>by
  have e:b=it:=by simpa using j
  subst e;obtain⟨o,e,c,d⟩:=y;exact⟨o,e,λv z=>by rw[d]at z;cases z⟩
 keep:=λi h Y y k=>y.at λo e=>k it (by simp) o e
 item:=by
  intro X D B Q hc i aA s σ H E I U y F;subst D B Q;obtain⟨xs,x,J,hx⟩:=F;obtain⟨its,rv,p,hz⟩:=I.list J;obtain⟨u,hu,ru⟩:=rv.get hx;obtain⟨M,f1,f2,f3,N,R⟩:=U it (by simp)
  refine wpAny_pyNext_list_item y p.isList (x:=u) (by simpa using hu) λY m sb=>?_
  have I1:Inv X aA σ H {s with heap:=Y}:=I.turned (t':=s.toks) (λb o j e=>(sb.2 b j).trans e) M f1 f3 N R
  obtain⟨o,e,c,d⟩:=id m;exact⟨u,rfl,cJ4 (s:={s with heap:=Y}) e c d (by decide) ⟨x,H,I1,ru,⟨rfl,λys hy=>by rw[I.list_inj hy J];exact hx⟩,m,λb j=>(U b j).1⟩⟩
 done:=by
  intro X D B Q hc i aA s σ H E I U y F;subst D B Q;obtain⟨xs,J,hx⟩:=F;obtain⟨its,rv,p,hz⟩:=I.list J;obtain⟨M,f1,f2,f3,N,R⟩:=U it (by simp)
  have hl:=rv.length
  exact wpAny_pyNext_list_end (I.ok.hd hc) y p.isList (by simp;lia) λY eb=>⟨rfl,I.turned (t':=s.toks) (λb o j e=>eb b o j e) M f1 f3 N R⟩
 self:=λ_ _ _ _ _ y h=>wpAny_pyIter_listiter y h
theorem cB2 {P:Program}{w:World}{K:Frag}{tg:Expr}(a it:Addr):bF2 P w K tg (Itt K a) [it] it (λi h=>h.IsTupleIter it a i) where
 mem:=by simp
 obj:=λi h y b j=>by
  have e:b=it:=by simpa using j
  subst e;obtain⟨o,e,c,d⟩:=y;exact⟨o,e,λv z=>by rw[d]at z;cases z⟩
 keep:=λi h Y y k=>y.at λo e=>k it (by simp) o e
 item:=by
  intro X D B Q hc i aA s σ H E I U y F;subst D B Q;obtain⟨xs,x,J,hx⟩:=F;obtain⟨its,rv,p,hz⟩:=I.tuple J;obtain⟨u,hu,ru⟩:=rv.get hx;obtain⟨M,f1,f2,f3,N,R⟩:=U it (by simp)
  refine wpAny_pyNext_tuple_item y (show s.heap.IsTuple a its.toArray from p) (x:=u) (by simpa using hu) λY m sb=>?_
  have I1:Inv X aA σ H {s with heap:=Y}:=I.turned (t':=s.toks) (λb o j e=>(sb.2 b j).trans e) M f1 f3 N R
  obtain⟨o,e,c,d⟩:=id m;exact⟨u,rfl,cJ4 (s:={s with heap:=Y}) e c d (by decide) ⟨x,H,I1,ru,⟨rfl,λys hy=>by rw[I.tuple_inj hy J];exact hx⟩,m,λb j=>(U b j).1⟩⟩
 done:=by
  intro X D B Q hc i aA s σ H E I U y F;subst D B Q;obtain⟨xs,J,hx⟩:=F;obtain⟨its,rv,p,hz⟩:=I.tuple J;obtain⟨M,f1,f2,f3,N,R⟩:=U it (by simp)
  have hl:=rv.length
  exact wpAny_pyNext_tuple_end (I.ok.hd hc) y (show s.heap.IsTuple a its.toArray from p) (by simp;lia) λY eb=>⟨rfl,I.turned (t':=s.toks) (λb o j e=>eb b o j e) M f1 f3 N R⟩
 self:=λ_ _ _ _ _ y h=>wpAny_pyIter_tupleiter y h
theorem cC6 {P:Program}{w:World}{K:Frag}{tg:Expr}(it:Addr)(lo:Int)(n:Nat):bF2 P w K tg (Itr lo n) [it] it (λi h=>IsRangeIter h it (lo+(i:Nat)*1) ((n:Int)-(i:Nat)) 1) where
 mem:=by simp
 obj:=λi h y b j=>by
  have e:b=it:=by simpa using j
  subst e;exact⟨_,y,λv z=>by
   have z':Data.fields _=Data.cell v:=z
   cases z'⟩
 keep:=λi h m y k=>k it (by simp) _ y
 item:=by
  intro X R F N Q i B s σ H E I Y y D;subst R F N;obtain⟨U,f1,f2,f3,J,M⟩:=Y it (by simp)
  have W:=Walks.range (prog:=X.prog) (w:=X.w) (I.ok.hd Q) it lo 1 n
  refine W.item i s _ _ D y λv m tk hv c kk=>?_
  obtain⟨t,rfl⟩:=hv;have I1:Inv X B σ H {s with heap:=m,toks:=tk}:=I.turned (λb o j e=>kk b o (by simpa using j) e) U f1 f3 J M
  refine⟨_,rfl,cJ4 (s:={s with heap:=m,toks:=tk}) (n := "range_iterator") c rfl rfl (by decide) ⟨.int (lo+i),H,I1,⟨t,?_⟩,⟨rfl,rfl⟩,c,λb j=>(Y b j).1⟩⟩
  rw[Int.mul_one]
 done:=by
  intro X R F N Q i B s σ H E I Y y D;subst R F N;obtain⟨U,f1,f2,f3,J,M⟩:=Y it (by simp)
  exact wpAny_pyNext_range_end (I.ok.hd Q) y (by have:n<=i:=D;lia) λm eb=>⟨rfl,I.turned (t':=s.toks) (λb o j e=>eb b o j e) U f1 f3 J M⟩
 self:=λ_ _ _ _ _ y h=>wpAny_pyIter_rangeiter y h
section
def dQ6 (K:Frag)(tl:TE):TI:=λσ H R=>tl σ H λx H1=>∃a,x=.ref a/\(∃xs,SqL K H1 a xs)/\R (Itl K a) H1
def dL0 (K:Frag)(tl:TE):TI:=λσ H R=>tl σ H λx H1=>∃a,x=.ref a/\(∃xs,SqT K H1 a xs)/\R (Itt K a) H1
theorem T3 {l:Expr}{tl:TE}(c:PE X l tl):PI X tg l (dQ6 X.K tl):=by
 refine⟨?_⟩;intro k s σ H R I h;refine thn (c k s σ H _ I h) λv w Y=>?_
 obtain⟨x,z,y,J,U⟩:=Y;obtain⟨a,e,⟨xs,m⟩,q⟩:=U;subst e;cases J;obtain⟨its,N,p,M⟩:=y.list m;refine wpAny_pyIter_list p.isList ?_;refine⟨w.heap.objs.size,[w.heap.objs.size],_,_,z,rfl,y.kept (t':=w.toks) λb o e=>Aa6 _ e,cP1 a _,⟨_,Ac3 _ rfl,rfl,rfl⟩,λb j=>?_,q⟩
 have e:b=w.heap.objs.size:=by simpa using j
 subst e;exact y.fpOk (Aa7 _) (y.hok.fresh (Aa7 _))
theorem m9 {l:Expr}{tl:TE}(c:PE X l tl):PI X tg l (dL0 X.K tl):=by
 refine⟨?_⟩;intro k s σ H R I h;refine thn (c k s σ H _ I h) λv y Y=>?_
 obtain⟨x,z,w,J,U⟩:=Y;obtain⟨a,e,⟨xs,m⟩,q⟩:=U;subst e;cases J;obtain⟨its,N,p,M⟩:=w.tuple m;refine wpAny_pyIter_tuple (show y.heap.IsTuple a its.toArray from p) ?_
 refine⟨y.heap.objs.size,[y.heap.objs.size],_,_,z,rfl,w.kept (t':=y.toks) λb o e=>Aa6 _ e,cB2 a _,⟨_,Ac3 _ rfl,rfl,rfl⟩,λb j=>?_,q⟩
 have e:b=y.heap.objs.size:=by simpa using j
 subst e;exact w.fpOk (Aa7 _) (w.hok.fresh (Aa7 _))
theorem cR9 {aA:Dz}{σ:St}{H:Hp}{s:Shared}{R:It->Hp->Prop}{E:Dy}{lo hi:Int}{t u v:Tok}{tk:Nat}(I:Inv X aA σ H s)(h1 : -(2^62)<=lo)(j:lo<2^62)(c : -(2^62)<=hi)(m:hi<2^62)
  (q:R (Itr lo (hi-lo).toNat) H):wpAny (model X.prog X.w) X.A (pyIter (.ref s.heap.objs.size)) (PIE X aA σ tg R) E {s with heap:=s.heap.push {cls:=.type "range",data:=.fields #[.int lo t,.int hi u,.int 1 v]},toks:=tk}:=by
 refine wpAny_pyIter_range (IsRange.new ..) (small_one h1 j c m) ?_;have y:Inv X aA σ H {s with heap:=s.heap.push {cls:=.type "range",data:=.fields #[.int lo t,.int hi u,.int 1 v]},toks:=tk}:=I.kept λb o e=>Aa6 _ e
 refine⟨(s.heap.push {cls:=.type "range",data:=.fields #[.int lo t,.int hi u,.int 1 v]}).objs.size,[(s.heap.push {cls:=.type "range",data:=.fields #[.int lo t,.int hi u,.int 1 v]}).objs.size],_,_,H,rfl,
  y.kept (t':=tk) λb o e=>Aa6 _ e,cC6 _ lo (hi-lo).toNat,?_,λb Y=>?_,q⟩
 .have z:lo+((0:Nat):Int)*1=lo:=by simp
  have k:(((hi-lo).toNat:Nat):Int)-((0:Nat):Int)=Builtin.Range.rangeSize lo hi 1:=by rw[rangeSize_one];split <;> lia
  show IsRangeIter _ _ (lo+((0:Nat):Int)*1) ((((hi-lo).toNat:Nat):Int)-((0:Nat):Int)) 1
  rw[z,k];exact Ac3 _ rfl
 .have e:b=(s.heap.push {cls:=.type "range",data:=.fields #[.int lo t,.int hi u,.int 1 v]}).objs.size:=by simpa using Y
  subst e;exact y.fpOk (Aa7 _) (y.hok.fresh (Aa7 _))
def dA9 (ta:TA):TI:=λσ H R=>ta σ H λvs H1=>∃j:Int,vs=[.int j] /\ -(2^62)<=j/\j<2^62/\R (Itr 0 j.toNat) H1
theorem D9 {a:Expr}{ta:TA}{p pos:Pos}(c:Gl X "range")(m:X.mg "range" = none)(k:PA X [a] ta)(Y:starEach [a] X.env=[(false,eval a X.env)]:=by rfl):PI X tg (.Call (.Name "range" p) [a] [] pos) (dA9 ta):=by
 refine⟨?_⟩;intro z s σ H R I h;refine Call_ (t8 I c m boot_range (Bj (thn (k pos z s σ H _ I h) λD Q U=>?_) Y rfl))
 obtain⟨vs,N,w,M,y⟩:=U;obtain⟨j,e,y,J,q⟩:=y;subst e;cases M with
 | cons r rr=>
  cases rr
  obtain⟨t,rfl⟩:=r;exact call_range_1 (cR9 w (by lia) (by lia) y J (by simpa using q))
def dV8 (wi:TI)(g:TG)(tb:TS):TS:=λD σ H=>wi σ H λJ H1=>∃W:Nat->Nat->St->Hp->Prop,(∃m,W 0 m σ H1)/\∀i m σ H,W i m σ H ->
 (J.stop i H/\D.nx σ H)\/(J.go i H/\∃N:St->Hp->Prop,(∀σ' H',N σ' H'->∃m',m'<m/\W (i+1) m' σ' H')/\∀x H',J.yld i H x H'->g x σ H' λσ2 H2=>tb {D with nx:=N,ct:=N,bk:=D.nx} σ2 H2)
def aA4 (fp:AL)(h:Heap):List (Addr×Obj):=fp.filterMap λb=>(h.get? b).map λo=>(b,o)
theorem t6 {fp:AL}{h:Heap}{b:Addr}{o:Obj}(y:b∈fp)(e:h.get? b=some o):(b,o)∈aA4 fp h:=List.mem_filterMap.mpr ⟨b,y,by rw[e];rfl⟩
theorem bH6 {fp:AL}{h:Heap}{p:Addr×Obj}(hp:p∈aA4 fp h):p.1∈fp/\h.get? p.1=some p.2:=by
 obtain⟨b,y,e⟩:=List.mem_filterMap.mp hp;cases q:h.get? b with
 | none=>rw[q]at e;cases e
 | some o=>
  rw[q]at e;have e':(b,o)=p:=Ab4 e;subst e';exact⟨y,q⟩
theorem Inv.pinned {aA:Dz}{σ:St}{H:Hp}{s:Shared}{fp:AL}(I:Inv X aA σ H s)(k:∀b∈fp,bD2 X aA H b)(ho:∀b∈fp,∃o,s.heap.get? b=some o/\∀v,o.data≠.cell v):Inv X (aA++aA4 fp s.heap) σ H s:=
 I.pins_of λp hp=>(Aa0.mp hp).elim (λz=>I.pin p (Ac1 _ z)) λz=>by
  obtain⟨y,e⟩:=bH6 z;obtain⟨w,f1,f2,_⟩:=k p.1 y;obtain⟨o,e',d⟩:=ho p.1 y;rw[e]at e';cases e';exact⟨e,w,f1,f2,d⟩
theorem Inv.unpinned (I:Inv X (aA++pl) σ H s):Inv X aA σ H s:=I.pins_of λp hp=>I.pin p (Ac1 _ (Cf _ hp))
theorem G6 (hp:PassesOwn (model X.prog X.w) X.A X.env X.xe)(hc:X.calm=true)(hi:PI X tg iter wi)(hg:PG X tg g)(j:PSs X body tb)
  (hs:∀x,foldedSetIterable iter X.env x=pure x:=by intro _;rfl):PS X (.For tg iter body [] pos) (dV8 wi g tb):=by
 refine⟨?_⟩;intro R s σ H D I h;refine wpAny_For (thn (hi R s σ H _ I h) λv s1 h1=>thn h1 λitv s2 h2=>?_) hs
 obtain⟨it,F,tn,J,H2,e,I2,T,st2,f2,W,⟨m0,w0⟩,turn⟩:=h2;subst e;have c:∀{U:Hp},(∀b∈F,U b=none)->∀b∈F,bD2 X R U b:=λhn b j=>⟨hn b j,(f2 b j).2⟩
 refine codeAny_forLoop_any (λn s'=>∃i σ' U,Inv X R σ' U s'/\tn i s'.heap/\(∀b∈F,U b=none)/\W i n σ' U) ?_ m0 ⟨0,σ,H2,I2,st2,λb j=>(f2 b j).1,w0⟩
 rintro n s3 ⟨i,σ3,H3,I3,st3,B,w3⟩;rcases turn i n σ3 H3 w3 with⟨stop,qn⟩ | ⟨go,N,hN,step⟩
 .refine wpAny_passesOwn hp (thn (T.done X rfl rfl rfl hc i R s3 σ3 H3 X.xe I3 (c B) st3 stop) λr s4 ⟨hr,I4⟩=>?_)
  subst hr;exact wpAny_execs_nil ⟨σ3,H3,I4,qn⟩
 .refine wpAny_passesOwn hp (thn (T.item X rfl rfl rfl hc i R s3 σ3 H3 X.xe I3 (c B) st3 go) λr s4 ⟨u,hr,h4⟩=>?_)
  subst hr;refine wpAny_passesOwn hp (thn h4 λ_ s5 pz=>?_)
  obtain⟨x,H5,I5,r5,y5,Q,fr5⟩:=pz;have I5':=I5.pinned (c fr5) (T.obj _ _ Q);refine wpAny_passesOwn hp (thn (hg _ s5 σ3 H5 x u _ I5' r5 (step x H5 y5)) λ_ s6 pz=>?_)
  obtain⟨σ6,H6,I6,q6⟩:=pz;refine wpAny_passesOwn hp (thn (j _ s6 σ6 H6 _ I6 q6) λf s7 M=>?_)
  have k:∀{Y:St} {y:Hp},Inv X (R++aA4 F s5.heap) Y y s7->N Y y->∃m,m<n/\∃i σ' U,Inv X R σ' U s7/\tn i s7.heap/\(∀b∈F,U b=none)/\W i m σ' U:=λ{Y y} z P=>by
   obtain⟨m',hm,w7⟩:=hN Y y P;refine⟨m',hm,i+1,Y,y,z.unpinned,T.keep _ _ _ Q λb j o e=>(z.pin (b,o) (Ac1 _ (Ac1 _ (t6 j e)))).1,λb j=>?_,w7⟩
   obtain⟨o,e,d⟩:=T.obj _ _ Q b j;exact(z.pin (b,o) (Ac1 _ (Ac1 _ (t6 j e)))).2.1
  cases f with
  | next=>obtain⟨Y,y,z,P⟩:=M;exact k z P
  | cont=>obtain⟨Y,y,z,P⟩:=M;exact k z P
  | brk=>obtain⟨Y,y,z,M⟩:=M;exact⟨Y,y,z.unpinned,M⟩
  | ret v=>obtain⟨x7,Y,y,z,r7,M⟩:=M;exact⟨x7,Y,y,z.unpinned,r7,M⟩
end
abbrev R2:=V->V->Hp->VK->Prop
def OpR (X:Cx)(f:Value->Value->Sem Value)(r:R2):Prop:=
 ∀(aA:Dz) (s:Shared) (σ:St) (H:Hp) (x y:V) (v u:Value) (Q:VK),Inv X aA σ H s->RelV x v->RelV y u->r x y H Q ->
  wpAny (model X.prog X.w) X.A (f v u) (EP X aA σ Q) X.xe s
def UnR (X:Cx)(f:Value->Sem Value)(r:V->Hp->VK->Prop):Prop:=
 ∀(aA:Dz) (s:Shared) (σ:St) (H:Hp) (x:V) (v:Value) (Q:VK),Inv X aA σ H s->RelV x v->r x H Q ->
  wpAny (model X.prog X.w) X.A (f v) (EP X aA σ Q) X.xe s
def R4 (X:Cx)(f:Value)(r:List V->Hp->VK->Prop):Prop:=
 ∀(aA:Dz) (s:Shared) (σ:St) (H:Hp) (xs:List V) (us:AG) (Q:VK),Inv X aA σ H s->Vals xs us->r xs H Q ->
  wpAny (model X.prog X.w) X.A (call f us) (EP X aA σ Q) X.xe s
def tOp (r:R2)(ta tb:TE):TE:=λσ H Q=>ta σ H λx H1=>tb σ H1 λy H2=>r x y H2 Q
def tUn (r:V->Hp->VK->Prop)(ta:TE):TE:=λσ H Q=>ta σ H λx H1=>r x H1 Q
def rI (C:Int->Int->Prop)(g:Int->Int->V):R2:=λx y H Q=>∃i j,x=.int i/\y=.int j/\C i j/\Q (g i j) H
def rI0 (g:Int->Int->V):R2:=λx y H Q=>∃i j,x=.int i/\y=.int j/\Q (g i j) H
def rU (g:Int->V):V->Hp->VK->Prop:=λx H Q=>∃i,x=.int i/\Q (g i) H
section
theorem eB1 (j:PE X a ta)(c:PE X b tb){aA:Dz}{s:Shared}{σ:St}{H:Hp}{R:V->V->Hp->Prop}(I:Inv X aA σ H s)
  (h:ta σ H λx H1=>tb σ H1 λy H2=>R x y H2) {Q:Dy} {f:Value->Value->Sem Value}
  (m:∀v u s2 x y H2,Inv X aA σ H2 s2->RelV x v->RelV y u->R x y H2->wpAny (model X.prog X.w) X.A (f v u) Q X.xe s2) :
  wpAny (model X.prog X.w) X.A (eval a X.env) (λv s₁=>wpAny (model X.prog X.w) X.A (eval b X.env) (λu s₂=>wpAny (model X.prog X.w) X.A (f v u) Q X.xe s₂) X.xe s₁) X.xe s:=by
 refine thn (j aA s σ H _ I h) λv N e=>?_
 obtain⟨x,H1,z,J,Y⟩:=e;refine thn (c aA N σ H1 _ z Y) λu s2 e=>?_
 obtain⟨y,H2,k,M,U⟩:=e;exact m v u s2 x y H2 k J M U
theorem B2 (ho:OpR X (binaryOp op) r)(k:PE X a ta)(j:PE X b tb):PE X (.BinOp a op b pos) (tOp r ta tb):=by
 refine⟨?_⟩;intro z s σ H Q I h;exact wpAny_BinOp (eB1 k j I h λv u Y x y e w c m q=>ho z Y σ e x y v u Q w c m q)
theorem aU4 (ho:UnR X (unaryOp op) r)(z:PE X a ta):PE X (.UnaryOp op a pos) (tUn r ta):=by
 refine⟨?_⟩;intro e s σ H Q I h;exact UnaryOp_ (thn (z e s σ H _ I h) λv c ⟨x,y,w,j,k⟩=>ho e c σ y x v Q w j k)
theorem opI {f:Value->Value->Sem Value}{C:Int->Int->Prop}{g:Int->Int->Int}
  (e:∀(i j:Int) (t u:Tok) (s:Shared) (Q:Dy) (E:Dy),C i j->Q (.int (g i j) s.toks) {s with toks:=s.toks+1}->wpAny (model X.prog X.w) X.A (f (.int i t) (.int j u)) Q E s) :
  OpR X f (rI C λi j=>.int (g i j)):=by
 intro Y s σ H x y v u Q I k c h;obtain⟨i,j,rfl,rfl,z,q⟩:=h;obtain⟨t,rfl⟩:=k;obtain⟨m,rfl⟩:=c;exact e i j t m s _ _ z ⟨.int (g i j),H,I.tok _,⟨_,rfl⟩,q⟩
theorem eI2 {f:Value->Value->Sem Value}{g:Int->Int->Int}
  (e:∀(i j:Int) (t u:Tok) (s:Shared) (Q:Dy) (E:Dy),Q (.int (g i j) s.toks) {s with toks:=s.toks+1}->wpAny (model X.prog X.w) X.A (f (.int i t) (.int j u)) Q E s) :
  OpR X f (rI0 λi j=>.int (g i j)):=by
 intro m s σ H x y v u Q I z k h;obtain⟨i,j,rfl,rfl,q⟩:=h;obtain⟨t,rfl⟩:=z;obtain⟨c,rfl⟩:=k;exact e i j t c s _ _ ⟨.int (g i j),H,I.tok _,⟨_,rfl⟩,q⟩
theorem dJ1 {f:Value->Value->Sem Value}{g:Int->Int->Bool}
  (e:∀(i j:Int) (t u:Tok) (s:Shared) (Q:Dy) (E:Dy),Q (.bool (g i j)) s->wpAny (model X.prog X.w) X.A (f (.int i t) (.int j u)) Q E s) :
  OpR X f (rI0 λi j=>.bl (g i j)):=by
 intro m s σ H x y v u Q I z k h;obtain⟨i,j,rfl,rfl,q⟩:=h;obtain⟨t,rfl⟩:=z;obtain⟨c,rfl⟩:=k;exact e i j t c s _ _ ⟨.bl (g i j),H,I,rfl,q⟩
def eL7 (i j:Int):Prop:=0<j/\j<1073741824
theorem K8:OpR X (binaryOp .Add) (rI0 λi j=>.int (i+j)):=eI2 λ_ _ _ _ _ _ _ q=>add_int q
theorem V4:OpR X (binaryOp .Sub) (rI0 λi j=>.int (i-j)):=eI2 λ_ _ _ _ _ _ _ q=>sub_int q
theorem O5:OpR X (binaryOp .FloorDiv) (rI eL7 λi j=>.int (i / j)):=opI λi j _ _ _ _ _ e q=>by
 have h1:(0:Int)<j:=e.1
 have y:j<1073741824:=e.2
 exact floordiv_int (by lia) (by rw[Int.fdiv_eq_ediv_of_nonneg i (by lia)];exact q) (.inl (PyProof.noPylong_small (by lia)))
theorem K7:OpR X (binaryOp .Mod) (rI (λ_ j=>0<j) λi j=>.int (i % j)):=opI λi j _ _ _ _ _ e q=>by
 have h1:(0:Int)<j:=e
 exact mod_int' (by lia) (by rw[Int.fmod_eq_emod_of_nonneg i (by lia)];exact q)
theorem unI {f:Value->Sem Value}{g:Int->Int}
  (e:∀(i:Int) (t:Tok) (s:Shared) (Q:Dy) (E:Dy),Q (.int (g i) s.toks) {s with toks:=s.toks+1}->wpAny (model X.prog X.w) X.A (f (.int i t)) Q E s) :
  UnR X f (rU λi=>.int (g i)):=by
 intro z s σ H x v Q I y h;obtain⟨i,rfl,q⟩:=h;obtain⟨t,rfl⟩:=y;exact e i t s _ _ ⟨.int (g i),H,I.tok _,⟨_,rfl⟩,q⟩
theorem aC1:UnR X (unaryOp .USub) (rU λi=>.int (-i)):=unI λ_ _ _ _ _ q=>neg_int q
end
def eI5:V->V->Bool
 | .non,.non=>true | .non,.int _=>true | .int _,.non=>true | .non,.bl _=>true | .bl _,.non=>true | .non,.str _=>true | .str _,.non=>true
 | .int _,.int _=>true | .bl _,.bl _=>true | .str _,.str _=>true | .byt _,.byt _=>true
 | .int _,.str _=>true | .str _,.int _=>true | .bl _,.str _=>true | .str _,.bl _=>true
 | _,_=>false
def rEq:R2:=λx y H Q=>eI5 x y=true/\Q (.bl (decide (x=y))) H
def rNe:R2:=λx y H Q=>eI5 x y=true/\Q (.bl (!decide (x=y))) H
theorem cH2:decide (V.int i=V.int j)=(i==j):=by
 rw[Cv]
 simp
theorem cY7:decide (V.bl i=V.bl j)=(i==j):=by
 rw[Cv]
 simp
theorem cF1:decide (V.str i=V.str j)=(i==j):=by
 rw[Cv]
 simp
theorem cK9 {i j:Array UInt8}:decide (V.byt i=V.byt j)=(i.toList==j.toList):=by
 rw[Cv];cases i;cases j
 simp
section
theorem G3 (I:Inv X aA σ H s)(q:Q (.bl k) H)(e:k=k'):EP X aA σ Q (.bool k') s:=by
 subst e;exact⟨.bl k,H,I,rfl,q⟩
theorem a8:OpR X (compareOp .Eq) rEq:=by
 intro c s σ H x y v u Q I k e h;obtain⟨z,q⟩:=h;cases x with
 | non=>
  cases k
  cases y with
  | non=>cases e;exact PySem.EqNone.eq_none_none (G3 I q (by simp))
  | bl j=>cases e;exact PySem.EqNone.eq_none_bool (G3 I q (by simp))
  | int j=>obtain⟨w,rfl⟩:=e;exact PySem.EqNone.eq_none_int (G3 I q (by simp))
  | str j=>obtain⟨w,rfl⟩:=e;exact PySem.EqNone.eq_none_str (G3 I q (by simp))
  | _=>exact absurd (show false=true from z) Ak
 | bl i=>
  cases k
  cases y with
  | non=>cases e;exact PySem.EqNone.eq_bool_none (G3 I q (by simp))
  | bl j=>cases e;exact eq_bool (G3 I q cY7)
  | str j=>obtain⟨w,rfl⟩:=e;exact PySem.EqMixed.eq_bool_str (G3 I q (by simp))
  | _=>exact absurd (show false=true from z) Ak
 | int i=>
  obtain⟨t,rfl⟩:=k;cases y with
  | non=>cases e;exact PySem.EqNone.eq_int_none (G3 I q (by simp))
  | int j=>obtain⟨w,rfl⟩:=e;exact eq_int (G3 I q cH2)
  | str j=>obtain⟨w,rfl⟩:=e;exact PySem.EqMixed.eq_int_str (G3 I q (by simp))
  | _=>exact absurd (show false=true from z) Ak
 | str i=>
  obtain⟨t,rfl⟩:=k;cases y with
  | non=>cases e;exact PySem.EqNone.eq_str_none (G3 I q (by simp))
  | bl j=>cases e;exact PySem.EqMixed.eq_str_bool (G3 I q (by simp))
  | int j=>obtain⟨w,rfl⟩:=e;exact PySem.EqMixed.eq_str_int (G3 I q (by simp))
  | str j=>obtain⟨w,rfl⟩:=e;exact eq_str (G3 I q cF1)
  | _=>exact absurd (show false=true from z) Ak
 | byt i=>
  obtain⟨t,rfl⟩:=k;cases y with
  | byt j=>obtain⟨w,rfl⟩:=e;exact PySem.W.eq_bytes (G3 I q cK9)
  | _=>exact absurd (show false=true from z) Ak
 | _=>cases y <;> exact absurd (show false=true from z) Ak
theorem bI1:OpR X (compareOp .NotEq) rNe:=by
 intro c s σ H x y v u Q I k e h;obtain⟨z,q⟩:=h;cases x with
 | non=>
  cases k
  cases y with
  | non=>cases e;exact PySem.EqNone.ne_none_none (G3 I q (by simp))
  | bl j=>cases e;exact PySem.EqNone.ne_none_bool (G3 I q (by simp))
  | int j=>obtain⟨w,rfl⟩:=e;exact PySem.EqNone.ne_none_int (G3 I q (by simp))
  | str j=>obtain⟨w,rfl⟩:=e;exact PySem.EqNone.ne_none_str (G3 I q (by simp))
  | _=>exact absurd (show false=true from z) Ak
 | bl i=>
  cases k
  cases y with
  | non=>cases e;exact PySem.EqNone.ne_bool_none (G3 I q (by simp))
  | bl j=>cases e;exact ne_bool (G3 I q (congrArg not cY7))
  | str j=>obtain⟨w,rfl⟩:=e;exact PySem.EqMixed.ne_bool_str (G3 I q (by simp))
  | _=>exact absurd (show false=true from z) Ak
 | int i=>
  obtain⟨t,rfl⟩:=k;cases y with
  | non=>cases e;exact PySem.EqNone.ne_int_none (G3 I q (by simp))
  | int j=>obtain⟨w,rfl⟩:=e;exact ne_int (G3 I q (congrArg not cH2))
  | str j=>obtain⟨w,rfl⟩:=e;exact PySem.EqMixed.ne_int_str (G3 I q (by simp))
  | _=>exact absurd (show false=true from z) Ak
 | str i=>
  obtain⟨t,rfl⟩:=k;cases y with
  | non=>cases e;exact PySem.EqNone.ne_str_none (G3 I q (by simp))
  | bl j=>cases e;exact PySem.EqMixed.ne_str_bool (G3 I q (by simp))
  | int j=>obtain⟨w,rfl⟩:=e;exact PySem.EqMixed.ne_str_int (G3 I q (by simp))
  | str j=>obtain⟨w,rfl⟩:=e;exact ne_str (G3 I q (congrArg not cF1))
  | _=>exact absurd (show false=true from z) Ak
 | byt i=>
  obtain⟨t,rfl⟩:=k;cases y with
  | byt j=>obtain⟨w,rfl⟩:=e;exact PySem.W.ne_bytes (G3 I q (congrArg not cK9))
  | _=>exact absurd (show false=true from z) Ak
 | _=>cases y <;> exact absurd (show false=true from z) Ak
theorem bD3:OpR X (compareOp .Lt) (rI0 λi j=>.bl (decide (i<j))):=dJ1 λ_ _ _ _ _ _ _ q=>lt_int q
theorem eE3:OpR X (compareOp .LtE) (rI0 λi j=>.bl (decide (i<=j))):=dJ1 λ_ _ _ _ _ _ _ q=>le_int q
theorem aH0:OpR X (compareOp .Gt) (rI0 λi j=>.bl (decide (j<i))):=dJ1 λ_ _ _ _ _ _ _ q=>gt_int q
theorem eJ9:OpR X (compareOp .GtE) (rI0 λi j=>.bl (decide (j<=i))):=dJ1 λ_ _ _ _ _ _ _ q=>ge_int q
theorem cO0:OpR X (compareOp .In) (λx y H Q=>∃i j,x=.str i/\y=.str j/\Q (.bl (!(Builtin.Str.occurrences j i 0 j.length 1).isEmpty)) H):=by
 intro z s σ H x y v u Q I e w h;obtain⟨i,j,rfl,rfl,q⟩:=h;obtain⟨t,rfl⟩:=e;obtain⟨k,rfl⟩:=w;exact in_str (G3 I q rfl)
theorem bM0:OpR X (compareOp .IsNot) (λx y H Q=>y=.non/\Q (.bl (!decide (x=.non))) H):=by
 intro z s σ H x y v u Q I e w h;obtain⟨rfl,q⟩:=h;cases w;refine isnot_none_gen (G3 I q ?_);cases x <;> first
  | (cases e;rfl)
  | (obtain⟨t,rfl⟩:=e;rfl)
theorem C6 (b:Expr)(h:op≠.In:=by decide)(w:op≠.NotIn:=by decide):behindInMarks op b=false:=by
 have e:(op==CmpOp.In)=false:=by cases op <;> first | rfl | exact absurd rfl h
 have y:(op==CmpOp.NotIn)=false:=by cases op <;> first | rfl | exact absurd rfl w
 cases b <;> simp[behindInMarks,e,y]
theorem R9 (ho:OpR X (compareOp op) r)(k:PE X a ta)(j:PE X b tb)(c:behindInMarks op b=false):PE X (.Compare a [op] [b] pos) (tOp r ta tb):=by
 refine⟨?_⟩;intro z s σ H Q I h;exact wpAny_Compare1 (eB1 k j I h λv u U x y e w m Y q=>ho z U σ e x y v u Q w m Y q) c
def dR1 (t:TE):TT:=λσ H Q=>t σ H λx H'=>∃k,x=.bl k/\Q k H'
theorem C1 (ho:OpR X (compareOp op) r)(N:PE X a ta)(R:PE X b tb)(D:behindInMarks op b=false):PT X (.Compare a [op] [b] pos) (dR1 (tOp r ta tb)):=by
 refine⟨?_⟩;intro w s σ H Q I h;refine wpAny_isTrue_Compare1 (thn (N w s σ H _ I h) λv s1 ⟨x,j,U,r1,F⟩=>thn (R w s1 σ j _ U F) λu s2 ⟨y,m,J,r2,B⟩=>
  thn (ho w s2 σ m x y v u _ J r1 r2 B) λc s3 ⟨z,Y,M,r3,k,e,P⟩=>?_) D
 subst e;cases r3;exact wpAny_truthy_bool ⟨Y,M,P⟩
def dG3 (r r':R2)(ta tb tc:TE):TE:=λσ H Q=>ta σ H λx H1=>tb σ H1 λy H2=>r x y H2 λz H3=>∃k,z=.bl k /\
 (if k=true then tc σ H3 λw' H4=>r' y w' H4 Q else Q (.bl false) H3)
theorem dG4 (ho:OpR X (compareOp op) r)(j:OpR X (compareOp op') r')(P:PE X a ta)(hb:PE X b tb)(hc:PE X c tc)
  (hm:lastMarks [op,op'] [b,c]=false:=by with_unfolding_all rfl):PE X (.Compare a [op,op'] [b,c] pos) (dG3 r r' ta tb tc):=by
 refine⟨?_⟩;intro w s σ H Q I h;refine Compare_chain (thn (P w s σ H _ I h) λv s1 ⟨x,M,D,r1,q1⟩=>chain_link (thn (hb w s1 σ M _ D q1) λu s2 ⟨y,N,F,J,q2⟩=>
  thn (ho w s2 σ N x y v u _ F r1 J q2) λd s3 ⟨z,m,Y,r3,k,e,U⟩=>?_)) hm
 subst e;cases r3;refine wpAny_truthy_bool ?_;cases k with
 | false=>exact ite_ff ⟨.bl false,m,Y,rfl,U⟩
 | true=>exact ite_tt (chain_last (thn (hc w s3 σ m _ Y U) λw' s4 ⟨z',R,B,r4,q4⟩=>j w s4 σ R y z' u w' Q B J r4 q4))
theorem aJ7:(sizeLine:Nat)<2^63:=by rw[Dk];decide
theorem T9:OpR X (binaryOp .Add) (λx y H Q=>∃i j,x=.str i/\y=.str j/\i.length+j.length<=sizeLine/\Q (.str (i++j)) H):=by
 intro c s σ H x y v u Q I w z h;obtain⟨i,j,rfl,rfl,e,q⟩:=h;obtain⟨t,rfl⟩:=w;obtain⟨k,rfl⟩:=z;exact add_str (λk m=>⟨.str (i++j),H,I.tok _,⟨_,rfl⟩,q⟩) e
theorem S0 (r:Vals [x] us):∃u,us=[u]/\RelV x u:=by
 cases r with
 | cons e y=>cases y;exact⟨_,rfl,e⟩
end
theorem aR6 {h:Heap}{dx:Addr}{mA:Str->Option Value}(n:h.Ns1 dx mA):∃od,h.get? dx=some od/\∀name,PySem.W.lookIn name od=some (mA name):=by
 obtain⟨o,k,X,ho,c,s,_,m⟩:=n;refine⟨o,ho,λname=>?_⟩
 have e:=m name
 unfold nsFind findBy at e;rw[<- Array.find?_toList]at e;unfold PySem.W.lookIn;rw[c];dsimp only;split
 .rename_i y q;rw[q]at e;exact congrArg some e
 .rename_i q;rw[q]at e;have a:k.toList.any (·.refKey)=false:=by
   rw[List.any_eq_false];intro y Y;obtain⟨z,t,w⟩:=s y (Array.mem_toList_iff.mp Y)
   simp[DictEntry.refKey,w]
  have j:¬k.toList.any (·.refKey)=true:=by rw[a];exact Ak
  rw[Ac j];exact congrArg some e
theorem RelO.some_of (r:RelO (some v) o):∃u,o=some u/\RelV v u:=by
 cases o with
 | none=>exact(show False from r).elim
 | some u=>exact⟨u,rfl,r⟩
theorem bI6 (r:RelV v u):PySem.W.handedIn u=true:=by
 cases v with
 | non=>cases (show u=Value.none from r);rfl
 | bl b=>cases (show u=Value.bool b from r);rfl
 | int i=>obtain⟨t,e⟩:=(show ∃t,u=Value.int i t from r);cases e;rfl
 | str x=>obtain⟨t,e⟩:=(show ∃t,u=Value.str x t from r);cases e;rfl
 | byt b=>obtain⟨t,e⟩:=(show ∃t,u=Value.bytes b t from r);cases e;rfl
 | flt b=>obtain⟨t,e⟩:=(show ∃t,u=Value.float b t from r);cases e;rfl
 | ref a=>cases (show u=Value.ref a from r);rfl
 | ty n=>cases (show u=Value.type n from r);rfl
structure Cls (K:Frag)(C:Addr):Prop where
 pg:PySem.W.plainGet K C Str.empty=true
 hd:PySem.W.hasDictIn K C=true
 po:PySem.W.plainOver K C=true
 sa:PySem.W.findIn K (.ref C) "__setattr__" = some (some (.builtin "object.__setattr__"))
section
variable {X:Cx}{aA:Dz}{σ:St}{H:Hp}{s:Shared}{a C dx:Addr}{fs:List (Str×V)}{f:Str}{v:V}{A:Around}{E:Dy}
theorem cK5 (y:attributeBase e f env (eval e env)=eval e env)
  (h:wpAny (model prog w) A (eval e env) (λo s₁=>wpAny (model prog w) A (getAttr o f true) Q E s₁) E s):wpAny (model prog w) A (eval (.Attribute e f pos) env) Q E s:=
 Attribute_any_ h (by rw[arm_eval_Attribute,y])
end
structure Room (k:Nat)(A:Around):Prop where
 hd:A.handled=none
 dp:A.depth+3*k+5<recursionLimit
 un:A.units+16*k+200<cLine
theorem Room.mono (r:Room k A)(h:j<=k):Room j A:=⟨r.hd,by have:=r.dp;lia,by have:=r.un;lia⟩
theorem Room.deeper {k:Nat}{A:Around}(r:Room (k+1) A)(env:Env):Room k (A.deeper env):=
 ⟨r.hd,by have:=r.dp;show A.depth+1+3*k+5<_;lia,by have:=r.un;show A.units+3+16*k+200<_;lia⟩
theorem bZ5 {A:Around}{C:Addr}{us:AG}{kw:List (Str×Value)}:(A.under (.builtin "type.__call__" ⟨.ref C::us,kw⟩)).depth=A.depth+1:=by
 first | rfl | simp[Around.under,Code.weight,Code.isCreation,Code.isGuard,Code.isCaller,Code.frames,Code.isFrame,guardIds]
theorem cC1 {A:Around}{C:Addr}{us:AG}{kw:List (Str×Value)}:(A.under (.builtin "type.__call__" ⟨.ref C::us,kw⟩)).units=A.units+1:=by
 first | rfl | simp[Around.under,Code.cUnits,Code.frames,Code.isFrame]
theorem Room.make {k:Nat}{A:Around}(r:Room (k+1) A)(C:Addr)(us:AG)(e:List (Str×Value)):Room k (A.under (.builtin "type.__call__" ⟨.ref C::us,e⟩)):=
 ⟨r.hd,by have:=r.dp;rw[bZ5];lia,by have:=r.un;rw[cC1];lia⟩
theorem Room.depth {k:Nat}{A:Around}(r:Room k A):A.depth<recursionLimit:=by have:=r.dp;lia
def W2:TA:=λ_ H Q=>Q [] H
def J9 (ta:TE)(tr:TA):TA:=λσ H Q=>ta σ H λx H1=>tr σ H1 λxs H2=>Q (x::xs) H2
section
theorem A1:PA X [] W2:=⟨λ_ _ _ _ H Q I h=>Calls.spliced_nil ⟨[],H,I,.nil,h⟩⟩
theorem dO0 (m:PE X e te)(Y:PA X es t)(U:starEach (e::es) X.env=(false,eval e X.env)::starEach es X.env:=by rfl):PA X (e::es) (J9 te t):=by
 refine⟨?_⟩;intro y w s σ H Q I h;rw[U];show wpAny _ _ (spliced ((false,eval e X.env)::backTo y (starEach es X.env))) _ _ s;refine Calls.spliced_cons (thn (m w s σ H _ I h) λu F J=>?_)
 obtain⟨x,z,j,R,M⟩:=J;exact thn (Y y w F σ z _ j M) λP B ⟨xs,k,c,D,N⟩=>⟨x::xs,k,c,.cons R D,N⟩
def cB1 (t:TA):TE:=λσ H Q=>t σ H λxs H1=>xs.length<=sizeLine/\∀p,H1 p=none->Q (.ref p) (upd H1 p (.tup xs))
def eB9 (t:TA):TE:=λσ H Q=>t σ H λxs H1=>xs.length<=sizeLine/\∀p,H1 p=none->Q (.ref p) (upd H1 p (.lst xs))
theorem E9 (h:PA X es t):PE X (.Tuple es x1 pos) (cB1 t):=by
 refine⟨?_⟩;intro j s σ H Q I m;refine wpAny_Tuple_spliced (thn (h pos j s σ H _ I m) λY y ⟨xs,w,k,r,z,q⟩=>⟨by rw[<- r.length];exact z,?_⟩)
 have c:w y.heap.objs.size=none:=k.hok.fresh (Aa7 _)
 refine⟨.ref y.heap.objs.size,upd w y.heap.objs.size (.tup xs),k.laid (t':=y.toks) (λb u e=>Aa6 _ e) (Aa7 _) ?_,rfl,q _ c⟩
 exact⟨z,Y,r,⟨_,Ac3 _ rfl,rfl,⟨_,rfl⟩,rfl⟩⟩
theorem D5 (h:PA X es t):PE X (.List es pos) (eB9 t):=by
 refine⟨?_⟩;intro j s σ H Q I m;refine wpAny_List_spliced (thn (h pos j s σ H _ I m) λY y ⟨xs,w,k,r,z,q⟩=>⟨by rw[<- r.length];exact z,?_⟩)
 have c:w y.heap.objs.size=none:=k.hok.fresh (Aa7 _)
 refine⟨.ref y.heap.objs.size,upd w y.heap.objs.size (.lst xs),k.laid (t':=y.toks) (λb u e=>Aa6 _ e) (Aa7 _) ?_,rfl,q _ c⟩
 exact⟨z,Y,0,r,Ac3 _ rfl⟩
end
abbrev Sp:=List V->Hp->VK->XK->Prop
abbrev CXT:=List Env->Hp->Shared->XK->Value->Shared->Prop
structure Env0 (P:Program)(w:World)(K:Frag)(mg:Str->Option Value)(base:Heap)(A:Around)(outer:List Env)(s:Shared)(H:Hp):Prop where
 frames:A.frames=some outer
 mod:Mod K mg base
 bs:∀b o,base.get? b=some o->s.heap.get? b=some o/\H b=none
 bsz:base.objs.size<=s.heap.objs.size
 funs:s.heap.FunFrames base outer
 frf:∀b∈frs outer,H b=none
 hok:HOk P w H s.heap
 bare:AllBare s.gens
def CE (outer:List Env)(P:Program)(w:World)(H:Hp)(s:Shared)(Q:VK)(u:Value)(s':Shared):Prop:=
 ∃v H',s'.os=s.os/\AllBare s'.gens/\Un (frs outer) [] H H' s.heap s'.heap/\HOk P w H' s'.heap/\RelV v u/\Q v H'
def CR (CX:CXT)(outer:List Env)(P:Program)(w:World)(H:Hp)(s:Shared)(Q:VK)(E:XK)(r:Result)(s':Shared):Prop:=
 match r with
 | .ok (.ret u)=>CE outer P w H s Q u s'
 | .ok _=>False
 | .error e=>CX outer H s E e s'
structure J0 (P:Program)(w:World)(K:Frag)(mg:Str->Option Value)(base:Heap)(CX:CXT)(k:Nat)(f:Addr)(fd:FuncData)(ps:AH)(sp:Sp):Prop where
 len:∀vs H Q E,sp vs H Q E->vs.length=ps.length
 run:∀(A:Around) (outer:List Env) (s:Shared) (H:Hp) (args:Args) (us:AG) (vs:List V) (Q:VK) (E:XK),Room k A->Env0 P w K mg base A outer s H->BindsTo s fd args (ps.zip us)->Vals vs us->sp vs H Q E ->
  codeAny (model P w) A (.call (.ref f) args) (CR CX outer P w H s Q E) s
theorem Env0.make {P:Program}{w:World}{K:Frag}{mg:Str->Option Value}{base:Heap}{A:Around}{outer:List Env}{s:Shared}{H:Hp}(e:Env0 P w K mg base A outer s H)(C:Addr)(us:AG)(y:List (Str×Value)) :
  Env0 P w K mg base (A.under (.builtin "type.__call__" ⟨.ref C::us,y⟩)) outer s H:=⟨by first | exact e.frames | (simpa[Around.under,Code.envs,Code.isFrame,pushEnvs]using e.frames),e.mod,e.bs,e.bsz,e.funs,e.frf,e.hok,e.bare⟩
section
theorem Inv.env0 (I:Inv X aA σ H s):Env0 X.prog X.w X.K X.mg X.base X.A X.stack s H:=
 ⟨I.ok.frames,I.ok.mod,I.bs,Ax I.ok.bsz I.sz,I.stack,I.stkFree,I.hok,I.bare⟩
theorem Inv.after (I:Inv X aA σ H s)(h:CE X.stack X.prog X.w H s Q u s'):EP X aA σ Q u s':=by
 obtain⟨v,j,os,e,un,y,r,q⟩:=h;obtain⟨c,g,d,t,k⟩:=s';obtain rfl:k=s.os:=os;exact⟨v,j,I.call (h':=c) (g':=g) (d':=d) (t':=t) (ch:=[]) un y e (λb z=>absurd z (by simp)),r,q⟩
end
def aO9 (sp:Sp)(dvs:List V)(E:XK)(t:TA):TE:=λσ H Q=>t σ H λvs H1=>sp (vs++dvs) H1 Q E
def Binds (K:Frag)(fd:FuncData)(ps:AH)(ds:AG):Prop:=
 ∀(s:Shared) (us:AG),K.In s.heap->(us++ds).length=ps.length->BindsTo s fd ⟨us,[]⟩ (ps.zip (us++ds))
theorem Binds.all {K:Frag}{fd:FuncData}{ps:AH}(h:∀us:AG,us.length=ps.length->bindArgs fd ⟨us,[]⟩=pure (ps.zip us)):Binds K fd ps []:=λs us _ e=>by
 rw[Bm]at e ⊢;exact .of_eq (h us e)
def n5 (CX:CXT)(X:Cx)(E:XK):Prop:=∀(aA:Dz) (σ:St) (H:Hp) (s:Shared) (e:Value) (s':Shared),Inv X aA σ H s->CX X.stack H s E e s'->X.xe e s'
section
theorem cS2 (F:J0 X.prog X.w X.K X.mg X.base CX k f fd ps sp)(Y:Room k X.A)(j:Binds X.K fd ps ds)(c:Vals dvs ds)(U:n5 CX X E)
  (I:Inv X aA σ H s) (r:Vals vs us) (h:sp (vs++dvs) H Q E):wpAny (model X.prog X.w) X.A (call (.ref f) us) (EP X aA σ Q) X.xe s:=by
 have z:Vals (vs++dvs) (us++ds):=r.append c
 have m:(us++ds).length=ps.length:=by rw[<- z.length];exact F.len _ _ _ _ h
 refine wpAny_call (codeAny_mono (F.run X.A X.stack s H ⟨us,[]⟩ (us++ds) (vs++dvs) Q E Y I.env0 (j s us I.kIn m) z h) λr J y=>?_)
 cases r with
 | error e=>exact U aA σ H s e J I y
 | ok fl=>
  cases fl with
  | ret u=>exact I.after y
  | next=>exact False.elim y
  | brk=>exact False.elim y
  | cont=>exact False.elim y
theorem cH4 (F:J0 X.prog X.w X.K X.mg X.base CX k f fd ps sp)(D:Room k X.A)(M:Gl X x)(R:X.mg x=some (.ref f))(N:PySem.W.keepIn X.K (.ref f)=true)(Y:Binds X.K fd ps ds)(U:Vals dvs ds)(B:n5 CX X E)
  (m:PA X (e::es) t) (y:(x==("__debug__" : Str))=false:=by decide) (J:starEach (e::es) X.env=(false,eval e X.env)::starEach es X.env:=by rfl) (z:(backTo pos (starEach es X.env)).any (·.1)=false:=by rfl) :
  PE X (.Call (.Name x p) (e::es) [] pos) (aO9 sp dvs E t):=by
 refine⟨?_⟩;intro c s σ H Q I h;refine wpAny_Call_Name_kw (j7 I M R ?_ y);refine PySem.W.callWith_K (h₀:=X.base) I.ok.mod.kin N (thn (m pos c s σ H _ I h) λus s1 ⟨vs,P,j,r,q⟩=>⟨j.kIn,?_⟩) J z
 exact cS2 F D Y U B j r q
end
structure C3 (N P:AH)(sc:Scope):Prop where
 kind:sc.kind=.function:=by rfl
 co:sc.isCoroutine=false:=by rfl
 gen:sc.isGenerator=false:=by rfl
 nd:N.Nodup:=by decide +kernel
 pre:N.take P.length=P:=by rfl
 par:∀x∈P,sc.names.lookup x=some .local\/sc.names.lookup x=some .cell:=by decide +kernel
 nofree:∀y∈sc.names,y.2≠.free:=by decide +kernel
theorem bI4 {kindOf:Str->Option NameKind}{x:Str}:∀{binds:List (Str×Value)} {m:Str->Option Value},(∀v,(x,v)∉binds)->bindL kindOf binds m x=m x
 | [],_,_=>rfl
 | (n,v)::r,m,h=>by
  unfold bindL;rw[bI4 λw e=>h w (Ad4 _ e)]
  split
  .have:x≠n:=by rintro rfl;exact h v Af
   simp[this]
  .rfl
theorem bJ5 {kindOf:Str->Option NameKind}{x:Str}:∀{binds:List (Str×Value)} {m:Str->Option Value},(∀v,(x,v)∉binds)->bindC kindOf binds m x=m x
 | [],_,_=>rfl
 | (n,v)::r,m,h=>by
  unfold bindC;rw[bJ5 λw e=>h w (Ad4 _ e)]
  split
  .rfl
  .have:x≠n:=by rintro rfl;exact h v Af
   simp[this]
theorem bH3 {kindOf:Str->Option NameKind}{x:Str}{v:Value}:∀{P:AH} {vs:AG} {i:Nat} {m:Str->Option Value},P.Nodup->P[i]? = some x->vs[i]? = some v->kindOf x=some .local ->
  bindL kindOf (P.zip vs) m x=some v
 | [],_,_,_,_,h,_,_=>by simp at h
 | _::_,[],_,_,_,_,h,_=>by simp at h
 | p::P,w::vs,0,m,nd,h1,h2,hk=>by
  simp at h1 h2;subst h1;subst h2
  show bindL kindOf ((p,w)::P.zip vs) m p=_
  unfold bindL;rw[bI4 λv e=>(Aa5.mp nd).1 (List.of_mem_zip e).1,Ae hk]
  simp
 | p::P,w::vs,i+1,m,nd,h1,h2,hk=>by
  show bindL kindOf ((p,w)::P.zip vs) m x=_
  unfold bindL;exact bH3 (i:=i) (Aa5.mp nd).2 (by simpa using h1) (by simpa using h2) hk
theorem bH4 {kindOf:Str->Option NameKind}{x:Str}{v:Value}:∀{P:AH} {vs:AG} {i:Nat} {m:Str->Option Value},P.Nodup->P[i]? = some x->vs[i]? = some v->kindOf x≠some .local ->
  bindC kindOf (P.zip vs) m x=some v
 | [],_,_,_,_,h,_,_=>by simp at h
 | _::_,[],_,_,_,_,h,_=>by simp at h
 | p::P,w::vs,0,m,nd,h1,h2,hk=>by
  simp at h1 h2;subst h1;subst h2
  show bindC kindOf ((p,w)::P.zip vs) m p=_
  unfold bindC;rw[bJ5 λv e=>(Aa5.mp nd).1 (List.of_mem_zip e).1,Ac hk]
  simp
 | p::P,w::vs,i+1,m,nd,h1,h2,hk=>by
  show bindC kindOf ((p,w)::P.zip vs) m x=_
  unfold bindC;exact bH4 (i:=i) (Aa5.mp nd).2 (by simpa using h1) (by simpa using h2) hk
def S5 (N:AH)(vs:List V):St:=vs.map some++List.replicate (N.length-vs.length) none
def aV4 (CX:CXT)(P:Program)(w:World)(K:Frag)(mg:Str->Option Value)(base:Heap)(N:AH)(qual:Str)(scope:Scope)(f:Addr)(cd:Value)(A:Around)(outer:List Env)(s:Shared)(H:Hp)(E:XK):Cx where
 prog:=P
 w:=w
 K:=K
 mg:=mg
 base:=base
 A:=A.deeper (envOfC qual scope s.heap.objs.size f cd)
 N:=N
 s₀:=s
 H₀:=H
 env:=envOfC qual scope s.heap.objs.size f cd
 outer:=outer
 stack:=envOfC qual scope s.heap.objs.size f cd::outer
 ex:=[]
 calm:=true
 fn:=λ_=>true
 pn:=[]
 xe:=λe s'=>wpAny (model P w) (A.deeper (envOfC qual scope s.heap.objs.size f cd)) (leaving (envOfC qual scope s.heap.objs.size f cd) e) (λ_ s''=>CX outer H s E e s'') (λe' s''=>CX outer H s E e' s'') s'
theorem bX2 {sc:Scope}{n:Nat}{x:Str}(h:sc.names.lookup x=some .cell):∃c,(cellsFrom n sc.names []).lookup x=some c:=by
 have q:=PySem.W.cellsFrom_some sc.names n [] (.inl h)
 exact Option.isSome_iff_exists.mp q
theorem bG7 {CX:CXT}{P:Program}{w:World}{K:Frag}{mg:Str->Option Value}{base:Heap}{N ps:AH}{qual:Str}{scope:Scope}{f:Addr}{cd:Value}{A:Around}{outer:List Env}{s s1:Shared}{H:Hp}{E:XK}{us:AG}{vs:List V}
  (S:C3 N ps scope) (R:A.handled=none) (m:Env0 P w K mg base A outer s H) (B:vs.length=ps.length) (r:Vals vs us)
  (x:InCallC s s.heap.objs.size (bindL (envOfC qual scope s.heap.objs.size f cd).kindOf (ps.zip us) λ_=>none) (cellsFrom (s.heap.objs.size+1) scope.names []) (bindC (envOfC qual scope s.heap.objs.size f cd).kindOf (ps.zip us) λ_=>none) s1) :
  Inv (aV4 CX P w K mg base N qual scope f cd A outer s H E) [] (S5 N vs) H s1:=by
 have Q:ps.length<=N.length:=by have:=congrArg List.length S.pre;rw[Ad1]at this;lia
 obtain⟨h1,tk,rfl,U⟩:=x.done;have Y:∀b:Addr,b∉(aV4 CX P w K mg base N qual scope f cd A outer s H E).ex:=λb z=>absurd (show b∈([]:AL) from z) (by simp)
 refine⟨⟨m.mod,S.kind,rfl,rfl,Aa7 _,λy z c h1 j=>?_,λy hy=>?_,λy c _ h=>?_,λ_=>R,Around.frames_deeper m.frames,.inr ⟨rfl,rfl⟩,λb z=>absurd z (Y b),m.bs,m.bsz,λb _ _=>Y b,λb z=>absurd z (Y b),m.funs,m.frf⟩,
  rfl,m.bare,Un.kept U,⟨_,x.toInCall.ns,λi y v h1 j F=>?_⟩,λy c h=>⟨_,x.cell y c h⟩,m.hok.fresh (Aa7 _),λy c h=>?_,λp hp=>absurd (show p∈([]:Dz) from hp) (by simp),m.hok.kept U,?_⟩
 .exact name_of_addr x.apart (PySem.mem_of_lookup h1) (PySem.mem_of_lookup j)
 .have hy:scope.names.lookup y=some .cell\/scope.names.lookup y=some .free:=hy
  rcases hy with hy | hy
  .exact bX2 hy
  .exact absurd rfl (S.nofree _ (PySem.mem_of_lookup hy))
 .exact Cw (x.above y c (PySem.mem_of_lookup h))
 .have hi:i<vs.length:=by
   unfold S5 at j;by_cases hi:i<vs.length
   .exact hi
   .rw[Bi (by simpa using hi)]at j
    rw[Cp]at j;split at j <;> cases j
  have M:vs[i]? = some v:=by
   unfold S5 at j;rw[Bp (by simpa using hi),Aa9]at j
   cases e:vs[i]? with
   | none=>rw[e]at j;cases j
   | some a=>rw[e]at j;cases j;rfl
  obtain⟨u,J,D⟩:=r.get M;have hp:ps[i]? = some y:=by
   rw[<- S.pre,List.getElem?_take_of_lt (by lia)];exact h1
  have X:ps.Nodup:=by rw[<- S.pre];exact S.nd.sublist (List.take_sublist _ _)
  refine⟨u,D,?_⟩;rcases S.par y (Bf hp) with k | k
  .exact .inl ⟨k,bH3 X hp J k⟩
  .obtain⟨c,e⟩:=bX2 (n:=s.heap.objs.size+1) k;refine .inr ⟨.inl k,c,e,?_⟩;have q:=x.cell y c e;rw[bH4 X hp J (by show scope.names.lookup y≠_;rw[k];decide)]at q
   exact q
 .exact m.hok.fresh (Cw (x.above y c (PySem.mem_of_lookup h)))
 .unfold S5;show _=N.length;rw[Ab7,Aa3,Ct]
  lia
theorem dQ7 {CX:CXT}{P:Program}{w:World}{K:Frag}{mg:Str->Option Value}{base:Heap}{k:Nat}{f:Addr}{name qual:Str}{params:Arguments}{body:List Stmt}{scope:Scope}{dV kV doc pm cdv ct oc:Value}{an od:AK}
  {osl:Array (Option Value)} {N ps:AH} {sp:Sp} (lk:K.lookup f=some ⟨oc,od,.func (PySem.W.fnOf name qual params body scope dV kV doc pm an cdv ct),osl⟩) (M:PySem.W.codeIn K cdv qual=true) (S:C3 N ps scope)
  (len:∀vs H Q E,sp vs H Q E->vs.length=ps.length)
  (z:∀(A:Around) (outer:List Env) (s:Shared) (H:Hp) (vs:List V) (Q:VK) (E:XK),Room k (A.deeper (envOfC qual scope s.heap.objs.size f cdv))->sp vs H Q E ->
   ∃t,PSs (aV4 CX P w K mg base N qual scope f cdv A outer s H E) body t/\t {nx:=λ_ H'=>Q .non H',rt:=Q} (S5 N vs) H) :
  J0 P w K mg base CX (k+1) f (PySem.W.fnOf name qual params body scope dV kV doc pm an cdv ct) ps sp:=by
 refine⟨len,λA outer s H args us vs Q E R m hb r X=>?_⟩
 have hl:=len _ _ _ _ X
 have KX:K.In s.heap:=m.mod.kin.keeps λb o e=>(m.bs b o e).1
 have D:s.heap.NoLimit:=m.mod.nolimit.keeps λb o e=>(m.bs b o e).1
 have j:∀y∈ps.zip us,scope.names.lookup y.1=some .local\/(scope.names.lookup y.1=some .cell/\((cellsFrom (s.heap.objs.size+1) scope.names []).lookup y.1).isSome=true):=by
  rintro⟨n,v⟩ hy;rcases S.par n (List.of_mem_zip hy).1 with q | q
  .exact .inl q
  .exact .inr ⟨q,PySem.W.cellsFrom_some _ _ _ (.inl q)⟩
 refine codeAny_call_function R.depth (KX _ _ lk) rfl S.co S.gen rfl (PySem.W.codeRec_of KX M) (hb _ _ _ _ ?_);refine wpAny_newFunctionEnv_cells S.kind j λenv he s1 x=>?_
 subst he;refine⟨D.keeps x.toInCall.keep,codeAny_func ?_⟩;obtain⟨t,ht,hq⟩:=z A outer s H vs Q E (R.deeper _) X;have I:Inv (aV4 CX P w K mg base N qual scope f cdv A outer s H E) [] (S5 N vs) H s1:=bG7 S R.hd m hl r x;refine wpAny_mono (ht [] s1 (S5 N vs) H _ I hq) (λfl B c=>?_) λe B c=>c
 have Y:∀{U:St} {H':Hp} {v:V} {u:Value},Inv (aV4 CX P w K mg base N qual scope f cdv A outer s H E) [] U H' B->RelV v u->Q v H'->CE outer P w H s Q u B:=
  λ{U H' v u} J F q=>⟨v,H',J.os,J.bare,J.base,J.hok,F,q⟩
 cases fl with
 | ret u=>
  obtain⟨v,U,H',J,F,q⟩:=c;exact Y J F q
 | next=>
  obtain⟨U,H',J,q⟩:=c;exact Y (v:=V.non) (u:=Value.none) J rfl q
 | brk=>
  obtain⟨_,_,_,q⟩:=c;exact False.elim q
 | cont=>
  obtain⟨_,_,_,q⟩:=c;exact False.elim q
section
variable {X:Cx}{x:Str}{p pos:Pos}{e:Expr}{es:AM}{t:TA}{id T:String}{r:List V->Hp->VK->Prop}
def tCB (r:List V->Hp->VK->Prop)(t:TA):TE:=λσ H Q=>t σ H λvs H1=>r vs H1 Q
theorem B5 (m:R4 X (.builtin id) r)(U:Gl X x)(J:X.mg x=none)(N:bootBuiltins x=some (.builtin id))(c:PA X (e::es) t)(M:x≠"__name__" := by decide)(y:(x==("__debug__" : Str))=false:=by decide)
  (Y:starEach (e::es) X.env=(false,eval e X.env)::starEach es X.env:=by rfl) (w:(backTo pos (starEach es X.env)).any (·.1)=false:=by rfl):PE X (.Call (.Name x p) (e::es) [] pos) (tCB r t):=by
 refine⟨?_⟩;intro z s σ H Q I h;refine wpAny_Call_Name_kw (t8 I U J N ?_ M y);exact PyProof.Rows.callWith_builtin1 (thn (c pos z s σ H _ I h) λB F ⟨vs,k,j,D,R⟩=>m z F σ k vs B Q j D R) Y w
theorem L7 (m:R4 X (.type T) r)(U:Gl X x)(J:X.mg x=none)(N:bootBuiltins x=some (.type T))(c:PA X (e::es) t)(M:x≠"__name__" := by decide)(y:(x==("__debug__" : Str))=false:=by decide)
  (Y:starEach (e::es) X.env=(false,eval e X.env)::starEach es X.env:=by rfl) (w:(backTo pos (starEach es X.env)).any (·.1)=false:=by rfl):PE X (.Call (.Name x p) (e::es) [] pos) (tCB r t):=by
 refine⟨?_⟩;intro z s σ H Q I h;refine wpAny_Call_Name_kw (t8 I U J N ?_ M y);exact Bj (thn (c pos z s σ H _ I h) λB F ⟨vs,k,j,D,R⟩=>m z F σ k vs B Q j D R) Y w
end
end L2
namespace HT
open PySem PyProof.Rows
def k8:AD->AD->Bool
 | [],[]=>false
 | [],_::_=>true
 | _::_,[]=>false
 | x::xs,y::ys=>if x=y then k8 xs ys else decide (x<y)
section
open PySem.SeqAt
open PySem.AutoSeq1 (wpAny_loadPart')
open PySem.MeetsSeq PySem.MeetsSeq2 PySem.MeetsSeq3
end
section
theorem dL3 {t b:Addr}{vs ws:AG}{Q:Dy}(ht:IsTup s.heap t vs.toArray)(P:IsTup s.heap b ws.toArray)(N:vs≠[])
  (h1:ws=[]->Q (.ref t) s) (B:ws≠[]->Q (.ref s.heap.objs.size) {s with heap:=s.heap.push {cls:=.type "tuple",data:=.seq (vs++ws).toArray}})
  (hsz:vs.length+ws.length<=sizeLine):wpAny (model prog w) A (binaryOp .Add (.ref t) (.ref b)) Q E s:=by
 obtain⟨⟨cls,U,data,D⟩,ho,J,n,M⟩:=id ht;obtain⟨⟨X,z,Y,c⟩,y,k,R,j⟩:=id P;simp only at J M k j;subst J M k j;have e:vs.toArray++ws.toArray=(vs++ws).toArray:=by simp
 by_cases m:ws=[]
 .exact concat_meets ⟨_,ho,rfl⟩ ⟨_,y,rfl⟩ noFill_tuple_add seq_tuple_add PySem.F.slot_tuple_add PySem.F.entry_tuple_add (PySem.F.args_tuple_add_2 _ _)
   (tuple_addW1 t b vs.toArray ws.toArray n R U z D c (by simpa using N) (by simp[m])) ⟨ho,y,h1 m⟩
 .refine concat_meets ⟨_,ho,rfl⟩ ⟨_,y,rfl⟩ noFill_tuple_add seq_tuple_add PySem.F.slot_tuple_add PySem.F.entry_tuple_add (PySem.F.args_tuple_add_2 _ _)
   (tuple_addW2 t b vs.toArray ws.toArray n R U z D c (by simpa using N) (by simpa using m) (by rw[Ab2,Ab2];exact hsz)) ⟨ho,y,?_⟩
  rw[e];exact B m
def sIx (n d:Nat):Option Int->Nat
 | none=>d
 | some v=>if v<0 then(v+(n:Int)).toNat else min v.toNat n
theorem dW5 (n d:Nat)(y:d<=n)(o:Option Int):sIx n d o<=n:=by
 cases o with
 | none=>exact y
 | some v=>
  show(if v<0 then(v+(n:Int)).toNat else min v.toNat n)<=n
  by_cases e:v<0
  .rw[Ae e];lia
  .rw[Ac e];exact Nat.min_le_right _ _
theorem cF5 (v:Int)(n d:Nat):(if v<0 then max (v+(n:Int)) 0 else min v (n:Int))=((sIx n d (some v):Nat):Int):=by
 show(if v<0 then max (v+(n:Int)) 0 else min v (n:Int))=(((if v<0 then(v+(n:Int)).toNat else min v.toNat n):Nat):Int)
 by_cases e:v<0
 .simp only[Ae e];lia
 .simp only[Ac e];lia
theorem cA0 (lo hi:Option Int)(n:Nat):Builtin.Slice.sliceAdjust lo hi 1 (n:Int)=(((sIx n 0 lo:Nat):Int),((sIx n n hi:Nat):Int)):=by
 have h1:¬((1:Int)<0):=by lia
 unfold Builtin.Slice.sliceAdjust;simp only[h1,if_false];refine Prod.ext ?_ ?_
 .cases lo with
  | none=>rfl
  | some v=>exact cF5 v n 0
 .cases hi with
  | none=>rfl
  | some v=>exact cF5 v n n
theorem cB8 (i j:Nat):Builtin.Slice.slicePlaces (i:Int) (j:Int) 1=j-i:=by
 unfold Builtin.Slice.slicePlaces;have h1:(1:Int)>0:=by lia
 simp only[h1,if_true,Int.ediv_one];split <;> lia
theorem bA1 (p:IsPart v o)(h:Q o s):wpAny (model prog w) A (Builtin.Slice.slicePartIndex v) Q E s:=by
 cases p with
 | none=>exact slicePart_none h
 | int i t=>exact slicePart_int h
theorem p5 {sl:Addr}{vl vu:Value}{lo hi:Option Int}{n:Nat}{Q:Int×Int×Nat->Shared->Prop}(k:s.heap.IsSliceOf sl vl vu .none)(pl:IsPart vl lo)(j:IsPart vu hi)
  (h:Q (((sIx n 0 lo:Nat):Int),1,sIx n n hi-sIx n 0 lo) s):wpAny (model prog w) A (Builtin.Slice.sliceApplied (.ref sl) (pure (n:Int))) Q E s:=by
 obtain⟨os,y,z,e⟩:=id k;unfold Builtin.Slice.sliceApplied Builtin.Slice.sliceFields;refine Aa (Aa (wpAny_field y e (x:=vl) rfl (Aa (wpAny_field y e (x:=vu) rfl (Aa (wpAny_field y e (x:=.none) rfl (Ab ?_)))))));refine Aa (slicePart_none ?_);show wpAny _ _ (if((1:Int)==0)=true then _ else _) _ _ s;rw[Ac (by decide)]
 refine Aa (bA1 pl (Aa (bA1 j (Aa (Ab ?_)))));show wpAny _ _ (match Builtin.Slice.sliceAdjust lo hi 1 (n:Int) with | (lo,hi)=>pure (lo,(1:Int),Builtin.Slice.slicePlaces lo hi 1)) _ _ s
 rw[cA0 lo hi n];show wpAny _ _ (pure (((sIx n 0 lo:Nat):Int),(1:Int),Builtin.Slice.slicePlaces ((sIx n 0 lo:Nat):Int) ((sIx n n hi:Nat):Int) 1)) _ _ s;rw[cB8];exact Ab h
theorem cS0 (xs:AJ)(i k:Nat):((List.range k).filterMap λ(m:Nat)=>xs[((i:Int)+(m:Int)*1).toNat]?).toArray=((xs.toList.drop i).take k).toArray:=by
 have e:(λ(m:Nat)=>xs[((i:Int)+(m:Int)*1).toNat]?)=λm=>xs[i+m]? := by
  funext m
  have:((i:Int)+(m:Int)*1).toNat=i+m:=by lia
  rw[this]
 rw[e]
 have:=pick_run xs i k
 rw[Ar]at this;have y:((λx=>xs[x]?) ∘ λx=>i+x)=λm=>xs[i+m]? := rfl
 rw[y]at this;rw[this]
theorem aN1 {t sl:Addr}{items:AJ}{vl vu:Value}{lo hi:Option Int}{Q:Dy}(y:IsTup s.heap t items)(Y:s.heap.IsSliceOf sl vl vu .none)(pl:IsPart vl lo)(J:IsPart vu hi)
  (U:¬(sIx items.size 0 lo=0/\sIx items.size items.size hi=items.size))
  (h:Q (.ref s.heap.objs.size) {s with heap:=s.heap.push {cls:=.type "tuple",data:=.seq ((items.toList.drop (sIx items.size 0 lo)).take (sIx items.size items.size hi-sIx items.size 0 lo)).toArray}})
  (hsz:items.size<=sizeLine):wpAny (model prog w) A (getItem (.ref t) (.ref sl)) Q E s:=by
 have e:sizeOk (.seq ((items.toList.drop (sIx items.size 0 lo)).take (sIx items.size items.size hi-sIx items.size 0 lo)).toArray):=by
  show((items.toList.drop (sIx items.size 0 lo)).take (sIx items.size items.size hi-sIx items.size 0 lo)).toArray.size<=sizeLine
  rw[Ab2,Ad1,Bb,Bl]
  lia
 have M:sIx items.size items.size hi<=items.size:=dW5 _ _ (Aa7 _) hi
 obtain⟨os,c,k,X⟩:=id Y;have z:s.TypeIs (.ref sl) "slice" := ⟨os,c,k⟩;unfold getItem
 try with_reducible refine Bz ?_
 first | refine Aa (Ab ?_) | skip
 refine Aa (wpAny_sequenceKey y.typeIs (by decide) ?_)
 refine Aa (De (name:=Str.ofString "__getitem__") y.typeIs Bk
  (Dd Bk y.typeIs entry_tuple_getitem ?_ (args_tuple_getitem _ _)))
 show wpAny _ _ (Builtin.Tuple.tupleItemsOf (.ref t) >>= _) _ _ s
 refine Aa (tupleItemsOf_ y ?_);refine Aa (wpAny_typeOf z ?_);rw[Ae (by decide)]
 refine Aa (p5 Y pl J ?_);have j:¬((((sIx items.size 0 lo:Nat):Int)==0&&(1:Int)==1&&(sIx items.size items.size hi-sIx items.size 0 lo)==items.size)=true):=by
  intro q;rw[Bu,Bu]at q;have N:((sIx items.size 0 lo:Nat):Int)=0:=eq_of_beq q.1.1;have R:sIx items.size items.size hi-sIx items.size 0 lo=items.size:=eq_of_beq q.2;exact U ⟨by lia,by lia⟩
 show wpAny _ _ (if(((sIx items.size 0 lo:Nat):Int)==0&&(1:Int)==1&&(sIx items.size items.size hi-sIx items.size 0 lo)==items.size)=true then _ else _) _ _ s
 rw[Ac j,cS0];first
  | exact Aa (m:=Builtin.Tuple.tupleExact _) (Cg (Ab ⟨_,rfl,Ab h⟩) e)
  | exact Aa (m:=Builtin.Tuple.tupleExact _) (Cg (Aa (Ab (Ab ⟨_,rfl,Ab h⟩))) e)
  | exact Aa (Aa (m:=Builtin.Tuple.tupleExact _) (Cg (Ab (Ab ⟨_,rfl,Ab h⟩)) e))
  | exact Aa (Aa (m:=Builtin.Tuple.tupleExact _) (Cg (Ab ⟨_,rfl,Ab h⟩) e))
end
end HT
namespace L2
open PySem PySem.Spec PyProof.Rows
abbrev TO:=St->Hp->(Option Int->Hp->Prop)->Prop
structure PO (X:Cx)(e:Option Expr)(t:TO):Prop where
 mk ::
 run :
  ∀(aA:Dz) (s:Shared) (σ:St) (H:Hp) (Q:Option Int->Hp->Prop),Inv X aA σ H s->t σ H Q ->
   wpAny (model X.prog X.w) X.A (evalPart e X.env) (λu s'=>∃o H',Inv X aA σ H' s'/\IsPart u o/\Q o H') X.xe s
instance {X:Cx} {e:Option Expr} {t:TO}:CoeFun (PO X e t) λ_=>
 (∀(aA:Dz) (s:Shared) (σ:St) (H:Hp) (Q:Option Int->Hp->Prop),Inv X aA σ H s->t σ H Q ->
  wpAny (model X.prog X.w) X.A (evalPart e X.env) (λu s'=>∃o H',Inv X aA σ H' s'/\IsPart u o/\Q o H') X.xe s):=⟨PO.run⟩
def aW6:TO:=λ_ H Q=>Q none H
def dS9 (t:TE):TO:=λσ H Q=>t σ H λx H1=>∃i,x=.int i/\Q (some i) H1
section
variable {X:Cx}{e:Expr}{te:TE}{lo hi:Option Expr}{tl th:TO}{pos p2:Pos}
theorem W9:PO X none aW6:=by
 refine⟨?_⟩;intro y s σ H Q I h;rw[evalPart_none];exact Ab ⟨none,H,I,.none,h⟩
theorem T1 (h:PE X e te):PO X (some e) (dS9 te):=by
 refine⟨?_⟩;intro z s σ H Q I k;rw[evalPart_some];refine thn (h z s σ H _ I k) λu Y j=>?_
 obtain⟨x,y,w,m,c⟩:=j;obtain⟨i,rfl,q⟩:=c;obtain⟨t,rfl⟩:=m;exact⟨some i,y,w,.int i t,q⟩
def SlR (X:Cx)(r:V->Option Int->Option Int->Hp->VK->Prop):Prop:=
 ∀(aA:Dz) (s:Shared) (σ:St) (H:Hp) (x:V) (v vl vu:Value) (lo hi:Option Int) (sl:Addr) (Q:VK),Inv X aA σ H s->RelV x v->s.heap.IsSliceOf sl vl vu .none->IsPart vl lo->IsPart vu hi->r x lo hi H Q ->
  ∃T id,typeLookup (.type T) "__getitem__" = pure (some (.builtin id))/\s.TypeIs v T/\wpAny (model X.prog X.w) X.A (getItem v (.ref sl)) (EP X aA σ Q) X.xe s
def tSl (r:V->Option Int->Option Int->Hp->VK->Prop)(te:TE)(tl th:TO):TE:=λσ H Q=>te σ H λx H1=>tl σ H1 λl H2=>th σ H2 λu H3=>r x l u H3 Q
theorem Q7 (hr:SlR X r)(F:PE X e te)(P:PO X lo tl)(hu:PO X hi th):PE X (.Subscript e (.Slice lo hi none p2) pos) (tSl r te tl th):=by
 refine⟨?_⟩;intro z s σ H Q I h;refine Subscript_ (thn (F z s σ H _ I h) λv s1 c=>?_)
 obtain⟨x,Y,J,r1,q1⟩:=c;refine wpAny_Slice (thn (P z s1 σ Y _ J q1) λk s2 ⟨l,U,M,pl,q2⟩=>thn (hu z s2 σ U _ M q2) λj y c=>?_)
 obtain⟨u,m,N,pu,q3⟩:=c;rw[evalPart_none];refine Ab ?_;have R:Inv X z σ m {y with heap:=y.heap.push {cls:=.type "slice",data:=.fields #[k,j,.none]}}:=N.kept (t':=y.toks) λb ob q=>Aa6 _ q
 obtain⟨T,id,D,ht,B⟩:=hr z {y with heap:=y.heap.push {cls:=.type "slice",data:=.fields #[k,j,.none]}} σ m x v k j l u y.heap.objs.size Q R r1 (Heap.IsSliceOf.new ..) pl pu q3
 show wpAny (model X.prog X.w) X.A (subscriptTail e (.Slice lo hi none p2) v (.ref y.heap.objs.size)) (EP X z σ Q) X.xe {y with heap:=y.heap.push {cls:=.type "slice",data:=.fields #[k,j,.none]}}
 exact tail_any (ops:=[.ref y.heap.objs.size,v]) ht D B (by with_unfolding_all rfl)
def bO9 (xs:List V)(lo hi:Option Int):List V:=(xs.drop (HT.sIx xs.length 0 lo)).take (HT.sIx xs.length xs.length hi-HT.sIx xs.length 0 lo)
theorem aU8 (xs:List V)(lo hi:Option Int):(bO9 xs lo hi).length<=xs.length:=by
 unfold bO9;rw[Ad1,Bb]
 lia
def eK7 (K:Frag):V->Option Int->Option Int->Hp->VK->Prop:=λx lo hi H Q=>∃a xs,x=.ref a/\SqT K H a xs /\
 ¬(HT.sIx xs.length 0 lo=0/\HT.sIx xs.length xs.length hi=xs.length)/\∀p,H p=none->Q (.ref p) (upd H p (.tup (bO9 xs lo hi)))
theorem dZ4:SlR X (eK7 X.K):=by
 intro J s σ H x v R D lo hi N Q I U k m Y h;obtain⟨a,xs,rfl,c,j,q⟩:=h;cases U;obtain⟨its,r,w,z⟩:=I.tuple c;have y:its.toArray.size=xs.length:=by rw[Ab2];exact r.length.symm
 refine⟨"tuple",_,Bk.lookup,w.typeIs,?_⟩;refine HT.aN1 w k m Y (by rw[y];exact j) ?_ (by rw[y];exact z)
 rw[y];refine⟨.ref s.heap.objs.size,_,I.laid (t':=s.toks) (o:=.tup (bO9 xs lo hi)) (λb M q=>Aa6 _ q) (Aa7 _) ?_,rfl,q _ (I.hok.fresh (Aa7 _))⟩
 exact⟨Ax (aU8 xs lo hi) z,_,(r.drop (HT.sIx xs.length 0 lo)).take (HT.sIx xs.length xs.length hi-HT.sIx xs.length 0 lo),Tup0.nw _ _ _⟩
def dD1 (K:Frag):R2:=λx y H Q=>∃a b xs ys,x=.ref a/\y=.ref b/\SqT K H a xs/\SqT K H b ys/\xs≠[]/\xs.length+ys.length<=sizeLine /\
 (ys=[]->Q (.ref a) H)/\(ys≠[]->∀p,H p=none->Q (.ref p) (upd H p (.tup (xs++ys))))
theorem Vals.nil_iff (r:Vals xs us):us=[]↔xs=[]:=by
 cases r with
 | nil=>simp
 | cons _ _=>simp
theorem dO5:OpR X (binaryOp .Add) (dD1 X.K):=by
 intro P s σ H x y v u Q I D F h;obtain⟨a,b,xs,B,rfl,rfl,Y,U,J,c,N,R⟩:=h;cases D;cases F;obtain⟨its,j,M,_⟩:=I.tuple Y;obtain⟨m,k,p2,_⟩:=I.tuple U;refine HT.dL3 M p2 (λz=>J (j.nil_iff.mp z)) (λz=>⟨.ref a,H,I,rfl,N (k.nil_iff.mp z)⟩) (λz=>?_) (by rw[<- j.length,<- k.length];exact c)
 refine⟨.ref s.heap.objs.size,_,I.laid (t':=s.toks) (o:=.tup (xs++B)) (λb ob q=>Aa6 _ q) (Aa7 _) ?_,rfl,R (λw=>z (k.nil_iff.mpr w)) _ (I.hok.fresh (Aa7 _))⟩
 exact⟨by rw[Ab7];exact c,_,j.append k,Tup0.nw _ _ _⟩
end
def ixN (n:Nat)(i:Int):Option Nat:=if 0<=i then(if i<n then some i.toNat else none) else if -(n:Int)<=i then some (i+n).toNat else none
def atI {α:Type}(xs:List α)(i:Int):Option α:=(ixN xs.length i).bind λj=>xs[j]?
theorem bR0 (h:ixN n i=some j):seqIndex? i n=some j/\j<n /\ -(n:Int)<=i/\i<n:=by
 unfold ixN at h;by_cases y:0<=i
 .rw[Ae y]at h;by_cases h1:i<n
  .rw[Ae h1]at h;have e:i.toNat=j:=Ab4 h;exact⟨by rw[seqIndex_of y h1,e],by lia,by lia,h1⟩
  .rw[Ac h1]at h;cases h
 .rw[Ac y]at h;by_cases h1 : -(n:Int)<=i
  .rw[Ae h1]at h;have e:(i+n).toNat=j:=Ab4 h;exact⟨by rw[seqIndex_neg (by lia) h1,e],by lia,h1,by lia⟩
  .rw[Ac h1]at h;cases h
theorem bQ4 {α:Type}{xs:List α}{i:Int}{v:α}(h:atI xs i=some v):∃j,seqIndex? i xs.length=some j/\xs[j]? = some v/\j<xs.length /\ -(xs.length:Int)<=i/\i<xs.length:=by
 unfold atI at h;cases e:ixN xs.length i with
 | none=>rw[e]at h;cases h
 | some j=>
  rw[e]at h;obtain⟨h1,y,w,z⟩:=bR0 e;exact⟨j,h1,h,y,w,z⟩
def dP1 (b:Expr):Prop:=∀o i,subscripted b false o i=operate [o,i] (getItem o i)
def IxR (X:Cx)(r:R2):Prop:=
 ∀(value slice:Expr) (aA:Dz) (s:Shared) (σ:St) (H:Hp) (x y:V) (v u:Value) (Q:VK),Inv X aA σ H s->RelV x v->RelV y u->r x y H Q ->
  subscripted slice false v u=operate [v,u] (getItem v u)->wpAny (model X.prog X.w) X.A (subscriptTail value slice v u) (EP X aA σ Q) X.xe s
def MtR (X:Cx)(id:String)(r:V->List V->Hp->VK->Prop):Prop:=
 ∀(aA:Dz) (s:Shared) (σ:St) (H:Hp) (x:V) (xs:List V) (v:Value) (us:AG) (Q:VK),Inv X aA σ H s->RelV x v->Vals xs us->r x xs H Q ->
  wpAny (model X.prog X.w) X.A (call (.builtin id) (v::us)) (EP X aA σ Q) X.xe s
section
variable {X:Cx}{a b:Expr}{ta tb:TE}{pos:Pos}
theorem IxR.or (h:IxR X r)(h':IxR X r'):IxR X (λx y H Q=>r x y H Q\/r' x y H Q):=by
 intro w e z s σ H x y v u Q I j c q k;rcases q with q | q
 .exact h w e z s σ H x y v u Q I j c q k
 .exact h' w e z s σ H x y v u Q I j c q k
theorem B8 (c:IxR X r)(k:PE X a ta)(j:PE X b tb)(m:dP1 b):PE X (.Subscript a b pos) (tOp r ta tb):=by
 refine⟨?_⟩;intro z s σ H Q I h;exact Subscript_ (eB1 k j I h λv u J x y e w Y U q=>c a b z J σ e x y v u Q w Y U q (m _ _))
def eF9 (K:Frag):R2:=λx y H Q=>∃p xs i v,x=.ref p/\y=.int i/\SqL K H p xs/\atI xs i=some v/\Q v H
def eG9 (K:Frag):R2:=λx y H Q=>∃p xs i v,x=.ref p/\y=.int i/\SqT K H p xs/\atI xs i=some v/\Q v H
def eG4:R2:=λx y H Q=>∃z i c,x=.str z/\y=.int i/\z.length<=sizeLine/\atI z.cps.toList i=some c/\Q (.str ⟨#[c]⟩) H
theorem ix_list:IxR X (eF9 X.K):=by
 intro U Y J s σ H x y v u Q I rx ry h R;obtain⟨p,xs,i,z,rfl,rfl,hq,P,q⟩:=h;cases rx;obtain⟨t,rfl⟩:=ry;obtain⟨its,r,c,hz⟩:=I.list hq;obtain⟨j,h1,D,h3,F,B⟩:=bQ4 P;obtain⟨w,M,m⟩:=r.get D;have hl:=r.length;have hn:=aJ7;have e:EP X J σ Q w s:=⟨z,H,I,m,q⟩;by_cases N:0<=i
 .have k:i.toNat=j:=by
   rw[seqIndex_of N B]at h1;exact Ab4 h1
  exact item_listR c.isList N (by lia) (by rw[k];simpa using M) e R
 .have k:(i+(its.toArray.size:Int)).toNat=j:=by
   rw[seqIndex_neg (by lia) F]at h1
   rw[Ab2,<- hl];exact Ab4 h1
  exact subscriptTail_builtinR (x:=w) c.isList.typeIs slot_list_getitem.lookup
   (wpAny_getItem_list_neg (Q:=λr s'=>r=w/\EP X J σ Q r s') c.isList (by lia) (by rw[Ab2] <;> lia) (by lia) (by rw[k];simpa using M) ⟨rfl,e⟩) R
theorem ix_tup:IxR X (eG9 X.K):=by
 intro m c Y s σ H x y v u Q I B P h F;obtain⟨p,xs,i,z,rfl,rfl,D,N,q⟩:=h;cases B;obtain⟨t,rfl⟩:=P;obtain⟨its,r,U,hz⟩:=I.tuple D;obtain⟨j,h1,M,h3,h4,h5⟩:=bQ4 N;obtain⟨w,J,k⟩:=r.get M;have R:=r.length;have hn:=aJ7;have e:EP X Y σ Q w s:=⟨z,H,I,k,q⟩;exact subscriptTail_builtinR (x:=w) U.typeIs slot_tuple_getitem.lookup
  (getItem_tuple (j:=j) (Q:=λr s'=>r=w/\EP X Y σ Q r s') U (by lia) (by lia) (by rw[Ab2,<- R];exact h1) (by simpa using J) ⟨rfl,e⟩) F
theorem dU7:IxR X eG4:=by
 intro w e B s σ H x y v u Q I D F h R;obtain⟨z,i,c,rfl,rfl,hz,M,q⟩:=h;obtain⟨t,rfl⟩:=D;obtain⟨t',rfl⟩:=F;obtain⟨j,h1,Y,P,U,J⟩:=bQ4 M;have N:z.cps.toList.length=z.length:=by simp[Str.length]
 rw[N]at h1 U J;have hn:=aJ7;exact tail_any (typeIs_str s z t) slot_str_getitem.lookup (getItem_str (c:=c) (by
  have k:decide (i < -(2^63:Int))=false:=Aj (by lia)
  have m:decide (i≥2^63)=false:=Aj (by lia)
  rw[k,m,Bool.or_false]) (by rw[h1];simpa using Y) ⟨.str ⟨#[c]⟩,H,I.tok _,⟨_,rfl⟩,q⟩) R
def rIx (K:Frag):R2:=λx y H Q=>eF9 K x y H Q\/eG9 K x y H Q\/eG4 x y H Q
theorem C8:IxR X (rIx X.K):=ix_list.or (ix_tup.or dU7)
theorem cB3 (its:AG)(n j:Nat)(u:Value):Obj.mapSeq (·.setIfInBounds j u) {cls:=.type "list",data:=.seq its.toArray n}={cls:=.type "list",data:=.seq (its.set j u).toArray n}:=by
 simp[Obj.mapSeq]
theorem Inv.lst {aA:Dz}{σ:St}{H:Hp}{s:Shared}{p:Addr}{xs:List V}(I:Inv X aA σ H s)(h:H p=some (.lst xs)) :
  ∃(its:AG) (n:Nat),Vals xs its/\s.heap.get? p=some {cls:=.type "list",data:=.seq its.toArray n}/\xs.length<=sizeLine:=by
 obtain⟨z,its,n,r,e⟩:=I.hok p _ h;exact⟨its,n,r,e,z⟩
theorem Inv.lstUpd {aA:Dz}{σ:St}{H:Hp}{s:Shared}{p:Addr}{xs ys:List V}{its its':AG}{n n':Nat}{f:Obj->Obj}(I:Inv X aA σ H s)(h:H p=some (.lst xs))
  (ho:s.heap.get? p=some {cls:=.type "list",data:=.seq its.toArray n}) (y:f {cls:=.type "list",data:=.seq its.toArray n}={cls:=.type "list",data:=.seq its'.toArray n'}) (r:Vals ys its') (z:ys.length<=sizeLine) (t:Nat) :
  Inv X aA σ (upd H p (.lst ys)) {s with heap:=s.heap.update p f,toks:=t}:=by
 have e:(s.heap.update p f).get? p=some {cls:=.type "list",data:=.seq its'.toArray n'}:=by
  rw[Bw f ho (by rw[y] <;> rfl),y]
 refine I.write (x:=p) (e:=p) (by rw[h];trivial) (.inl rfl) (λb u w q=>(Au _ _ (Ne.symm w)).trans q) ⟨_,e⟩ ?_
 exact⟨z,its',n',r,e⟩
def cS1:V->V->V->Hp->(Hp->Prop)->Prop:=λo i v H Q=>∃p xs k j,o=.ref p/\i=.int k/\H p=some (.lst xs)/\ixN xs.length k=some j/\Q (upd H p (.lst (xs.set j v)))
theorem bC7:eD1 X cS1:=by
 intro Y s σ H o i v P B u Q I N M R h;obtain⟨p,xs,k,j,rfl,rfl,hp,U,q⟩:=h;cases N;obtain⟨t,rfl⟩:=M;obtain⟨its,n,r,ho,J⟩:=I.lst hp;obtain⟨h1,D,c,m⟩:=bR0 U;have y:=r.length;have F:=aJ7;have w:Inv X Y σ (upd H p (.lst (xs.set j v))) {s with heap:=s.heap.update p (Obj.mapSeq (·.setIfInBounds j u))}:=
  I.lstUpd hp ho (cB3 its n j u) (r.set R j) (by rw[Dm];exact J) s.toks
 by_cases z:0<=k
 .have e:k.toNat=j:=by
   rw[seqIndex_of z m]at h1;exact Ab4 h1
  exact PySem.W.ki_setAt ho z (by lia) (by rw[Ab2,<- y];exact m) (by rw[e];exact⟨_,w,q⟩)
 .have e:(k+(its.toArray.size:Int)).toNat=j:=by
   rw[seqIndex_neg (by lia) c]at h1
   rw[Ab2,<- y];exact Ab4 h1
  exact PySem.W.ki_setBack ho (by lia) (by rw[Ab2,<- y];exact c) (by lia) (by rw[e];exact⟨_,w,q⟩)
theorem bN1 (lo hi:Option Int)(n:Nat):(sliceBounds lo hi none n).1=((HT.sIx n 0 lo:Nat):Int)/\(sliceBounds lo hi none n).2.1=((HT.sIx n n hi:Nat):Int)/\(sliceBounds lo hi none n).2.2=1:=by
 refine⟨?_,?_,rfl⟩
 .cases lo with
  | none=>simp[sliceBounds,HT.sIx]
  | some i=>
   simp only[sliceBounds,HT.sIx,Option.getD_none,show(1:Int)>0 by decide,if_true]
   by_cases h:i<0
   .simp only[h,if_true] <;> lia
   .simp only[h,if_false] <;> lia
 .cases hi with
  | none=>simp[sliceBounds,HT.sIx]
  | some i=>
   simp only[sliceBounds,HT.sIx,Option.getD_none,show(1:Int)>0 by decide,if_true]
   by_cases h:i<0
   .simp only[h,if_true] <;> lia
   .simp only[h,if_false] <;> lia
theorem bE8 (its:AG)(lo hi:Option Int):slicePick its.toArray lo hi none=((its.drop (HT.sIx its.length 0 lo)).take (HT.sIx its.length its.length hi-HT.sIx its.length 0 lo)).toArray:=by
 obtain⟨h1,e,y⟩:=bN1 lo hi its.toArray.size;unfold slicePick;rw[h1,e,y];simp only[sliceRange_one,pick_run,Ab2] <;> rfl
def eA5 (K:Frag):V->Option Int->Option Int->Hp->VK->Prop:=λx lo hi H Q=>∃a xs,x=.ref a/\SqL K H a xs/\∀p,H p=none->Q (.ref p) (upd H p (.lst (bO9 xs lo hi)))
theorem bM5:SlR X (eA5 X.K):=by
 intro Y s σ H x v M N lo hi J Q I m w j c h;obtain⟨a,xs,rfl,z,q⟩:=h;cases m;obtain⟨its,r,y,k⟩:=I.list z;have e:=r.length;refine⟨"list",_,slot_list_getitem.lookup,y.isList.typeIs,?_⟩;refine wpAny_getItem_list_slice y.isList w j c .none (by simp) ?_ (by rw[Ab2] <;> lia)
 rw[bE8,<- e];refine⟨.ref s.heap.objs.size,_,I.laid (t':=s.toks) (o:=.lst (bO9 xs lo hi)) (λb U q=>Aa6 _ q) (Aa7 _) ?_,rfl,q _ (I.hok.fresh (Aa7 _))⟩
 exact⟨Ax (aU8 xs lo hi) k,_,0,(r.drop (HT.sIx xs.length 0 lo)).take (HT.sIx xs.length xs.length hi-HT.sIx xs.length 0 lo),Ac3 _ rfl⟩
theorem N8:R4 X (.builtin "len") (λxs H Q=>∃p ys,xs=[.ref p]/\(SqL X.K H p ys\/SqT X.K H p ys)/\Q (.int ys.length) H):=by
 intro j s σ H xs m Q I r h;obtain⟨p,ys,rfl,hq,q⟩:=h;obtain⟨u,rfl,k⟩:=S0 r;cases k;have c:=aJ7;rcases hq with hq | hq
 .obtain⟨its,w,y,z⟩:=I.list hq;have e:=w.length;exact Calls.call_len_list y.isList (by simp only[Ab2] <;> lia) ⟨.int ys.length,H,I.tok _,⟨s.toks+1,by rw[Ab2,e]⟩,q⟩
 .obtain⟨its,w,y,z⟩:=I.tuple hq;have e:=w.length;exact len_tuple y (by simp only[Ab2] <;> lia) ⟨.int ys.length,H,I.tok _,⟨s.toks+1,by rw[Ab2,e]⟩,q⟩
theorem aQ2:R4 X (.builtin "len") (λxs H Q=>∃z,xs=[.str z]/\z.length<=sizeLine/\Q (.int z.length) H):=by
 intro e s σ H xs k Q I r h;obtain⟨z,rfl,w,q⟩:=h;obtain⟨u,rfl,t,rfl⟩:=S0 r;have y:=aJ7;exact len_str (by lia) ⟨.int z.length,H,I.tok _,⟨_,rfl⟩,q⟩
theorem S4:R4 X (.type "tuple") (λxs H Q=>∃p ys,xs=[.ref p]/\((SqL X.K H p ys/\∀l,H l=none->Q (.ref l) (upd H l (.tup ys)))\/(SqT X.K H p ys/\Q (.ref p) H))):=by
 intro m s σ H xs R Q I r h;obtain⟨p,ys,rfl,h⟩:=h;obtain⟨u,rfl,N⟩:=S0 r;cases N;rcases h with⟨z,q⟩ | ⟨z,q⟩
 .obtain⟨its,j,k,U⟩:=I.list z;have Y:=j.length;refine call_tuple_list k.isList (λy M=>?_) (by simp only[Ab2] <;> lia)
  have c:Inv X m σ H {s with heap:=y}:=I.kept (t':=s.toks) M
  have J:Inv X m σ (upd H y.objs.size (.tup ys)) {s with heap:=y.push {cls:=.type "tuple",data:=.seq its.toArray}}:=
   c.laid (t':=s.toks) (λb o e=>Aa6 _ e) (Aa7 _) (show ObjOk X.prog X.w _ _ _ (.tup ys) from⟨U,its,j,Tup0.nw _ _ _⟩)
  exact⟨.ref y.objs.size,_,J,rfl,q _ (c.hok.fresh (Aa7 _))⟩
 .obtain⟨its,j,k,U⟩:=I.tuple z;exact call_tuple_same k ⟨.ref p,H,I,rfl,q⟩
def tyV (K:Frag)(T:String)(x:V)(H:Hp):Prop:=match x with
 | .str _=>T = "str"
 | .int _=>T = "int"
 | .ref p=>(T = "list" /\ ∃xs,SqL K H p xs)\/(T = "tuple" /\ ∃xs,SqT K H p xs) \/
   (T = "dict" /\ ((∃kvs,H p=some (.dK kvs))\/∃kvs,H p=some (.dT kvs)))\/(T = "set" /\ ∃S n,H p=some (.set S n))
 | _=>False
theorem dE3 {aA:Dz}{σ:St}{H:Hp}{s:Shared}{T:String}{x:V}{v:Value}(I:Inv X aA σ H s)(r:RelV x v)(ty:tyV X.K T x H) :
  s.TypeIs v T/\∀a,v=.ref a->∃ob,s.heap.get? a=some ob/\ob.dict=none:=by
 cases x with
 | str z=>
  obtain⟨t,rfl⟩:=r;cases (show T = "str" from ty)
  exact⟨typeIs_str s z t,λ_ e=>nomatch e⟩
 | int i=>
  obtain⟨t,rfl⟩:=r;cases (show T = "int" from ty)
  exact⟨typeIs_int s i t,λ_ e=>nomatch e⟩
 | ref p=>
  cases r
  rcases ty with⟨rfl,xs,k⟩ | ⟨rfl,xs,k⟩ | ⟨rfl,y⟩ | ⟨rfl,S,n,y⟩
  .obtain⟨its,_,j,_⟩:=I.list k;refine⟨j.isList.typeIs,λa e=>?_⟩
   cases e
   obtain⟨o,n,e,c,U,_⟩:=j;exact⟨o,e,U⟩
  .obtain⟨its,_,J,_⟩:=I.tuple0 k;obtain⟨o,h1,m,_,Y⟩:=J;refine⟨⟨o,h1,m⟩,λa e=>?_⟩
   cases e
   exact⟨o,h1,Y⟩
  .have z:∃o,s.heap.get? p=some o/\o.ExactDict:=by
    rcases y with⟨kvs,y⟩ | ⟨kvs,y⟩
    .obtain⟨_,_,_,_,o,_,_,e,ex,_⟩:=I.hok p _ y;exact⟨o,e,ex⟩
    .obtain⟨_,_,_,_,o,_,_,e,ex,_⟩:=I.hok p _ y;exact⟨o,e,ex⟩
   obtain⟨o,e,ex⟩:=z;refine⟨⟨o,e,ex.1⟩,λa w=>?_⟩
   cases w
   exact⟨o,e,ex.2.1⟩
  .obtain⟨o,_,_,_,e,ex,_⟩:=I.hok p _ y;refine⟨⟨o,e,ex.1⟩,λa w=>?_⟩
   cases w
   exact⟨o,e,ex.2.1⟩
 | _=>exact False.elim ty
def dW3 (K:Frag)(T:String)(r:V->List V->Hp->VK->Prop)(to:TE):TE:=λσ H Q=>to σ H λx H1=>tyV K T x H1/\r x [] H1 Q
def tBM (K:Frag)(T:String)(r:V->List V->Hp->VK->Prop)(to:TE)(t:TA):TE:=λσ H Q=>to σ H λx H1=>tyV K T x H1/\t σ H1 λxs H2=>r x xs H2 Q
variable {o e:Expr}{es:AM}{to:TE}{t:TA}{name:Str}{apos cpos:Pos}{T id:String}{r:V->List V->Hp->VK->Prop}
theorem bQ8 (pa:PlainAttrs T)(slot:Slot T name id)(z:typeOf (.builtin id)=pure (.type "method_descriptor"))(U:MtR X id r)(ho:PE X o to)
  (y:attributeBase o name X.env (eval o X.env)=eval o X.env:=by rfl) (w:(apos.endLine==cpos.line)=true:=by rfl):PE X (.Call (.Attribute o name apos) [] [] cpos) (dW3 X.K T r to):=by
 refine⟨?_⟩;intro j s σ H Q I h;refine wpAny_Call_method0_late y w (thn (ho j s σ H _ I h) λv N J=>?_)
 obtain⟨x,m,k,c,ty,M⟩:=J;obtain⟨h1,Y⟩:=dE3 k c ty;exact⟨T,id,pa,slot,z,h1,Y,Calls.callWith_builtin rfl (PySem.evalArgs_none (U j N σ m x [] v [] Q k c .nil M))⟩
theorem N3 (pa:PlainAttrs T)(slot:Slot T name id)(c:typeOf (.builtin id)=pure (.type "method_descriptor"))(F:MtR X id r)(ho:PE X o to)(D:PA X (e::es) t)
  (w:attributeBase o name X.env (eval o X.env)=eval o X.env:=by rfl)
  (k:((backTo cpos (starEach (e::es) X.env)).all (λx => !x.1)&&(backToKw cpos (keywordEach [] X.env)).all (λx=>x.1.isSome)
   && decide ((e::es).length+([]:List Keyword).length+(if([]:List Keyword).isEmpty then 0 else 1)<30))=true:=by rfl)
  (z:(apos.endLine==cpos.line)=true:=by rfl) (B:starEach (e::es) X.env=(false,eval e X.env)::starEach es X.env:=by rfl) (y:(backTo cpos (starEach es X.env)).any (·.1)=false:=by rfl) :
  PE X (.Call (.Attribute o name apos) (e::es) [] cpos) (tBM X.K T r to t):=by
 refine⟨?_⟩;intro j s σ H Q I h;refine wpAny_Call_method_late w k z rfl (thn (ho j s σ H _ I h) λv s1 P=>?_)
 obtain⟨x,J,m,U,ty,q1⟩:=P;obtain⟨h1,R⟩:=dE3 m U ty;refine⟨T,id,pa,slot,c,h1,R,?_⟩;have Y:=D cpos j s1 σ J _ m q1;rw[B]at Y ⊢;refine Calls.callWith_builtin (by show(false||(backTo cpos (starEach es X.env)).any (·.1))=false;rw[y] <;> rfl) (Calls.evalArgs_plain ?_)
 exact thn Y λus s2 ⟨vs,M,N,r2,q2⟩=>F j s2 σ M x vs v us Q N U r2 q2
end
def MtM (X:Cx)(id:String)(r:V->List V->Hp->VK->Prop):Prop:=
 ∀(aA:Dz) (s:Shared) (σ:St) (H:Hp) (x:V) (xs:List V) (v:Value) (us:AG) (Q:VK),Inv X aA σ H s->RelV x v->Vals xs us->r x xs H Q ->
  wpAny (model X.prog X.w) X.A (call (.builtin id) (v::us)) (EP X aA σ Q) X.xe s
theorem Vals.one:∀{x:V} {us:AG},Vals [x] us->∃u,us=[u]/\RelV x u
 | _,_,.cons r .nil=>⟨_,rfl,r⟩
theorem Vals.zero:∀{us:AG},Vals [] us->us=[]
 | _,.nil=>rfl
theorem Vals.dropLast {xs:List V}{us:AG}(h:Vals xs us):Vals xs.dropLast us.dropLast:=by
 induction h with
 | nil=>exact .nil
 | cons r t e=>
  cases t with
  | nil=>exact .nil
  | cons q y=>exact .cons r e
theorem Vals.eraseIdx:∀{xs:List V} {us:AG} (i:Nat),Vals xs us->Vals (xs.eraseIdx i) (us.eraseIdx i)
 | _,_,_,.nil=>.nil
 | _,_,0,.cons _ t=>t
 | _,_,i+1,.cons r t=>.cons r (Vals.eraseIdx i t)
theorem Vals.rep (h:Vals xs us):∀k:Nat,Vals (List.replicate k xs).flatten (List.replicate k us).flatten
 | 0=>.nil
 | k+1=>by
  rw[Be,Be,Ci,Ci];exact Vals.append h (Vals.rep h k)
theorem cB0 (l:List α):l.eraseIdx (l.length-1)=l.dropLast:=by
 induction l with
 | nil=>rfl
 | cons a r y=>
  cases r with
  | nil=>rfl
  | cons b r=>
   have e:(a::b::r).length-1=((b::r).length-1)+1:=by
    have h1:(a::b::r).length=r.length+2:=rfl
    have w:(b::r).length=r.length+1:=rfl
    lia
   rw[e,List.eraseIdx_cons_succ,y]
   all_goals rfl
theorem bH9:∀(l:List α) (i:Nat),(l.eraseIdx i).length<=l.length
 | [],_=>Aa7 _
 | _::_,0=>Nat.le_succ _
 | _::r,i+1=>Nat.succ_le_succ (bH9 r i)
theorem bK2 (its:AG):∀(k:Nat) (acc:AG),
  List.foldl (λx1 x2=>x1++x2) acc.toArray (List.replicate k its.toArray)=(acc++(List.replicate k its).flatten).toArray
 | 0,acc=>by simp
 | k+1,acc=>by
  have e:acc.toArray++its.toArray=(acc++its).toArray:=by simp
  have y:(acc++its)++(List.replicate k its).flatten=acc++(List.replicate (k+1) its).flatten:=by
   rw[Be,Ci,Ad7]
  rw[<- y,<- bK2 its k (acc++its),<- e,Be,List.foldl_cons]
section
theorem Inv.lset {its its':AG}{n:Nat}{f:AJ->AJ}{t':Nat}(I:Inv X aA σ H s)(y:H l=some (.lst xs))
  (e:s.heap.get? l=some {cls:=.type "list",data:=.seq its.toArray n}) (z:f its.toArray=its'.toArray) (j:Vals ys its') (c:ys.length<=sizeLine) :
  Inv X aA σ (upd H l (.lst ys)) {s with heap:=s.heap.update l (Obj.mapSeq f),toks:=t'}:=by
 have q:=PySem.IsL.update e f
 rw[z]at q;refine I.write (x:=l) (e:=l) (by rw[y];exact trivial) (.inl rfl) (λm u w k=>(Au s.heap (Obj.mapSeq f) (Ne.symm w)).trans k) ⟨_,q⟩ ?_
 exact⟨c,its',_,j,q⟩
theorem Inv.lnew (I:Inv X aA σ H s)(e:Vals ys its)(y:ys.length<=sizeLine) :
  Inv X aA σ (upd H s.heap.objs.size (.lst ys)) {s with heap:=s.heap.push {cls:=.type "list",data:=.seq its.toArray},toks:=t'}:=
 I.laid (λ_ _ q=>Aa6 _ q) (Aa7 _) ⟨y,its,0,e,Ac3 _ rfl⟩
theorem Inv.fresh (I:Inv X aA σ H s):H s.heap.objs.size=none:=I.hok.fresh (Aa7 _)
theorem Inv.lstM (I:Inv X aA σ H s)(y:H l=some (.lst xs)):xs.length<=sizeLine/\∃(its:AG) (n:Nat),Vals xs its/\xs.length=its.length/\s.heap.get? l=some {cls:=.type "list",data:=.seq its.toArray n}:=by
 obtain⟨z,its,n,r,e⟩:=I.hok l _ y;exact⟨z,its,n,r,r.length,e⟩
theorem cV0 (h:n<=sizeLine):Builtin.List.listTooLong n=false:=by
 unfold Builtin.List.listTooLong;exact Aj (by lia)
end
section
def aO8:V->List V->Hp->VK->Prop:=λx vs H Q=>∃l xs y,x=.ref l/\vs=[y]/\H l=some (.lst xs)/\xs.length<sizeLine/\Q .non (upd H l (.lst (xs++[y])))
theorem E6:MtM X "list.append" aO8:=by
 intro m s σ H x vs v J Q I c j h;obtain⟨l,xs,y,rfl,rfl,w,U,q⟩:=h;cases c;obtain⟨u,rfl,k⟩:=j.one;obtain⟨z,its,n,r,Y,e⟩:=I.lstM w;refine call_meets F.slot_list_append ⟨_,e,rfl⟩ F.entry_list_append (F.args_list_append_2 _ _) (PySem.list_append l its.toArray n u (by rw[Ab2];lia)) ⟨e,?_⟩
 refine⟨.non,_,I.lset (its':=its++[u]) w e (by simp) (r.append (.cons k .nil)) ?_,rfl,q⟩
 rw[Ab7,List.length_singleton]
 lia
def dZ7:V->List V->Hp->VK->Prop:=λx vs H Q=>∃l xs y,x=.ref l/\vs=[]/\H l=some (.lst xs)/\xs[xs.length-1]? = some y/\Q y (upd H l (.lst xs.dropLast))
theorem bM9:MtM X "list.pop" dZ7:=by
 intro N s σ H x vs v R Q I M J h;obtain⟨l,xs,y,rfl,rfl,j,Y,q⟩:=h;cases M;have w:=J.zero;subst w;obtain⟨z,its,n,r,c,e⟩:=I.lstM j;obtain⟨u,m,U⟩:=r.get Y;have k:its.toArray[its.toArray.size-1]? = some u:=by
  show its.toArray[its.length-1]? = some u
  rw[<- Array.getElem?_toList,<- c];exact m
 refine call_meets F.slot_list_pop ⟨_,e,rfl⟩ F.entry_list_pop (F.args_list_pop_1 _) (MeetsSeq.list_pop_last l its.toArray n u k (by rw[Ab2];lia)) ⟨e,?_⟩
 refine⟨y,_,I.lset (its':=its.dropLast) j e ?_ r.dropLast ?_,U,q⟩
 .show its.toArray.eraseIdxIfInBounds (its.toArray.size-1)=its.dropLast.toArray
  rw[Ab2,List.eraseIdxIfInBounds_toArray,cB0]
 .rw[List.length_dropLast]
  lia
def cT5:V->List V->Hp->VK->Prop:=λx vs H Q=>∃l xs i k y,x=.ref l/\vs=[.int i]/\H l=some (.lst xs) /\ -(2^63)<=i/\i<2^63/\seqIndex? i xs.length=some k/\xs[k]? = some y/\Q y (upd H l (.lst (xs.eraseIdx k)))
theorem cT1:MtM X "list.pop" cT5:=by
 intro B s σ H x vs v P Q I D R h;obtain⟨l,xs,i,k,y,rfl,rfl,c,h1,m,Y,M,q⟩:=h;cases D;obtain⟨u,rfl,N⟩:=R.one;obtain⟨t,rfl⟩:=N;obtain⟨z,its,n,r,U,e⟩:=I.lstM c;obtain⟨w,J,j⟩:=r.get M;refine call_meets F.slot_list_pop ⟨_,e,rfl⟩ F.entry_list_pop (F.args_list_pop_2 _ _)
  (MeetsSeq.list_pop_at l its.toArray n i t k w (fitsIndex_both h1 m) (by rw[Ab2,<- U];exact Y) (by rw[<- Array.getElem?_toList];exact J) (by rw[Ab2];lia)) ⟨e,?_⟩
 refine⟨y,_,I.lset (its':=its.eraseIdx k) c e ?_ (r.eraseIdx k) ?_,j,q⟩
 .show its.toArray.eraseIdxIfInBounds k=(its.eraseIdx k).toArray
  rw[List.eraseIdxIfInBounds_toArray]
 .have:=bH9 xs k
  lia
def eD5:R2:=λx y H Q=>∃l k xs,x=.ref l/\y=.int k/\H l=some (.lst xs) /\ -(2^63)<=k/\k<2^63/\xs.length*k.toNat<=sizeLine /\
 ∀p,H p=none->Q (.ref p) (upd H p (.lst (List.replicate k.toNat xs).flatten))
theorem dM8 (xs:List α)(k:Nat):(List.replicate k xs).flatten.length=k*xs.length:=by
 induction k with
 | zero=>simp
 | succ k e=>rw[Be,Ci,Ab7,e,Nat.succ_mul,Nat.add_comm]
theorem dE4:OpR X (binaryOp .Mult) eD5:=by
 intro aA s σ H x y v u Q I rx ry h;obtain⟨l,k,xs,rfl,rfl,P,h1,B,R,q⟩:=h;cases rx;obtain⟨t,rfl⟩:=ry;obtain⟨z,its,n,r,hl,e⟩:=I.lstM P;have Y:its.toArray.size*k.toNat<=sizeLine:=by rw[Ab2,<- hl];exact R
 have j:¬its.toArray.size*k.toNat>(2^63-1) / 8:=by
  have:(sizeLine:Nat)<=(2^63-1) / 8:=by decide
  lia
 have c:¬(!Builtin.List.listFitsIndex k)=true:=by
  rw[fitsIndex_both h1 B];exact Ak
 have w:¬Builtin.List.listTooLong (its.toArray.size*k.toNat)=true:=by
  rw[cV0 Y];exact Ak
 have J:List.foldl (λM N=>M++N) #[] (List.replicate (if its.toArray.isEmpty=true then 0 else k.toNat) its.toArray)=(List.replicate k.toNat its).flatten.toArray:=by
  have D:∀m:Nat,List.foldl (λM N=>M++N) #[] (List.replicate m its.toArray)=(List.replicate m its).flatten.toArray:=λm=>by
   have:=bK2 its m []
   rw[List.nil_append]at this;exact this
  rw[D];cases its with
  | nil=>simp
  | cons a r'=>rw[Ac (by simp)]
 refine wpAny_binaryOp_repeat_ref (T := "list") (U := "int") (by decide) ⟨_,e,rfl⟩ (λs'=>typeIs_int s' k t) noFill_list_mul F.fills_int_mul F.slot_int_rmul repeat_list F.slot_int_index.lookup
  (call_meets F.slot_int_rmul (typeIs_int s k t) F.entry_int_rmul (F.args_int_rmul_2 _ _) (int___rmul___int_list k t l its.toArray n)
   ⟨e,rfl,⟨_,e,rfl⟩,call_meets F.slot_list_mul ⟨_,e,rfl⟩ F.entry_list_mul (F.args_list_mul_2 _ _) (AutoListH.list___mul___list_int_3 l its.toArray n k t c j w) ⟨e,?_⟩⟩)
 rw[J];exact⟨.ref _,_,I.lnew (t':=s.toks) (r.rep k.toNat) (by rw[dM8,Nat.mul_comm];exact R),rfl,q _ I.fresh⟩
end
end L2
namespace Att
open PySem PySem.W PySem.Calls PyProof.Rows
theorem aV8:∀(ns:AD) (vs:AG),WellAll P h vs (ns.map WData.int)->IntsAre vs ns:=by
 intro ns;induction ns with
 | nil=>
  intro vs w;rw[Dg]at w;cases w;exact .nil
 | cons n ns ih=>
  intro vs w;rw[Ac7]at w;cases w with
  | cons a b=>
   cases a
   exact .cons _ _ (ih _ b)
theorem cP4 {l:OpenLaw}{n:Nat}(X:l.most=some n){P:Params}{h:Heap}{args:List WData}{vals:AG}
  (e:l.row.toRowW.claim.pre args=true) (c:WellAll P h vals args) :
  ∃a vs ns,vals=[Value.ref a]/\args=[WData.list (ns.map WData.int)]/\h.get? a=some {cls:=.type "list",data:=.seq vs.toArray}/\IntsAre vs ns/\ns.length<=n:=by
 have j:WShape.hasAll [] args [.list .int]=true:=(pre_splitW e).1
 have s:l.pre.holds [] {args:=args}=true:=(pre_splitW e).2
 obtain⟨d,r,rfl,h1,m⟩:=hasAllW_cons j;obtain rfl:=hasAllW_nil m;obtain⟨xs,rfl,Y⟩:=hasW_list h1;obtain⟨ns,rfl⟩:=items_int Y;have w:ns.length<=n:=by
  unfold OpenLaw.pre at s;have z:(WTm.not (.lt (.lit (.int (n:Int))) (.len (.arg 0)))).holds [] {args:=[.list (ns.map .int)]}=true:=by
   have z:=(holds_andW s).1
   rw[X]at z;exact z
  have k:=condW_of z (w_not (w_lt w_lit (w_len_list (w_arg rfl))))
  rw[Aa3]at k;refine Nat.le_of_not_lt λq=>?_
  have U:(n:Int)<((ns.length:Nat):Int):=by lia
  first
   | (rw[Bh U]at k;exact absurd k (by decide))
   | (simp at k;lia)
 cases c with
 | cons J M=>
  cases M
  cases J with
  | list ho y=>exact⟨_,_,ns,rfl,rfl,ho,aV8 ns _ y,w⟩
theorem cM8 (l:OpenLaw)(args:List WData):l.row.toRowW.claim.post args (.bool true) args=true:=
 postW_of (r:=l.row.toRowW) (X:=(true==true))
  (show WShape.has [] (.bool true) .bool=true by first | rfl | decide | simp[WShape.has,WShape.arms,WShape.armsAll])
  (show(WTm.eq .res (.lit (.bool true))).value [] {args:=args,res:=some (.bool true),after:=args}=some (.bool (true==true)) from w_eq_bool (w_res rfl) w_lit) rfl
theorem bV3 {l:OpenLaw}{n:Nat}{q:Program}{loose:AH}{XP:(Str->Option Value)->Heap->Prop}{YP:World->Heap->Prop}{d:DefRec}
  (hn:l.most=some n) (c:d.params.defaults=[])
  (call:∀(w:World) (s₀ s₁:Shared) (mg mb:Str->Option Value) (fa:Addr) (o:Obj) (pm cd doc:Value) (a:Addr) (vs:AG) (ns:AD),
   Ground q loose [] XP w s₀ mg mb s₁.heap->YP w s₁.heap ->
   s₁.heap.get? fa=some o->o.data=.func (docDef d.name d.params d.body d.scope pm cd doc)->s₁.heap.CodeRec cd d.name->mg d.name=some (.ref fa) ->
   s₁.heap.get? a=some {cls:=.type "list",data:=.seq vs.toArray}->IntsAre vs ns->ns.length<=n->s₁.gens = #[] ->
   codeAny (model l.prog w) callerA (.call (.ref fa) ⟨[.ref a],[]⟩) (λr s'=>r=.ok (.ret (.bool true))/\OldK s₁.heap s'.heap/\s'.os=s₁.os/\AllBare s'.gens) s₁) :
  WalkO q loose XP YP l.row.toRowW d [] (λf vs=>PySem.call f vs):=by
 intro w s₀ s₁ mg mb G Y fa o pm cd doc N kV ho F j U s B X M as k J hrd m P;obtain rfl:N=.none:=Dflts.none U c;obtain rfl:kV=.none:=Dflts.noKw U;obtain⟨a,vs,ns,rfl,rfl,z,e,y⟩:=cP4 hn k m;refine enter_call (codeAny_mono (call w s₀ s₁ mg mb fa o pm cd doc a vs ns G Y ho (fd_plain F) j s z e y B) λr s' hq=>?_)
 obtain⟨rfl,R,Q,D⟩:=hq;exact⟨.inl ⟨.bool true,.bool true,[],rfl,λ_=>rfl,.bool true,cM8 l _,λ_=>⟨List.Pairwise.nil,λ_ hm=>(nomatch hm)⟩⟩,R,Q,D⟩
section
def bZ2 (h:Heap):Heap:={h with objs := #[]}
theorem u5 (h:Heap)(b:Addr):(bZ2 h).get? b=none:=by
 cases e:(bZ2 h).get? b with
 | none=>rfl
 | some o=>exact absurd (Ab3 e) (Nat.not_lt_zero _)
theorem eA9 (n:h.Ns L m):Fr (bZ2 h) L h m:=
 ⟨n,λb o e=>(by rw[u5]at e;cases e),Bv _⟩
end
end Att
namespace L2
open PySem PySem.Spec PyProof.Rows
theorem R7:∀{vs:AG} {ns:AD},IntsAre vs ns->Vals (ns.map V.int) vs
 | _,_,.nil=>.nil
 | _,_,.cons n t h=>.cons ⟨t,rfl⟩ (R7 h)
def eB8 (H:Hp):Prop:=∀b,H b=none\/∃o xs,H b=some (.frz o (.lst xs))
theorem dB7 {P:Program}{w:World}{K:Frag}{mg mb:Str->Option Value}{CX:CXT}{k:Nat}{fa a:Addr}{fd:FuncData}{x:Str}{sp:Sp}{s₁:Shared}{vs:AG}{ns:AD}
  (KX:K.In s₁.heap) (Q:s₁.heap.Ns mainGlobals mg) (j:s₁.heap.Ns builtinsNs mb) (hbb:∀x:Str,x≠"__name__" -> mb x=bootBuiltins x) (R:s₁.heap.NoLimit) (hg:s₁.gens = #[])
  (ha:s₁.heap.get? a=some {cls:=.type "list",data:=.seq vs.toArray}) (hi:IntsAre vs ns) (hl:ns.length<=sizeLine) (hr:Room k callerA)
  (F:∀base:Heap,K.In base->base.Ns mainGlobals mg->J0 P w K mg base CX k fa fd [x] sp) (X:∀(s:Shared) (u:Value),BindsTo s fd ⟨[u],[]⟩ [(x,u)])
  (hsp:∀H:Hp,eB8 H->SqL K H a (ns.map V.int)->sp [.ref a] H (λv _=>v=.bl true) λ_ _ _=>False)
  (hCX:∀H e s',CX [] H s₁ (λ_ _ _=>False) e s'->False) :
  codeAny (model P w) callerA (.call (.ref fa) ⟨[.ref a],[]⟩) (λr s'=>r=.ok (.ret (.bool true))/\OldK s₁.heap s'.heap/\s'.os=s₁.os/\AllBare s'.gens) s₁:=by
 have rv:=R7 hi
 have W7:=hi.length
 have Y:∀H:Hp,eB8 H->SqL K H a (ns.map V.int)->HOk P w H s₁.heap->(∀b,H b≠none->b=a)->(H a≠none->K.lookup a=none) ->
   codeAny (model P w) callerA (.call (.ref fa) ⟨[.ref a],[]⟩) (λr s'=>r=.ok (.ret (.bool true))/\OldK s₁.heap s'.heap/\s'.os=s₁.os/\AllBare s'.gens) s₁:=by
  intro H hO hS D hA hK;have y:∀{b:Addr} {o:Obj},s₁.heap.get? b=some o->H b=none->(bM2 s₁.heap H).get? b=some o:=λe n=>cS8 e n
  have noA:∀{b:Addr} {o:Obj} {M:Array DictEntry} {J:Nat},s₁.heap.get? b=some o->o.data=.dict M J->H b=none:=λ{b o M J} e d=>by
   cases q:H b with
   | none=>rfl
   | some u=>
    have e':b=a:=hA b (by rw[q];simp)
    subst e';rw[ha]at e;cases e;have d':Data.seq vs.toArray _=Data.dict M J:=d;cases d'
  have c:∀{b:Addr} {m:Str->Option Value},s₁.heap.Ns b m->(bM2 s₁.heap H).Ns b m:=λ{b m} ⟨o,M,J,e,d,r⟩=>⟨o,M,J,y e (noA e d),d,r⟩
  have N:K.In (bM2 s₁.heap H):=λb o e=>y (KX b o e) (by
   cases q:H b with
   | none=>rfl
   | some u=>
    have e':b=a:=hA b (by rw[q];simp)
    subst e';rw[hK (by rw[q];simp)]at e;cases e)
  have hM:Mod K mg (bM2 s₁.heap H):=⟨N,c Q,⟨mb,c j,hbb⟩,let ⟨mc,h1,h2⟩:=R;⟨mc,c h1,h2⟩⟩
  have e0:Env0 P w K mg (bM2 s₁.heap H) callerA [] s₁ H:=⟨rfl,hM,λb o e=>dP0 e,Nat.le_of_eq (cN8 _ _),trivial,λb j=>absurd (show b∈([]:AL) from j) (by simp),D,.of_eq hg⟩
  refine codeAny_mono ((F _ N (c Q)).run callerA [] s₁ H ⟨[.ref a],[]⟩ [.ref a] [.ref a] _ _ hr e0 (X s₁ (.ref a)) (.cons rfl .nil) (hsp H hO hS)) λr s' h=>?_
  cases r with
  | error e=>exact(hCX H e s' h).elim
  | ok fl=>
   cases fl with
   | next=>exact False.elim h
   | brk=>exact False.elim h
   | cont=>exact False.elim h
   | ret u=>
    obtain⟨v,H',os,U,un,B,r',q⟩:=h;have q':v=.bl true:=q;subst q';obtain rfl:u=Value.bool true:=r';refine⟨rfl,OldK.of_keep λb o e=>?_,os,U⟩
    cases q:H b with
    | none=>exact un.keep b o e q (by intro z;exact absurd (show b∈([]:AL) from z) (by simp)) (by simp)
    | some u=>
     rcases hO b with z | ⟨ob,xs,z⟩
     .rw[q]at z;cases z
     .have z2:=un.frzs b ob _ z
      obtain⟨e1,_⟩:=D b _ z;obtain⟨e2,_⟩:=B b _ z2;rw[e]at e1;cases e1;exact e2
 cases hk:K.lookup a with
 | some o=>
  have e:=KX a o hk
  rw[ha]at e;cases e;refine Y (λ_=>none) (λ_=>.inl rfl) (.inr ⟨_,vs.toArray,_,hk,rfl,rfl,rfl,by rw[Ab2,W7];exact hl,by simpa using rv⟩) (λb u z=>by have z':(none:Option HO)=some u:=z;cases z') (λb z=>absurd rfl z) λz=>absurd rfl z
 | none=>
  refine Y (λb=>if b=a then some (.frz {cls:=.type "list",data:=.seq vs.toArray} (.lst (ns.map V.int))) else none) (λb=>?_) (.inl (.inr ⟨{cls:=.type "list",data:=.seq vs.toArray},Ae rfl⟩)) (λb u z=>?_) (λb z=>?_) λ_=>hk
  .by_cases j:b=a
   .exact .inr ⟨_,_,Ae j⟩
   .exact .inl (Ac j)
  .by_cases j:b=a
   .have z':=(Ae j).symm.trans z
    cases z'
    subst j;exact⟨ha,by rw[Aa3];exact hl,vs,_,rv,ha⟩
   .have z':=(Ac j).symm.trans z
    cases z'
  .by_cases j:b=a
   .exact j
   .exact absurd (Ac j) z
abbrev KOf {K:Frag}{h:Heap}(_:K.In h):Frag:=K
theorem dJ3 {l:PySem.W.OpenLaw}{n k:Nat}{q:Program}{loose:AH}{XP:(Str->Option Value)->Heap->Prop}{YP:World->Heap->Prop}{d:DefRec}{K:Params->Frag}{CX:World->CXT}{sp:World->Sp}{x:Str}
  (hn:l.most=some n) (U:n<=sizeLine) (m:d.params.defaults=[]) (hr:Room k callerA)
  (B:∀(w:World) (h:Heap),YP w h->(K w.params).In h)
  (F:∀(w:World) (mg:Str->Option Value) (fa:Addr) (h:Heap),(K w.params).In h->h.Ns mainGlobals mg->mg d.name=some (.ref fa) ->
   ∃fd:FuncData,(∀(s:Shared) (u:Value),BindsTo s fd ⟨[u],[]⟩ [(x,u)]) /\
    ∀base:Heap,(K w.params).In base->base.Ns mainGlobals mg->J0 l.prog w (K w.params) mg base (CX w) k fa fd [x] (sp w))
  (J:∀(w:World) (H:Hp) (a:Addr) (ns:AD),ns.length<=n->eB8 H->SqL (K w.params) H a (ns.map V.int)->sp w [.ref a] H (λv _=>v=.bl true) λ_ _ _=>False)
  (c:∀(w:World) (H:Hp) (s:Shared) (e:Value) (s':Shared),CX w [] H s (λ_ _ _=>False) e s'->False) :
  PySem.W.WalkO q loose XP YP l.row.toRowW d [] (λf vs=>PySem.call f vs):=by
 refine Att.bV3 hn m λw s₀ s₁ mg mb fa o pm cd N a vs ns G Y ho hd hcd X j z y hg=>?_
 have M:=B w _ Y
 obtain⟨fd,P,R⟩:=F w mg fa _ M G.T.g X;exact dB7 M G.T.g G.T.b G.T.builtins G.T.nolimit hg j z (Ax y U) hr R P (λH Q D=>J w H a ns y Q D) λH e s'=>c w H s₁ e s'
def cE9 (s:Stmt)(j:Nat):Stmt:=match s with
 | .ClassDef _ _ _ body _ _ _ _ _ _ _=>body.getD j (.Pass ⟨0,0,0,0⟩)
 | _=>.Pass ⟨0,0,0,0⟩
def Y4 (s:Stmt):Arguments:=match s with
 | .FunctionDef _ a _ _ _ _ _ _ _ _=>a
 | _=>{posonlyargs:=[],args:=[],vararg:=none,kwonlyargs:=[],kw_defaults:=[],kwarg:=none,defaults:=[]}
def T4 (s:Stmt):List Stmt:=match s with
 | .FunctionDef _ _ b _ _ _ _ _ _ _=>b
 | _=>[]
def B1 (s:Stmt):Scope:=match s with
 | .FunctionDef _ _ _ _ _ _ sc _ _ _=>sc
 | _=>{kind:=.function,names:=[],isGenerator:=false,isCoroutine:=false}
abbrev CX0:CXT:=λ_ _ _ _ _ _=>False
abbrev E0:XK:=λ_ _ _=>False
theorem bX3:n5 CX0 X E0:=λ_ _ _ _ _ _ _ h=>h.elim
structure Fun (K:Frag)(x qual:Str)(st:Stmt)(f:Addr)(fd:FuncData):Prop where
 ex:∃(oc:Value) (od:AK) (kV doc pm:Value) (an:AK) (cdv ct:Value) (osl:Array (Option Value)),
  fd=PySem.W.fnOf x qual (Y4 st) (T4 st) (B1 st) .none kV doc pm an cdv ct/\K.lookup f=some ⟨oc,od,.func fd,osl⟩/\PySem.W.codeIn K cdv qual=true
 kp:PySem.W.keepIn K (.ref f)=true
section
variable {P:Program}{w:World}{K:Frag}{mg:Str->Option Value}{base:Heap}
theorem Fun.ok {x qual:Str}{st:Stmt}{f:Addr}{fd:FuncData}{N ps:AH}{k:Nat}{sp:Sp}(F:Fun K x qual st f fd)(S:C3 N ps (B1 st))(len:∀vs H Q E,sp vs H Q E->vs.length=ps.length)
  (e:∀(cdv:Value) (A:Around) (outer:List Env) (s:Shared) (H:Hp) (vs:List V) (Q:VK) (E:XK),Room k (A.deeper (envOfC qual (B1 st) s.heap.objs.size f cdv))->sp vs H Q E ->
   ∃t,PSs (aV4 CX0 P w K mg base N qual (B1 st) f cdv A outer s H E).nox (T4 st) t/\t {nx:=λ_ H'=>Q .non H',rt:=Q} (S5 N vs) H):J0 P w K mg base CX0 (k+1) f fd ps sp:=by
 obtain⟨U,J,kV,j,M,an,cdv,X,Y,rfl,m,y⟩:=F.ex;refine dQ7 m y S len λA outer s H vs Q E c z=>?_
 obtain⟨t,h,q⟩:=e cdv A outer s H vs Q E c z;exact⟨t,h.nox,q⟩
theorem Fun.binds {x qual:Str}{st:Stmt}{f:Addr}{fd:FuncData}{ps:AH}(F:Fun K x qual st f fd)
  (h:∀(kV doc pm:Value) (an:AK) (cdv ct:Value) (us:AG),us.length=ps.length->bindArgs (PySem.W.fnOf x qual (Y4 st) (T4 st) (B1 st) .none kV doc pm an cdv ct) ⟨us,[]⟩=pure (ps.zip us)):Binds K fd ps []:=by
 obtain⟨k,j,kV,doc,pm,an,cdv,ct,y,rfl,z,e⟩:=F.ex;exact .all (h kV doc pm an cdv ct)
theorem E5 {x qual:Str}{st:Stmt}{f:Addr}{oc:Value}{od an:AK}{osl:Array (Option Value)}{kV doc pm cdv ct:Value}(l:K.lookup f=some ⟨oc,od,.func (PySem.W.fnOf x qual (Y4 st) (T4 st) (B1 st) .none kV doc pm an cdv ct),osl⟩)
  (c:PySem.W.codeIn K cdv qual=true) (k:PySem.W.keepIn K (.ref f)=true):Fun K x qual st f (PySem.W.fnOf x qual (Y4 st) (T4 st) (B1 st) .none kV doc pm an cdv ct):=⟨⟨oc,od,kV,doc,pm,an,cdv,ct,osl,rfl,l,c⟩,k⟩
end
section
theorem pv (i:Nat)(y:X.N[i]? = some x:=by rfl)(z:Vis X.env.scope x:=by first | exact Or.inl rfl | exact Or.inr (Or.inl rfl) | exact Or.inr (Or.inr rfl))(w:(x==("__debug__" : Str))=false:=by decide)
  (e:(x==("__classdict__" : Str))=false:=by decide):PE X (.Name x pos) (F0 i):=dB0 y z w e
end
def Same (H H':Hp):Prop:=∀b o,H b=some o->H' b=some o
section
theorem bR9 (I:Nat->Shared->Prop)
  (y:∀n s,I n s->wpAny (model prog w) A (pyNext it) (λr s₁=>match r with
   | none=>R (.ok .next) s₁
   | some v=>wpAny (model prog w) A (letOwnedTupleGo target it v) (λ_ s₁'=>wpAny (model prog w) A (assign target env v) (λ_ s₂ =>
     wpAny (model prog w) A (forIn ifs true λc r=>if r=true then do let ok <- isTrue c env (eval c env);pure (ForInStep.yield ok) else pure (ForInStep.yield r)) (λok s₃ =>
      if ok=true then wpAny (model prog w) A (eval elt env) (λx s₄ =>
       wpAny (model prog w) A (call (.builtin "list.append") [acc,x]) (λ_ s₅=>∃m,m<n/\I m s₅) (λ_ _=>False) s₄) (λ_ _=>False) s₃
      else ∃m,m<n/\I m s₃) (λ_ _=>False) s₂) (λ_ _=>False) s₁') (λ_ _=>False) s₁) (λ_ _=>False) s)
  (n:Nat) (h:I n s) :
  codeAny (model prog w) A (.compLoop (.ListComp elt [⟨target,iter,ifs,0⟩] scope pos) 0 it acc env) R s:=by
 refine codeAny_loop rfl I (λn s Y=>?_) n h
 show wpAny _ A ((compTurn (.ListComp elt [⟨target,iter,ifs,0⟩] scope pos) 0 it acc env).onRaise (λx=>do noteFrame x env;theTreesLotGoes x)) _ _ s
 refine wpAny_noted ?_;rw[compTurn_list];refine Aa (wpAny_standAt (Aa (wpAny_mono (y n s Y) (λr s₁ k=>?_) λ_ _ e=>e.elim)))
 cases r with
 | none=>exact Ab k
 | some v=>
  refine Aa (wpAny_mono k (λ_ s₁' z=>?_) λ_ _ e=>e.elim)
  refine Aa (wpAny_mono z (λ_ s₂ X=>Aa (wpAny_mono X (λok s₃ j=>?_) λ_ _ e=>e.elim)) λ_ _ e=>e.elim)
  cases ok with
  | false=>exact Ab ⟨rfl,j⟩
  | true=>
   exact Aa (Aa (wpAny_mono j (λx s₄ U=>Aa (wpAny_mono U (λ_ s₅ J=>Ab (Ab ⟨rfl,J⟩)) λ_ _ e=>e.elim)) λ_ _ e=>e.elim))
end
section
def cxC (X:Cx)(N':AH)(scope:Scope)(cl:List (Str×Addr))(C:Addr)(ex:AL)(s:Shared)(H:Hp):Cx:=
 {X with N:=N',s₀:=s,H₀:=H,env:=compEnvC scope cl C X.env,outer:=X.stack,ex:=ex,fn:=λ_=>false,xe:=λ_ _=>False}
structure PIfs (X:Cx)(ifs:AM)(t:TT):Prop where
 mk ::
 run :
  ∀(aA:Dz) (s:Shared) (σ:St) (H:Hp) (Q:Bool->Hp->Prop),Inv X aA σ H s->t σ H Q ->
   wpAny (model X.prog X.w) X.A (forIn ifs true λc r=>if r=true then do let ok <- isTrue c X.env (eval c X.env);pure (ForInStep.yield ok) else pure (ForInStep.yield r)) (TP X aA σ Q) X.xe s
instance {X:Cx} {ifs:AM} {t:TT}:CoeFun (PIfs X ifs t) λ_=>
 (∀(aA:Dz) (s:Shared) (σ:St) (H:Hp) (Q:Bool->Hp->Prop),Inv X aA σ H s->t σ H Q ->
  wpAny (model X.prog X.w) X.A (forIn ifs true λc r=>if r=true then do let ok <- isTrue c X.env (eval c X.env);pure (ForInStep.yield ok) else pure (ForInStep.yield r)) (TP X aA σ Q) X.xe s):=⟨PIfs.run⟩
def bE1:TT:=λ_ H Q=>Q true H
theorem G4:PIfs X [] bE1:=⟨λe s σ H Q I h=>by
 show wpAny _ _ (pure true) _ _ _
 exact Ab ⟨H,I,h⟩⟩
theorem bY5 (y:PT X c t):PIfs X [c] t:=⟨λe s σ H Q I h=>by
 rw[List.forIn_cons,Ae rfl];refine Aa (Aa (thn (y e s σ H Q I h) λb w q=>Ab ?_))
 dsimp only
 rw[List.forIn_nil];exact Ab q⟩
def stC (n:Nat)(is:AC)(σ:St):St:=List.replicate n none++is.map λi=>(σ[i]?).getD none
def bK3 (wi:TI)(n:Nat)(is:AC)(g:TG)(tt:TT)(te:TE):TE:=λσ H Q=>wi σ H λJ H1=>
 ∃W:Nat->Nat->List V->Hp->Prop,(∃m,W 0 m [] H1)/\∀i m ys H,W i m ys H->ys.length<sizeLine /\
  ((J.stop i H/\∀D,H D=none->Q (.ref D) (upd H D (.lst ys))) \/
   (J.go i H/\∀x H',J.yld i H x H'->g x (stC n is σ) H' λσ2 H2=>tt σ2 H2 λb H3=>
    if b=true then te σ2 H3 (λy H4=>∃m',m'<m/\W (i+1) m' (ys++[y]) H4) else ∃m',m'<m/\W (i+1) m' ys H3))
structure CScope (X:Cx)(scope:Scope)(cl:List (Str×Addr))(T:AH)(is:AC)(N':AH):Prop where
 clos:closureFor scope X.env=pure cl
 cell:∀y∈scope.names,y.2≠.cell
 kind:scope.kind=.function
 names:∀y∈scope.names,y.2=.local->scope.names.lookup y.1=some .local
 cap:∀x c,cl.lookup x=some c->X.env.cells.lookup x=some c
 has:∀x,((relabel scope X.env).names.lookup x=some .cell\/(relabel scope X.env).names.lookup x=some .free)->∃c,cl.lookup x=some c
 N:N'=T++is.map λ(i:Nat)=>((X.N[i]?).getD Str.empty:Str)
 lt:∀i∈is,i<X.N.length
 capt:∀i∈is,∀x,X.N[i]? = some x->((relabel scope X.env).names.lookup x=some .cell\/(relabel scope X.env).names.lookup x=some .free)/\(X.env.kindOf x=some .cell\/X.env.kindOf x=some .free)
theorem eA6 {aA:Dz}{σ:St}{H:Hp}{s:Shared}{scope:Scope}{cl:List (Str×Addr)}{T N':AH}{is:AC}{C:Addr}{fp:AL}(S:CScope X scope cl T is N')(I:Inv X aA σ H s)
  (k:∀b∈fp,bD2 X aA H b) (j:∀b∈fp,b<s.heap.objs.size) (m:s.heap.objs.size<=C):(cxC X N' scope cl C fp s H).Ok where
 mod:=I.ok.mod
 kind:=S.kind
 glob:=I.ok.glob
 blt:=I.ok.blt
 above:=m
 inj:=λx y c h1 Y=>I.ok.inj x y c (S.cap x c h1) (S.cap y c Y)
 has:=S.has
 cab:=λx c h=>by cases h
 hd:=I.ok.hd
 frames:=I.ok.frames
 stk:=.inl rfl
 exf:=λb w=>⟨Ab9 (Ab8 (j b w) m),λx c e=>(k b w).2.2.2.2.1 x c (S.cap x c e)⟩
 bs:=λb o e=>I.bs b o e
 bsz:=Ax I.ok.bsz I.sz
 noex:=λb o e w=>by
  rcases (k b w).2.2.2.1 with z | z
  .exact I.ok.noex b o e z
  .exact absurd (Ab8 (Ab3 e) (Ax I.ok.bsz z)) (Ad9 _)
 exfs:=λb w z=>(Aa1.mp (I.stkSub b z)).elim (k b w).2.1 (k b w).2.2.1
 funs:=I.stack
 frf:=I.stkFree
def cL5 (n:Nat)(g:TG):Prop:=∀v (σ:St) H Q,n<=σ.length->g v σ H Q->g v σ H λσ' H'=>Q σ' H'/\σ'.length=σ.length/\∀i,n<=i->σ'[i]? = σ[i]?
theorem K2 (h:i<n):cL5 n (Q3 i):=λv σ H Q y q=>
 ⟨q,Dm,λj e=>Ad0 (by lia)⟩
abbrev aK2 (its:AG)(n:Nat):Obj:={cls:=.type "list",data:=.seq its.toArray n}
theorem cU3 {aA:Dz}{σ:St}{H:Hp}{s:Shared}{scope:Scope}{cl:List (Str×Addr)}{T N':AH}{is:AC}{C D:Addr}{fp:AL}{h₁:Heap}{tk:Nat}{m:Str->Option Value}{its:AG}{e:Nat}(S:CScope X scope cl T is N')(I:Inv X aA σ H s)
  (hf:∀b∈fp,bD2 X aA H b) (hfl:∀b∈fp,b<s.heap.objs.size) (Q:s.heap.objs.size=D) (P:D<C) (hns:h₁.Ns C m) (j:∀b o,s.heap.get? b=some o->h₁.get? b=some o) (M:h₁.get? D=some (aK2 its e)) :
  Inv (cxC X N' scope cl C fp s H) (aA++[(D,aK2 its e)]) (stC T.length is σ) H {s with heap:=h₁,toks:=tk}:=by
 have J:s.heap.objs.size<=C:=by rw[Q];exact Cw P
 have ok:=eA6 (C:=C) S I hf hfl J
 have lt:∀p∈X.pn++aA,p.1<D:=λp hp=>by rw[<- Q];exact Ab3 (I.pin p hp).1
 have stk:∀b∈frs X.stack,b<D:=λb hb=>by
  obtain⟨_,o,ho,_⟩:=I.stack.mem hb;rw[<- Q];exact Ab3 ho
 refine⟨ok,rfl,I.bare,Un.kept j,⟨m,hns,λi x v Y w e3=>?_⟩,λx c h=>?_,?_,λx c h=>I.freeC x c (S.cap x c h),λp hp=>?_,I.hok.kept j,?_⟩
 .have Y:N'[i]? = some x:=Y
  unfold stC at w;by_cases hi:i<T.length
  .rw[Bp (by simpa using hi),Cp,Ae hi]at w
   cases w
  .rw[Bi (by simpa using hi),Ct,Aa9]at w
   rw[S.N,Bi (by lia),Aa9]at Y
   cases B:is[i-T.length]? with
   | none=>rw[B]at w;cases w
   | some k=>
    rw[B]at Y w;have hk:k∈is:=Bf B;have hlt:=S.lt k hk;have eN:X.N[k]? = some x:=by
     simp only[Option.map_some,Option.some.injEq]at Y;rw[Aa2 hlt]at Y ⊢;simpa using Y
    have es:σ[k]? = some (some v):=by
     simp only[Option.map_some,Option.some.injEq]at w;cases q:σ[k]? with
     | none=>rw[q]at w;cases w
     | some y=>rw[q]at w;exact congrArg some w
    obtain⟨c1,c2⟩:=S.capt k hk x eN;obtain⟨m',hn',hl'⟩:=I.loc;obtain⟨u,r,l⟩:=hl' k x v eN es (.inr c2);refine⟨u,r,.inr ⟨c1,?_⟩⟩;rcases l with⟨k1,_⟩ | ⟨_,c,hc,U⟩
    .rcases c2 with c2 | c2 <;> rw[k1]at c2 <;> cases c2
    .obtain⟨F,R⟩:=S.has x c1
     have:F=c:=Ab4 ((S.cap x F R).symm.trans hc)
     subst this;exact⟨F,R,U.keeps j⟩
 .obtain⟨v,q⟩:=I.cell x c (S.cap x c h);exact⟨v,q.keeps j⟩
 .exact I.hok.fresh J
 .have hp:p∈X.pn++(aA++[(D,aK2 its e)]):=hp
  rw[<- Ad7]at hp;rcases Aa0.mp hp with hp | hp
  .obtain⟨q1,q2,q3,q4,q5⟩:=I.pin p hp
   have:=lt p hp
   exact⟨j _ _ q1,q2,Ab9 (Nat.lt_trans this P),λz=>(Aa1.mp (I.stkSub p.1 z)).elim q3 q4,q5⟩
  .have e:p=(D,aK2 its e):=by simpa using hp
   subst e;exact⟨M,I.hok.fresh (by rw[Q];exact Aa7 _),Ab9 P,λz=>Ad9 _ (stk D z),λv z=>by cases z⟩
 .show(stC T.length is σ).length=N'.length
  rw[S.N];unfold stC
  simp
def dH5 (X:Cx)(aA:Dz)(σ:St)(D C:Addr)(H4:Hp)(s4:Shared):Prop:=
 (∃m,s4.heap.Ns C m)/\(∀h',Heap.SameBut C s4.heap h'->Inv X aA σ H4 {s4 with heap:=h'})/\H4 C=none/\C≠X.env.locals/\X.s₀.heap.objs.size<=C/\(∀x c,X.env.cells.lookup x=some c->c≠C)/\∀p∈X.pn++aA,p.1≠C
theorem bL1 {elt tg iter:Expr}{ifs:AM}{scope:Scope}{pos pos2:Pos}{cl:List (Str×Addr)}{T N':AH}{is:AC}{wi:TI}{g:TG}{tt:TT}{te:TE}(hc:X.calm=true)(S:CScope X scope cl T is N')(hi:PI X tg iter wi)(hg:cL5 T.length g)
  (k:∀C ex s H,PG (cxC X N' scope cl C ex s H) tg g/\PIfs (cxC X N' scope cl C ex s H) ifs tt/\PE (cxC X N' scope cl C ex s H) elt te)
  (hs:∀x,foldedSetIterable iter X.env x=pure x) {use:Option (Value->Sem Unit)} {Qc:Dy} {aA:Dz} {s:Shared} {σ:St} {H:Hp} {Q:VK} (I:Inv X aA σ H s) (h:bK3 wi T.length is g tt te σ H Q)
  (fin:∀(D C:Addr) (H4:Hp) (s4:Shared),dH5 X aA σ D C H4 s4->Q (.ref D) H4->compPost (model X.prog X.w) X.A X.xe use Qc (.ref D) C (.ok .next) s4) :
  wpAny (model X.prog X.w) X.A (comprehension (.ListComp elt [⟨tg,iter,ifs,0⟩] scope pos) scope X.env pos2 (newList []) false (eval iter X.env) use) Qc X.xe s:=by
 refine wpAny_comprehension_free (use:=use) rfl hs S.clos S.kind S.names (thn (hi aA s σ H _ I h) λv s1 h1=>thn h1 λitv Y h2=>?_)
 obtain⟨it,m,tn,J,M,e,I2,Tn,st2,f2,W,⟨m0,w0⟩,turn⟩:=h2;subst e;refine Cg (wpAny_newFunctionEnv S.cell (by intro y hy;simp at hy) (λh₁ B N=>?_) S.kind)
 dsimp only at B N ⊢
 generalize hH2:Y.heap.push {cls:=.type "list",dict:=none,data:=.seq ([]:AG).toArray}=G2 at B N ⊢;have eC:G2.objs.size=Y.heap.objs.size+1:=by rw[<- hH2,By]
 generalize hC:G2.objs.size=C at *;generalize hD:Y.heap.objs.size=D at *;have U:D<C:=by rw[eC];exact Nat.lt_succ_self D
 have bC:∀{b:Addr},b<D->b≠C:=λk=>Ab9 (Nat.lt_trans k U)
 have below:∀b o,Y.heap.get? b=some o->b<D:=λb o e=>by rw[<- hD];exact Ab3 e
 have old:∀b o,Y.heap.get? b=some o->h₁.get? b=some o:=λb o e=>N.extBut b o (bC (below b o e)) (Aa6 _ (hH2▸Aa6 _ e))
 have hacc:h₁.get? D=some (aK2 [] 0):=N.extBut _ _ (Ab9 U) (Aa6 _ (hH2▸(by rw[<- hD];exact Ac3 _ rfl)))
 have F:∀b∈m,b<D:=λb k=>by
  obtain⟨o,e,_⟩:=Tn.obj _ _ st2 b k;exact below b o e
 have lt:∀p∈X.pn++aA,p.1<D:=λp hp=>below _ _ (I2.pin p hp).1
 have stk:∀b∈frs X.stack,b<D:=λb k=>by
  obtain⟨_,o,ho,_⟩:=I2.stack.mem k;exact below b o ho
 have cel:∀x c,cl.lookup x=some c->c<D:=λx c hx=>by
  obtain⟨v,q⟩:=I2.cell x c (S.cap x c hx);rw[<- hD];exact q.lt
 have H2D:M D=none:=I2.hok.fresh (by rw[hD];exact Aa7 _)
 obtain⟨pgx,pix,pex⟩:=k C m Y M;have stat:∀{e:Nat} {its:AG} {H':Hp},(∀b∈m,H' b=none)->∀b∈m,bD2 (cxC X N' scope cl C m Y M) (aA++[(D,aK2 its e)]) H' b:=λ{e its H'} hn b k=>by
  obtain⟨f0,f1,f3,f4,f5,f6⟩:=f2 b k
  have:=F b k
  refine⟨hn b k,bC (F b k),λz=>(Aa1.mp (I2.stkSub b z)).elim f1 f3,.inl k,λx c z=>f5 x c (S.cap x c z),λp hp=>?_⟩
  have hp:p∈X.pn++(aA++[(D,aK2 its e)]):=hp
  rw[<- Ad7]at hp;rcases Aa0.mp hp with hp | hp
  .exact f6 p hp
  .have e:p=(D,aK2 its e):=by simpa using hp
   subst e;exact(Ab9 (F b k)).symm
 have loop:codeAny (model X.prog X.w) X.A (.compLoop (.ListComp elt [⟨tg,iter,ifs,0⟩] scope pos) 0 (.ref it) (.ref D) (compEnvC scope cl C X.env)) (compPost (model X.prog X.w) X.A X.xe use Qc (.ref D) C) {Y with heap:=h₁,toks:=Y.toks+([]:List (Str×Value)).length}:=by
  refine bR9 (λn s'=>∃i ys its e R,Inv (cxC X N' scope cl C m Y M) (aA++[(D,aK2 its e)]) (stC T.length is σ) R s'/\tn i s'.heap/\(∀b∈m,R b=none)/\Vals ys its/\W i n ys R) ?_ m0
   ⟨0,[],[],0,M,cU3 S I2 f2 (by rw[hD];exact F) hD U B old hacc,Tn.keep _ _ _ st2 λb _ o q=>old b o q,λb k=>(f2 b k).1,.nil,w0⟩
  rintro n s3 ⟨i,ys,its,e,R,I3,st3,fr3,rv,w3⟩;obtain⟨hsz,hh⟩:=turn i n ys R w3;rcases hh with⟨stop,qn⟩ | ⟨go,step⟩
  .refine thn (Tn.done (cxC X N' scope cl C m Y M) rfl rfl rfl hc i _ s3 _ R _ I3 (stat fr3) st3 stop) λr s4 ⟨hr,I4⟩=>?_
   subst hr;obtain⟨m4,hn4,_⟩:=I4.loc;obtain⟨pd,H3D,_⟩:=I4.pin (D,aK2 its e) (by simp)
   have H3C:R C=none:=I4.free
   refine fin D C (upd R D (.lst ys)) s4 ⟨⟨m4,hn4⟩,λh' sb=>?_,by rw[B4 (Nat.ne_of_gt U)];exact H3C,λz=>Ad9 _ (Nat.lt_trans U (by rw[z];have:=I2.lt;rw[hD]at this;exact this)),Ax I2.sz (by rw[hD];exact Cw U),λx c e=>by
    obtain⟨v,q⟩:=I2.cell x c e;exact bC (by rw[<- hD];exact q.lt),λp hp=>bC (lt p hp)⟩ (qn D H3D)
   have kC:∀b o,b≠C->s4.heap.get? b=some o->h'.get? b=some o:=λb o k q=>(sb.2 b k).trans q
   have u:=I4.base
   have u:Un (frs X.stack) m M R Y.heap s4.heap:=u
   have u2:Un (frs X.stack) m M (upd R D (.lst ys)) Y.heap h':=by
    refine⟨λb o q n k hx=>kC b o (bC (below b o q)) (u.keep b o q n k hx),λb o q n k hx=>?_,λb o q n hx=>?_,λb o q hx=>?_,λb xs q=>?_,λb o xs q=>?_,λb ps q=>?_⟩
    .obtain⟨sl,q1⟩:=u.slot b o q n k hx;exact⟨sl,kC b _ (bC (below b o q)) q1⟩
    .rw[B4 (Ab9 (below b o q))];exact u.free b o q n hx
    .obtain⟨o',q1⟩:=u.there b o q hx;exact⟨o',kC b _ (bC (below b o q)) q1⟩
    .rw[B4 (E7 q H2D)];exact u.tups b xs q
    .rw[B4 (E7 q H2D)];exact u.frzs b o xs q
    .obtain⟨more,q1⟩:=u.tbls b ps q;exact⟨more,by rw[B4 (E7 q H2D)];exact q1⟩
   have hok:HOk X.prog X.w (upd R D (.lst ys)) h':=λb o q=>by
    by_cases k:b=D
    .subst k;rw[B6]at q;cases q;exact⟨Cw hsz,its,e,rv,kC _ _ (Ab9 U) pd⟩
    .rw[B4 k]at q;refine(I4.hok b o q).stay (λc v hc q'=>kC c v ?_ q') (λc q'=>by rw[B4 (E7 q' H3D)];exact q') λc xs q'=>by rw[B4 (E7 q' H3D)];exact q'
     rcases hc with z | z
     .rw[z];exact E7 q H3C
     .exact E7 z H3C
   have os4:s4.os=Y.os:=I4.os
   exact I2.call' (s':={s4 with heap:=h'}) os4 u2 hok I4.bare λb k=>⟨(f2 b k).2.2.2.1,(f2 b k).2.1,(f2 b k).2.2.2.2.1,(f2 b k).2.2.2.2.2⟩
  .refine thn (Tn.item (cxC X N' scope cl C m Y M) rfl rfl rfl hc i _ s3 _ R _ I3 (stat fr3) st3 go) λr s4 ⟨u,hr,h4⟩=>?_
   subst hr;refine thn h4 λ_ s5 pz=>?_
   obtain⟨x,H5,I5,r5,y5,st5,fr5⟩:=pz;have I5':=I5.pinned (stat fr5) (Tn.obj _ _ st5);have hln:T.length<=(stC T.length is σ).length:=by unfold stC;simp
   refine thn (pgx _ s5 _ H5 x u _ I5' r5 (hg x _ H5 _ hln (step x H5 y5))) λ_ s6 pz=>?_
   obtain⟨σ6,H6,I6,q6,l6,k6⟩:=pz;refine thn (pix _ s6 σ6 H6 _ I6 q6) λb s7 pz=>?_
   obtain⟨H7,I7,q7⟩:=pz;have back:∀{H8:Hp} {s8:Shared} {P:AG} {e':Nat},Inv (cxC X N' scope cl C m Y M) (aA++[(D,aK2 P e')]++aA4 m s5.heap) σ6 H8 s8->Inv (cxC X N' scope cl C m Y M) (aA++[(D,aK2 P e')]) (stC T.length is σ) H8 s8/\tn (i+1) s8.heap/\∀b∈m,H8 b=none:=λ{H8 s8 P e'} I8=>by
    refine⟨I8.unpinned.weak l6.symm λj v q=>?_,Tn.keep _ _ _ st5 λb k o q=>(I8.pin (b,o) (Ac1 _ (Ac1 _ (t6 k q)))).1,λb k=>?_⟩
    .by_cases hj:T.length<=j
     .rw[k6 j hj];exact q
     .unfold stC at q;rw[Bp (by simpa using hj),Cp,Ae (by lia)]at q
      cases q
    .obtain⟨o,q,d⟩:=Tn.obj _ _ st5 b k;exact(I8.pin (b,o) (Ac1 _ (Ac1 _ (t6 k q)))).2.1
   cases b with
   | false=>
    rw[Ac Ak]at q7 ⊢;obtain⟨m',hm,w7⟩:=q7;obtain⟨J1,J2,J3⟩:=back I7;exact⟨m',hm,i+1,ys,its,e,H7,J1,J2,J3,rv,w7⟩
   | true=>
    rw[Ae rfl]at q7 ⊢;refine thn (pex _ s7 σ6 H7 _ I7 q7) λy s8 pz=>?_
    obtain⟨yv,H8,I8,r8,m',hm,w8⟩:=pz;obtain⟨pd,H8D,_⟩:=I8.pin (D,aK2 its e) (by simp)
    have pl:s8.heap.PlainList D its.toArray:=⟨e,pd⟩
    refine wpAny_list_append_plain pl (λh9 pl9 sb9=>?_) (by have:=rv.length;simp;lia)
    obtain⟨e9,hl9⟩:=pl9;have ea:its.toArray.push y=(its++[y]).toArray:=by simp
    rw[ea]at hl9;have I8':Inv (cxC X N' scope cl C m Y M) (aA++aA4 m s5.heap) σ6 H8 s8:=I8.pins_of λp hp=>I8.pin p (Ac1 _ ((Aa0.mp hp).elim (λz=>Cf _ (Cf _ z)) λz=>Ac1 _ z))
    have I9:Inv (cxC X N' scope cl C m Y M) (aA++aA4 m s5.heap) σ6 H8 {s8 with heap:=h9}:=by
     refine I8'.turned (t':=s8.toks) (it:=D) (λb o k q=>(sb9.2 b k).trans q) H8D (Ab9 U) (.inr (by show Y.heap.objs.size<=D;rw[hD];exact Aa7 _)) (λx c z=>Ab9 (cel x c z)) λp hp=>?_
     have hp:p∈X.pn++(aA++aA4 m s5.heap):=hp
     rw[<- Ad7]at hp;rcases Aa0.mp hp with z | z
     .exact Ab9 (lt p z)
     .exact Ab9 (F _ (bH6 z).1)
    have I9':Inv (cxC X N' scope cl C m Y M) (aA++[(D,aK2 (its++[y]) e9)]++aA4 m s5.heap) σ6 H8 {s8 with heap:=h9}:=I9.pins_of λp hp=>by
     rcases Aa0.mp hp with z | z
     .rcases Aa0.mp z with z | z
      .exact I9.pin p (Ac1 _ (Cf _ z))
      .have ep:p=(D,aK2 (its++[y]) e9):=by simpa using z
       subst ep;exact⟨hl9,H8D,Ab9 U,λz=>Ad9 _ (stk D z),λv z=>by cases z⟩
     .exact I9.pin p (Ac1 _ (Ac1 _ z))
    obtain⟨J1,J2,J3⟩:=back I9';exact⟨m',hm,i+1,ys++[yv],its++[y],e9,H8,J1,J2,J3,rv.append (.cons r8 .nil),w8⟩
 refine codeAny_compStart_list loop ?_;exact Tn.self _ 0 _ _ _ (Tn.keep _ _ _ st2 λb _ o q=>old b o q) loop
theorem L9 {elt tg iter:Expr}{ifs:AM}{scope:Scope}{pos:Pos}{cl:List (Str×Addr)}{T N':AH}{is:AC}{wi:TI}{g:TG}{tt:TT}{te:TE}(k:X.calm=true)(S:CScope X scope cl T is N')(hi:PI X tg iter wi)(j:cL5 T.length g)
  (z:∀C ex s H,PG (cxC X N' scope cl C ex s H) tg g/\PIfs (cxC X N' scope cl C ex s H) ifs tt/\PE (cxC X N' scope cl C ex s H) elt te)
  (c:∀x,foldedSetIterable iter X.env x=pure x:=by intro _;rfl):PE X (.ListComp elt [⟨tg,iter,ifs,0⟩] scope pos) (bK3 wi T.length is g tt te):=by
 refine⟨?_⟩;intro U s σ H Q I h;rw[eval_ListComp];refine bL1 k S hi j z c I h λD C y M ⟨⟨m,e⟩,J,_⟩ q=>?_
 exact⟨m,e,λw Y=>⟨.ref D,y,J w Y,rfl,q⟩⟩
theorem aY4 {i:Nat}{x:Str}{pos' spos:Pos}{elt tg iter:Expr}{ifs:AM}{scope:Scope}{pos:Pos}{cl:List (Str×Addr)}{T N':AH}{is:AC}{wi:TI}{g:TG}{tt:TT}{te:TE}(hN:X.N.Nodup)(hx:X.N[i]? = some x)(Y:X.env.scope.names.lookup x=some .local)
  (hc:X.calm=true) (S:CScope X scope cl T is N') (hi:PI X tg iter wi) (hg:cL5 T.length g)
  (y:∀C ex s H,PG (cxC X N' scope cl C ex s H) tg g/\PIfs (cxC X N' scope cl C ex s H) ifs tt/\PE (cxC X N' scope cl C ex s H) elt te)
  (z:swapsWith (.ListComp elt [⟨tg,iter,ifs,0⟩] scope pos) (some (.Name x pos')) spos.line X.env=pure true:=by rfl)
  (hs:∀x,foldedSetIterable iter X.env x=pure x:=by intro _;rfl):PS X (.Assign [.Name x pos'] (.ListComp elt [⟨tg,iter,ifs,0⟩] scope pos) spos) (aK1 (bK3 wi T.length is g tt te) (Q3 i)):=by
 refine⟨?_⟩;intro m s σ H D I h;rw[exec_Assign_Name_used _ _ _ _ z];refine Aa (wpAny_standAt (Aa ?_));show wpAny _ X.A (do let _ <- comprehension (.ListComp elt [⟨tg,iter,ifs,0⟩] scope pos) scope X.env _ (newList []) false (eval iter X.env) (some (assign (.Name x pos') X.env))) _ _ s;refine Aa (wpAny_mono (bL1 (use:=some (assign (.Name x pos') X.env)) (Qc:=λ_ R=>SP X m D .next R) hc S hi hg y hs I h λj C c Q ⟨⟨m4,w⟩,J,k1,U,k3,M,k5⟩ q=>?_) (λ_ R hq=>Ab (Ab hq)) λ_ _ e=>e)
 show wpAny _ _ (assign (.Name x pos') X.env (.ref j)) _ _ _
 have F:Inv X m σ c Q:=J Q.heap (.refl _ _)
 refine wpAny_assign_Name (bK4 F hN hx (.inl Y) (v:=.ref j) rfl (λs5 B pz=>?_) (.inr Y))
 obtain⟨a,sb,ha⟩:=pz;have P:a≠C:=by
  rcases ha with rfl | ha
  .exact U.symm
  .exact M x a ha
 refine⟨m4,w.sameBut sb P.symm,λh' k=>⟨_,c,?_,q⟩⟩
 exact B.turned (t':=s5.toks) (λb o y e=>(k.2 b y).trans e) k1 U (.inr k3) M k5
end
end L2
namespace LV
open PySem L2
def _root_.L2.excO (x C:Addr):HO:=.ext λh=>∃o vs,h.get? x=some o/\o.cls=.ref C/\o.data=.fields vs
def _root_.L2.dEnt (x:AD×Addr×Value):DictEntry:=⟨reduceHash (Builtin.Tuple.tupleHashOf (x.1.map hashInt)),.ref x.2.1,x.2.2⟩
def _root_.L2.dicO (a:Addr)(kv:List (AD×Addr×V)):HO:=.ext λh=>∃xs:List (AD×Addr×Value),Paired (λp q=>p.1=q.1/\p.2.1=q.2.1/\RelV p.2.2 q.2.2) kv xs /\
 kv.length<=sizeLine/\(a==sysModules)=false/\∃o es ep,h.get? a=some o/\o.ExactDict/\o.data=.dict es ep/\es.toList=xs.map L2.dEnt/\(xs.map (·.1)).Nodup
inductive HM where
 | l (xs:List V) | x (a:Addr) (kv:List (AD×Addr×V))
def HM.ho:HM->HO
 | .l xs=>.lst xs
 | .x a kv=>L2.dicO a kv
theorem HM.nt {u:HM}{xs:List V}(h:u.ho=.tup xs):False:=by cases u <;> cases h
theorem HM.nf {u:HM}{o:Obj}{v:HO}(h:u.ho=.frz o v):False:=by cases u <;> cases h
def _root_.L2.excD (x C:Addr)(d:AK):HO:=.ext λh=>∃o vs,h.get? x=some o/\o.cls=.ref C/\o.data=.fields vs/\o.dict=d
theorem HM.nd {u:HM}{x C:Addr}{d:AK}(h:u.ho=L2.excD x C d):False:=by
 cases u with
 | l xs=>cases h
 | x a kv=>
  have e:=HO.ext.inj h
  have k:=congrFun e ⟨Array.replicate (x+1) {cls:=.ref C,data:=.fields #[],dict:=d},{}⟩
  have g:∀b o,(Heap.get? ⟨Array.replicate (x+1) {cls:=.ref C,data:=.fields #[],dict:=d},{}⟩ b)=some o->o={cls:=.ref C,data:=.fields #[],dict:=d}:=λb o q=>by
   unfold Heap.get? at q;dsimp only at q;rw[Array.getElem?_replicate]at q;by_cases z:b<x+1
   .rw[Ae z]at q;exact(Ab4 q).symm
   .rw[Ac z]at q;cases q
  have y:=k.mpr ⟨{cls:=.ref C,data:=.fields #[],dict:=d},#[],by unfold Heap.get?;dsimp only;rw[Array.getElem?_replicate,Ae (by lia)],rfl,rfl,rfl⟩
  obtain⟨_,_,_,_,o,c,j,h1,_,w,_⟩:=y;rw[g a o h1]at w;cases w
def cG2:PyData->Bool
 | .none | .bool _ | .int _ | .str _=>true
 | .tuple ds=>ds.all λd=>match d with | .int _=>true | _=>false
 | _=>false
def dF2 (K:Frag)(H:Hp)(v:V):PyData->Prop
 | .none=>v=.non
 | .bool b=>v=.bl b
 | .int i=>v=.int i
 | .str x=>v=.str x
 | .tuple ds=>∃(a:Addr) (l:AD),v=.ref a/\ds=l.map PyData.int/\SqT K H a (l.map V.int)
 | _=>False
def dN6 (kvs:List (AD×PyData)):List (PyData×PyData):=kvs.map λx=>(PyData.tuple (x.1.map PyData.int),x.2)
def dD (kvs:List (AD×PyData)):PyData:=if kvs.all (λx=>cG2 x.2) then .dict (dN6 kvs) else .dict [(.none,.none)]
def KvF (K:Frag)(H:Hp):List (AD×Addr×V)->List (AD×PyData)->Prop:=Paired λx y=>x.1=y.1/\SqT K H x.2.1 (x.1.map V.int)/\dF2 K H x.2.2 y.2
def DiF (K:Frag)(H:Hp):List (Int×Addr)->List (Int×AD)->Prop:=Paired λx y=>x.1=y.1/\SqT K H x.2 (y.2.map V.int)
def sV:PyData->Option V
 | .none=>some .non
 | .bool b=>some (.bl b)
 | .int i=>some (.int i)
 | .str x=>some (.str x)
 | _=>none
def bW6 (K:Frag)(H:Hp)(v:V):PyData->Prop
 | .tuple ds=>∃(a:Addr) (xs:List V),v=.ref a/\SqT K H a xs/\xs.map some=ds.map sV
 | d=>sV d=some v
def xfD (C:Addr)(fs:List (Str×PyData)):PyData:=.dict ((.int (C:Nat),.bool false)::fs.map λx=>(.str x.1,x.2))
def FdF (K:Frag)(H:Hp):List (Str×V)->List (Str×PyData)->Prop:=Paired λx y=>x.1=y.1/\bW6 K H x.2 y.2
def XdA (H:Hp)(vs:List (Str×V)):AK->Prop
 | none=>vs=[]
 | some dx=>H dx=some (.xd vs)
mutual
inductive Rep (K:Frag)(H:Hp):V->PyData->Prop
 | non:Rep K H .non .none
 | bl (b:Bool):Rep K H (.bl b) (.bool b)
 | int (i:Int):Rep K H (.int i) (.int i)
 | str (x:Str):Rep K H (.str x) (.str x)
 | tup {a:Addr} {xs:List V} {ds:AF}:SqT K H a xs->Reps K H xs ds->Rep K H (.ref a) (.tuple ds)
 | lst {a:Addr} {xs:List V} {ds:AF}:SqL K H a xs->Reps K H xs ds->Rep K H (.ref a) (.list ds)
 | exc {a C:Addr}:H a=some (L2.excO a C)->Rep K H (.ref a) (.dict [(.int (C:Nat),.none)])
 | ptr {a:Addr}:Rep K H (.ref a) (.dict [(.none,.none)])
 | adr {a:Addr}:Rep K H (.ref a) (.dict [(.int (a:Nat),.none),(.none,.none)])
 | exd {a C:Addr} {d:AK} {vs:List (Str×V)} {fs:List (Str×PyData)}:H a=some (L2.excD a C d)->XdA H vs d->FdF K H vs fs->Rep K H (.ref a) (.dict ((.int (C:Nat),.bool false)::fs.map λx=>(.str x.1,x.2)))
 | ins {a C dx:Addr} {fs:List (Str×Int)}:H a=some (.ins C dx (fs.map λx=>(x.1,V.int x.2)))->Rep K H (.ref a) (.dict ((.int (C:Nat),.bool true)::fs.map λx=>(.str x.1,.int x.2)))
 | dki {a:Addr} {kv:List (Int×Addr)} {kvs:List (Int×AD)}:H a=some (.dK (kv.map λx=>((Sum.inl x.1:L2.Key),V.ref x.2)))->DiF K H kv kvs->Rep K H (.ref a) (.dict ((.bool true,.none)::kvs.map λx=>(.int x.1,.tuple (x.2.map PyData.int))))
 | dic {a:Addr} {kv:List (AD×Addr×V)} {kvs:List (AD×PyData)} {ds:List (PyData×PyData)}:H a=some (L2.dicO a kv)->KvF K H kv kvs->ds=dN6 kvs->Rep K H (.ref a) (.dict ds)
inductive Reps (K:Frag)(H:Hp):List V->AF->Prop
 | nil:Reps K H [] []
 | cons {v:V} {d:PyData} {vs:List V} {ds:AF}:Rep K H v d->Reps K H vs ds->Reps K H (v::vs) (d::ds)
end
section
theorem _root_.L2.Same.rf (H:Hp):Same H H:=λ_ _ e=>e
theorem _root_.L2.Same.tr {H1 H2 H3:Hp}(a:Same H1 H2)(b:Same H2 H3):Same H1 H3:=λx o e=>b x o (a x o e)
theorem l8 (h:Same H H')(r:Rd H a u):Rd H' a u:=by
 rcases r with e | ⟨o,e⟩
 .exact .inl (h _ _ e)
 .exact .inr ⟨o,h _ _ e⟩
theorem F6 (h:Same H H'){a:Addr}{xs:List V}(r:SqT K H a xs):SqT K H' a xs:=r.imp (l8 h) id
theorem P1 (h:Same H H')(r:SqL K H a xs):SqL K H' a xs:=r.imp (l8 h) id
theorem cO8 (h:Same H H'):∀{d:PyData},dF2 K H v d->dF2 K H' v d
 | .none,r | .bool _,r | .int _,r | .str _,r=>r
 | .tuple _,⟨a,l,e,y,s⟩=>⟨a,l,e,y,F6 h s⟩
 | .list _,r | .dict _,r=>r
theorem bY9 (h:Same H H')(r:KvF K H kv kvs):KvF K H' kv kvs:=by
 unfold KvF at *;induction r with
 | nil=>exact .nil
 | cons a _ e=>exact .cons ⟨a.1,F6 h a.2.1,cO8 h a.2.2⟩ e
theorem cT2 (h:Same H H')(r:DiF K H kv kvs):DiF K H' kv kvs:=by
 unfold DiF at *;induction r with
 | nil=>exact .nil
 | cons a _ e=>exact .cons ⟨a.1,F6 h a.2⟩ e
theorem cP3 (h:Same H H'):∀{d:PyData},bW6 K H v d->bW6 K H' v d
 | .none,r | .bool _,r | .int _,r | .str _,r | .list _,r | .dict _,r=>r
 | .tuple _,⟨a,xs,e,s,y⟩=>⟨a,xs,e,F6 h s,y⟩
theorem o7 (h:Same H H')(r:FdF K H vs fs):FdF K H' vs fs:=by
 unfold FdF at *;induction r with
 | nil=>exact .nil
 | cons a _ e=>exact .cons ⟨a.1,cP3 h a.2⟩ e
theorem bW9 (h:Same H H'):∀{d:AK},XdA H vs d->XdA H' vs d
 | none,r=>r
 | some _,r=>h _ _ r
mutual
theorem bS7 (h:Same H H'):∀(d:PyData) {v:V},Rep K H v d->Rep K H' v d
 | .none,_,r=>by cases r;exact .non
 | .bool _,_,r=>by cases r;exact .bl _
 | .int _,_,r=>by cases r;exact .int _
 | .str _,_,r=>by cases r;exact .str _
 | .tuple ds,_,r=>by cases r with | tup s rs=>exact .tup (F6 h s) (aF4 h ds rs)
 | .list ds,_,r=>by cases r with | lst s rs=>exact .lst (P1 h s) (aF4 h ds rs)
 | .dict _,_,r=>by cases r with | exc e=>exact .exc (h _ _ e) | ptr=>exact .ptr | adr=>exact .adr | exd e x r=>exact .exd (h _ _ e) (bW9 h x) (o7 h r) | ins e=>exact .ins (h _ _ e) | dki e r=>exact .dki (h _ _ e) (cT2 h r) | dic e r z=>exact .dic (h _ _ e) (bY9 h r) z
theorem aF4 (h:Same H H'):∀(ds:AF) {vs:List V},Reps K H vs ds->Reps K H' vs ds
 | [],_,r=>by cases r;exact .nil
 | d::ds,_,r=>by cases r with | cons a b=>exact .cons (bS7 h d a) (aF4 h ds b)
end
theorem Rep.mono (r:Rep K H v d)(h:Same H H'):Rep K H' v d:=bS7 h d r
theorem Reps.mono (r:Reps K H vs ds)(h:Same H H'):Reps K H' vs ds:=aF4 h ds r
mutual
def imm:PyData->Bool
 | .none | .bool _ | .int _ | .str _=>true
 | .tuple ds=>M9 ds
 | .list _ | .dict _=>false
def M9:AF->Bool
 | []=>true
 | d::ds=>imm d&&M9 ds
end
mutual
theorem cH5 (h:∀a xs,Rd H a (.tup xs)->Rd H' a (.tup xs)):∀(d:PyData) {v:V},imm d=true->Rep K H v d->Rep K H' v d
 | .none,_,_,r=>by cases r;exact .non
 | .bool _,_,_,r=>by cases r;exact .bl _
 | .int _,_,_,r=>by cases r;exact .int _
 | .str _,_,_,r=>by cases r;exact .str _
 | .tuple ds,_,i,r=>by
  cases r with
  | tup s rs=>exact .tup (s.imp (h _ _) id) (bA6 h ds (by simpa[imm]using i) rs)
 | .list ds,_,i,r=>by simp[imm]at i
 | .dict _,_,i,r=>by simp[imm]at i
theorem bA6 (h:∀a xs,Rd H a (.tup xs)->Rd H' a (.tup xs)):∀(ds:AF) {vs:List V},M9 ds=true->Reps K H vs ds->Reps K H' vs ds
 | [],_,_,r=>by cases r;exact .nil
 | d::ds,_,i,r=>by
  have e:imm d=true/\M9 ds=true:=by simpa[M9]using i
  cases r with | cons a b=>exact .cons (cH5 h d e.1 a) (bA6 h ds e.2 b)
end
theorem Reps.length:∀{vs:List V} {ds:AF},Reps K H vs ds->vs.length=ds.length
 | _,[],r=>by cases r;rfl
 | _,d::ds,r=>by cases r with | cons a b=>simp[Reps.length b]
theorem Reps.get:∀{vs:List V} {ds:AF} {i:Nat} {v:V},Reps K H vs ds->vs[i]? = some v->∃d,ds[i]? = some d/\Rep K H v d
 | _,[],_,_,r,e=>by cases r;simp at e
 | _,d::ds,0,v,r,e=>by
  cases r with | cons a b=>simp at e;subst e;exact⟨d,rfl,a⟩
 | _,d::ds,i+1,v,r,e=>by
  cases r with
  | cons a b=>
   obtain⟨d',h1,h2⟩:=Reps.get (i:=i) (v:=v) b (by simpa using e)
   exact⟨d',by simpa using h1,h2⟩
theorem Reps.get':∀{vs:List V} {ds:AF} {i:Nat} {d:PyData},Reps K H vs ds->ds[i]? = some d->∃v,vs[i]? = some v/\Rep K H v d
 | _,[],_,_,r,e=>by simp at e
 | _,d::ds,0,v,r,e=>by
  cases r with | cons a b=>simp at e;subst e;exact⟨_,rfl,a⟩
 | _,d::ds,i+1,v,r,e=>by
  cases r with
  | cons a b=>
   obtain⟨d',h1,h2⟩:=Reps.get' (i:=i) b (by simpa using e)
   exact⟨d',by simpa using h1,h2⟩
theorem Reps.append:∀{vs us:List V} {ds es:AF},Reps K H vs ds->Reps K H us es->Reps K H (vs++us) (ds++es)
 | _,_,[],_,r,s=>by cases r;exact s
 | _,_,d::ds,_,r,s=>by cases r with | cons a b=>exact .cons a (Reps.append b s)
theorem Reps.drop:∀{vs:List V} {ds:AF} (n:Nat),Reps K H vs ds->Reps K H (vs.drop n) (ds.drop n)
 | _,_,0,r=>r
 | _,[],n+1,r=>by cases r;exact .nil
 | _,d::ds,n+1,r=>by cases r with | cons a b=>exact Reps.drop n b
theorem Reps.take:∀{vs:List V} {ds:AF} (n:Nat),Reps K H vs ds->Reps K H (vs.take n) (ds.take n)
 | _,_,0,r=>.nil
 | _,[],n+1,r=>by cases r;exact .nil
 | _,d::ds,n+1,r=>by cases r with | cons a b=>exact .cons a (Reps.take n b)
theorem Reps.set:∀{vs:List V} {ds:AF} (n:Nat) {v:V} {d:PyData},Reps K H vs ds->Rep K H v d->Reps K H (vs.set n v) (ds.set n d)
 | _,[],n,_,_,r,_=>by cases r;exact .nil
 | _,e::ds,0,_,_,r,s=>by cases r with | cons a b=>exact .cons s b
 | _,e::ds,n+1,_,_,r,s=>by cases r with | cons a b=>exact .cons a (Reps.set n b s)
theorem Reps.eraseIdx:∀{vs:List V} {ds:AF} (n:Nat),Reps K H vs ds->Reps K H (vs.eraseIdx n) (ds.eraseIdx n)
 | _,[],n,r=>by cases r;exact .nil
 | _,e::ds,0,r=>by cases r with | cons a b=>exact b
 | _,e::ds,n+1,r=>by cases r with | cons a b=>exact .cons a (Reps.eraseIdx n b)
theorem Reps.dropLast {vs:List V}{ds:AF}(r:Reps K H vs ds):Reps K H vs.dropLast ds.dropLast:=by
 rw[List.dropLast_eq_take,List.dropLast_eq_take,r.length];exact r.take _
theorem Reps.reverse:∀{vs:List V} {ds:AF},Reps K H vs ds->Reps K H vs.reverse ds.reverse
 | _,[],r=>by cases r;exact .nil
 | _,d::ds,r=>by
  cases r with
  | cons a b=>rw[List.reverse_cons,List.reverse_cons];exact(Reps.reverse b).append (.cons a .nil)
theorem aG2:∀(l:AD),Reps K H (l.map V.int) (l.map PyData.int)
 | []=>.nil
 | i::l=>.cons (.int i) (aG2 l)
theorem Reps.ints:∀{l:AD} {vs:List V},Reps K H vs (l.map PyData.int)->vs=l.map V.int
 | [],_,r=>by cases r;rfl
 | i::l,_,r=>by
  cases r with
  | cons a b=>cases a;rw[Reps.ints b];rfl
end
open Classical in
noncomputable def hid (S:Addr->Prop)(H:Hp):Hp:=λb=>if S b then none else H b
section
theorem hid_some:hid S H b=some o↔¬S b/\H b=some o:=by
 unfold hid;by_cases h:S b
 .rw[Ae h];exact⟨(λe=>nomatch e),λe=>absurd h e.1⟩
 .rw[Ac h];exact⟨λe=>⟨h,e⟩,λe=>e.2⟩
theorem T5:Same (hid S H) H:=λb o e=>(hid_some.mp e).2
theorem F4 (h:Same H H')(y:∀b,S' b->H b≠none->S b):Same (hid S H) (hid S' H'):=λb o e=>by
 obtain⟨a,c⟩:=hid_some.mp e;exact hid_some.mpr ⟨λz=>a (y b z (by rw[c];simp)),h b o c⟩
theorem N5 (h:Same H H'):Same (hid S H) (hid S H'):=F4 h λ_ z _=>z
theorem z7 (y:∀b,S b->∃u:HM,H b=some u.ho)(r:Rd H a (.tup xs)):Rd (hid S H) a (.tup xs):=by
 have n:¬S a:=λz=>by
  obtain⟨w,e⟩:=y a z;rcases r with r | ⟨o,r⟩ <;> rw[e]at r <;> replace r:=Ab4 r
  .exact HM.nt r
  .exact HM.nf r
 rcases r with r | ⟨o,r⟩
 .exact .inl (hid_some.mpr ⟨n,r⟩)
 .exact .inr ⟨o,hid_some.mpr ⟨n,r⟩⟩
end
inductive OT where
 | leaf (d:PyData) | tup (ts:List OT) | lst (ts:List OT) | dic (kvs:List (AD×PyData))
mutual
def OT.data:OT->PyData
 | .leaf d=>d
 | .tup ts=>.tuple (OT.datas ts)
 | .lst ts=>.list (OT.datas ts)
 | .dic kvs=>dD kvs
def OT.datas:List OT->AF
 | []=>[]
 | t::ts=>t.data::OT.datas ts
end
mutual
/-- v is the tree t;L: its lists -/
inductive Dp (K:Frag)(Z H:Hp):V->OT->AL->Prop
 | leaf {v:V} {d:PyData}:Rep K Z v d->Dp K Z H v (.leaf d) []
 | tup {a:Addr} {xs:List V} {ts:List OT} {L:AL}:SqT K H a xs->Dps K Z H xs ts L->Dp K Z H (.ref a) (.tup ts) L
 | lst {a:Addr} {xs:List V} {ts:List OT} {L:AL}:H a=some (.lst xs)->Dps K Z H xs ts L->Dp K Z H (.ref a) (.lst ts) (a::L)
 | dic {a:Addr} {kv:List (AD×Addr×V)} {kvs:List (AD×PyData)}:H a=some (L2.dicO a kv)->kv.map (·.1)=kvs.map (·.1)->Reps K Z (kv.map λx=>V.ref x.2.1) (kvs.map λx=>PyData.tuple (x.1.map PyData.int))->Reps K Z (kv.map (·.2.2)) (kvs.map (·.2))->Dp K Z H (.ref a) (.dic kvs) [a]
inductive Dps (K:Frag)(Z H:Hp):List V->List OT->AL->Prop
 | nil:Dps K Z H [] [] []
 | cons {v:V} {t:OT} {vs:List V} {ts:List OT} {L L':AL}:Dp K Z H v t L->Dps K Z H vs ts L'->Dps K Z H (v::vs) (t::ts) (L++L')
end
section
mutual
/-- only its lists and what is below count -/
theorem aF7 (y:Same Z Z')(w:∀a xs,Rd H a (.tup xs)->Rd H' a (.tup xs)):∀(t:OT) {v:V} {L:AL},(∀b∈L,H' b=H b)->Dp K Z H v t L->Dp K Z' H' v t L
 | .leaf d,_,_,_,r=>by cases r with | leaf r=>exact .leaf (r.mono y)
 | .tup ts,_,_,e,r=>by cases r with | tup s r=>exact .tup (s.imp (w _ _) id) (t4 y w ts e r)
 | .lst ts,_,_,e,r=>by
  cases r with
  | lst s r=>exact .lst (by rw[e _ (by simp)];exact s) (t4 y w ts (λb h=>e b (by simp[h])) r)
 | .dic kvs,_,_,e,r=>by
  cases r with
  | dic s k z j=>exact .dic (by rw[e _ (by simp)];exact s) k (z.mono y) (j.mono y)
theorem t4 (y:Same Z Z')(e:∀a xs,Rd H a (.tup xs)->Rd H' a (.tup xs)):∀(ts:List OT) {vs:List V} {L:AL},(∀b∈L,H' b=H b)->Dps K Z H vs ts L->Dps K Z' H' vs ts L
 | [],_,_,_,r=>by cases r;exact .nil
 | t::ts,_,_,hl,r=>by
  cases r with
  | cons a b=>exact .cons (aF7 y e t (λb h=>hl b (by simp[h])) a) (t4 y e ts (λb h=>hl b (by simp[h])) b)
end
mutual
theorem aC4:∀(t:OT) {v:V} {L:AL},Dp K Z H v t L->∀b∈L,∃u:HM,H b=some u.ho
 | .leaf d,_,_,r=>by cases r with | leaf r=>intro b h;simp at h
 | .tup ts,_,_,r=>by cases r with | tup s r=>exact p8 ts r
 | .lst ts,_,_,r=>by
  cases r with
  | lst s r=>
   intro b h;rcases Aa1.mp h with rfl | h
   .exact⟨.l _,s⟩
   .exact p8 ts r b h
 | .dic kvs,_,_,r=>by
  cases r with
  | dic s k e y=>
   intro b h;rw[Ad8.mp h];exact⟨.x _ _,s⟩
theorem p8:∀(ts:List OT) {vs:List V} {L:AL},Dps K Z H vs ts L->∀b∈L,∃u:HM,H b=some u.ho
 | [],_,_,r=>by cases r;intro b h;simp at h
 | t::ts,_,_,r=>by
  cases r with
  | cons a b=>
   intro c h;rcases Aa0.mp h with h | h
   .exact aC4 t a c h
   .exact p8 ts b c h
end
theorem bV7:∀{d:PyData},cG2 d=true->Rep K H v d->dF2 K H v d
 | .none,_,r=>by cases r;rfl
 | .bool _,_,r=>by cases r;rfl
 | .int _,_,r=>by cases r;rfl
 | .str _,_,r=>by cases r;rfl
 | .list _,f,_=>by cases f
 | .dict _,f,_=>by cases f
 | .tuple ds,f,r=>by
  cases r with
  | @tup a xs _ s rs=>
   have w:∀(ds:AF) (xs:List V),(ds.all λd=>match d with | .int _=>true | _=>false)=true->Reps K H xs ds->∃l:AD,ds=l.map PyData.int/\xs=l.map V.int:=λds=>by
    induction ds with
    | nil=>intro xs _ r;cases r;exact⟨[],rfl,rfl⟩
    | cons d ds z=>
     intro xs f r;rw[List.all_cons,Bu]at f;cases r with
     | cons a b=>
      obtain⟨l,e,y⟩:=z _ f.2 b;cases d with
      | int i=>cases a;exact⟨i::l,by rw[e];rfl,by rw[y];rfl⟩
      | _=>cases f.1
   obtain⟨l,e,y⟩:=w ds xs f rs;exact⟨a,l,rfl,e,by rw[<- y];exact s⟩
theorem dG6 {H:Hp}:∀{kv:List (AD×Addr×V)} {kvs:List (AD×PyData)},kvs.all (λx=>cG2 x.2)=true->kv.map (·.1)=kvs.map (·.1)->Reps K H (kv.map λx=>V.ref x.2.1) (kvs.map λx=>PyData.tuple (x.1.map PyData.int))->Reps K H (kv.map (·.2.2)) (kvs.map (·.2))->KvF K H kv kvs
 | [],[],_,_,_,_=>.nil
 | [],_::_,_,e,_,_=>by simp at e
 | _::_,[],_,e,_,_=>by simp at e
 | x::kv,y::kvs,f,e,r1,r2=>by
  simp only[Ac7,Cc]at e r1 r2;rw[List.all_cons,Bu]at f;cases r1 with
  | cons w j=>
   cases r2 with
   | cons k s=>
    refine .cons ⟨e.1,?_,bV7 f.1 k⟩ (dG6 f.2 e.2 j s);have z:dF2 K H (.ref x.2.1) (PyData.tuple (y.1.map PyData.int)):=bV7 (by simp[cG2,List.all_map,Function.comp_def]) w
    obtain⟨a,l,h1,m,Y⟩:=z;cases h1
    have:y.1=l:=by
     have inj:∀(u v:AD),u.map PyData.int=v.map PyData.int->u=v:=λu=>by
      induction u with
      | nil=>intro v h;cases v <;> simp at h ⊢
      | cons c u X=>intro v h;cases v with
       | nil=>simp at h
       | cons U v=>simp at h;rw[h.1,X v h.2]
     exact inj _ _ m
    rw[e.1,this];exact Y
mutual
/-- the tree is a datum,where one sees its lists -/
theorem cD4 (z:Same Z H)(w:∀a xs,Rd H a (.tup xs)->Rd H' a (.tup xs))(e:Same Z H'):∀(t:OT) {v:V} {L:AL},(∀b∈L,H' b=H b)->Dp K Z H v t L->Rep K H' v t.data
 | .leaf d,_,_,_,r=>by cases r with | leaf r=>exact r.mono e
 | .tup ts,_,_,y,r=>by
  cases r with
  | tup s r=>exact .tup (s.imp (w _ _) id) (bL9 z w e ts y r)
 | .lst ts,_,_,y,r=>by
  cases r with
  | lst s r=>exact .lst (SqL.of (by rw[y _ (by simp)];exact s)) (bL9 z w e ts (λb h=>y b (by simp[h])) r)
 | .dic kvs,_,_,y,r=>by
  cases r with
  | dic s k j c=>
   show Rep K H' _ (dD kvs)
   unfold dD;split
   .rename_i f;exact .dic (by rw[y _ (by simp)];exact s) (bY9 e (dG6 f k j c)) rfl
   .exact .ptr
theorem bL9 (w:Same Z H)(y:∀a xs,Rd H a (.tup xs)->Rd H' a (.tup xs))(e:Same Z H'):∀(ts:List OT) {vs:List V} {L:AL},(∀b∈L,H' b=H b)->Dps K Z H vs ts L->Reps K H' vs (OT.datas ts)
 | [],_,_,_,r=>by cases r;exact .nil
 | t::ts,_,_,hl,r=>by
  cases r with
  | cons a b=>exact .cons (cD4 w y e t (λb h=>hl b (by simp[h])) a) (bL9 w y e ts (λb h=>hl b (by simp[h])) b)
end
theorem Dp.mono (r:Dp K Z H v t L)(w:Same Z Z')(h:Same H H'):Dp K Z' H' v t L:=
 aF7 w (λ_ _=>l8 h) t (λb y=>by obtain⟨xs,e⟩:=aC4 t r b y;rw[e];exact h _ _ e) r
end
inductive Sl where
 | no | val (d:PyData) | own (ds:AF) | bor (d:PyData) | tr (t:OT)
def Sl.os:Sl->Bool
 | .own _=>true
 | .tr _=>true
 | _=>false
def D6 (ρ:List Sl)(o:Nat->AL)(S:Addr->Prop)(b:Addr):Prop:=S b\/∃(i:Nat) (x:Sl),ρ[i]? = some x/\x.os=true/\b∈o i
structure Env (K:Frag)(S:Addr->Prop)(B H:Hp)(σ:St)(ρ:List Sl)(o:Nat->AL):Prop where
 len:σ.length=ρ.length
 base:Same B H
 sl:∀b,S b->∃u:HM,B b=some u.ho
 new:∀(i:Nat) (x:Sl),ρ[i]? = some x->x.os=true->∀b∈o i,B b=none
 inj:∀(i j:Nat) (x y:Sl),ρ[i]? = some x->ρ[j]? = some y->x.os=true->y.os=true->∀b,b∈o i->b∈o j->i=j
 own:∀(i:Nat) (ds:AF),ρ[i]? = some (.own ds)->∃p,o i=[p]/\σ[i]? = some (some (.ref p))/\∃xs,H p=some (.lst xs)/\Reps K (hid (D6 ρ o S) H) xs ds
 val:∀(i:Nat) (d:PyData),ρ[i]? = some (.val d)->∃v,σ[i]? = some (some v)/\Rep K (hid (D6 ρ o S) H) v d
 bor:∀(i:Nat) (d:PyData),ρ[i]? = some (.bor d)->∃v,σ[i]? = some (some v)/\Rep K H v d
 tr:∀(i:Nat) (t:OT),ρ[i]? = some (.tr t)->(o i).Nodup/\∃v,σ[i]? = some (some v)/\Dp K (hid (D6 ρ o S) H) H v t (o i)
section
theorem Env.grow (e:Env K S B H σ ρ o)(h:Same H H'):Env K S B H' σ ρ o:=
 ⟨e.len,L2.Same.tr e.base h,e.sl,e.new,e.inj,λi ds z=>by
  obtain⟨p,y,a,xs,b,c⟩:=e.own i ds z;exact⟨p,y,a,xs,h _ _ b,c.mono (N5 h)⟩,λi d z=>by
  obtain⟨v,a,b⟩:=e.val i d z;exact⟨v,a,b.mono (N5 h)⟩,λi d z=>by
  obtain⟨v,a,b⟩:=e.bor i d z;exact⟨v,a,b.mono h⟩,λi t z=>by
  obtain⟨n,v,a,b⟩:=e.tr i t z;exact⟨n,v,a,b.mono (N5 h) h⟩⟩
theorem Env.lists (e:Env K S B H σ ρ o):∀b,D6 ρ o S b->∃u:HM,H b=some u.ho:=λb z=>by
 rcases z with z | ⟨i,x,z,w,y⟩
 .obtain⟨xs,q⟩:=e.sl b z;exact⟨xs,e.base _ _ q⟩
 .cases x with
  | own ds=>
   obtain⟨p,k,_,xs,q,_⟩:=e.own i ds z;rw[k]at y;exact⟨.l xs,by rw[Ad8.mp y];exact q⟩
  | tr t=>
   obtain⟨_,v,_,q⟩:=e.tr i t z;exact aC4 t q b y
  | _=>cases w
theorem Env.imm (e:Env K S B H σ ρ o){v:V}{d:PyData}(i:imm d=true)(r:Rep K H v d):Rep K (hid (D6 ρ o S) H) v d:=
 cH5 (λ_ _ q=>z7 e.lists q) d i r
def cO4 (ρ:List Sl)(o:Nat->AL)(b:Addr):Prop:=∃(i:Nat) (x:Sl),ρ[i]? = some x/\x.os=true/\b∈o i
theorem Env.rebase (e:Env K S B H σ ρ o):Env K S (hid (cO4 ρ o) H) H σ ρ o/\Same B (hid (cO4 ρ o) H):=by
 have s:Same B (hid (cO4 ρ o) H):=λb x q=>
  hid_some.mpr ⟨(λ⟨i,y,z,j,w⟩=>by rw[e.new i y z j b w]at q;cases q),e.base b x q⟩
 refine⟨⟨e.len,T5,λb z=>?_,λi x z k b w=>?_,e.inj,e.own,e.val,e.bor,e.tr⟩,s⟩
 .obtain⟨xs,q⟩:=e.sl b z;exact⟨xs,s _ _ q⟩
 .unfold hid;exact Ae ⟨i,x,z,k,w⟩
end
noncomputable def vw (m:Bool)(S:Addr->Prop)(H:Hp):Hp:=match m with | true=>hid S H | false=>H
def E (K:Frag)(m:Bool)(t:TE)(ρ:List Sl)(d:PyData):Prop:=
 ∀(S:Addr->Prop) (B:Hp) (σ:St) (H:Hp) (o:Nat->AL),Env K S B H σ ρ o->∀Q:VK,(∀v H',Same H H'->Rep K (vw m (D6 ρ o S) H') v d->Q v H')->t σ H Q
def EF (K:Frag)(t:TE)(ρ:List Sl)(ds:AF):Prop:=
 ∀(S:Addr->Prop) (B:Hp) (σ:St) (H:Hp) (o:Nat->AL),Env K S B H σ ρ o->∀Q:VK,
  (∀p xs H',Same H H'->H p=none->H' p=some (.lst xs)->Reps K (hid (λb=>D6 ρ o S b\/b=p) H') xs ds->Q (.ref p) H')->t σ H Q
def T (K:Frag)(t:TT)(ρ:List Sl)(b:Bool):Prop:=
 ∀(S:Addr->Prop) (B:Hp) (σ:St) (H:Hp) (o:Nat->AL),Env K S B H σ ρ o->∀Q:Bool->Hp->Prop,(∀H',Same H H'->Q b H')->t σ H Q
def A (K:Frag)(m:Bool)(t:TA)(ρ:List Sl)(ds:AF):Prop:=
 ∀(S:Addr->Prop) (B:Hp) (σ:St) (H:Hp) (o:Nat->AL),Env K S B H σ ρ o->∀Q:List V->Hp->Prop,(∀vs H',Same H H'->Reps K (vw m (D6 ρ o S) H') vs ds->Q vs H')->t σ H Q
structure Wk (K:Frag)(Z:Hp)(J:It)(ds:AF):Prop where
 stop:∀i H,Same Z H->ds.length<=i->J.stop i H
 go:∀i H d,Same Z H->ds[i]? = some d->J.go i H
 yld:∀i H d x H',Same Z H->ds[i]? = some d->J.yld i H x H'->Same H H'/\∀S:Addr->Prop,(∀b,S b->Z b=none/\H b≠none)->Rep K (hid S H') x d
def I (K:Frag)(m:Bool)(wi:TI)(ρ:List Sl)(ds:AF):Prop:=
 ∀(S:Addr->Prop) (B:Hp) (σ:St) (H:Hp) (o:Nat->AL),Env K S B H σ ρ o->∀R:It->Hp->Prop,(∀J H',Same H H'->Wk K (vw m (D6 ρ o S) H') J ds->R J H')->wi σ H R
def G (K:Frag)(m:Bool)(g:TG)(d:PyData)(ρ ρ':List Sl):Prop:=(∀(o:Nat->AL) (S:Addr->Prop) (b:Addr),D6 ρ' o S b->D6 ρ o S b) /\
 ∀(S:Addr->Prop) (B:Hp) (σ:St) (H:Hp) (o:Nat->AL),Env K S B H σ ρ o->∀v,Rep K (vw m (D6 ρ o S) H) v d->∀Q:St->Hp->Prop,(∀σ',Env K S B H σ' ρ' o->Q σ' H)->g v σ H Q
def Gs (K:Frag)(m:Bool)(g:TGs)(ds:AF)(ρ ρ':List Sl):Prop:=(∀(o:Nat->AL) (S:Addr->Prop) (b:Addr),D6 ρ' o S b->D6 ρ o S b) /\
 ∀(S:Addr->Prop) (B:Hp) (σ:St) (H:Hp) (o:Nat->AL),Env K S B H σ ρ o->∀vs,Reps K (vw m (D6 ρ o S) H) vs ds->∀Q:St->Hp->Prop,(∀σ',Env K S B H σ' ρ' o->Q σ' H)->g vs σ H Q
structure AE where
 nx:List Sl->Prop
 rt:PyData->Prop:=λ_=>False
 rl:AF->Prop:=λ_=>False
 bk:List Sl->Prop:=λ_=>False
 ct:List Sl->Prop:=λ_=>False
structure Sat (K:Frag)(S:Addr->Prop)(B:Hp)(R:AE)(D:aZ5):Prop where
 nx:∀ρ' σ' H' o',Env K S B H' σ' ρ' o'->R.nx ρ'->D.nx σ' H'
 rt:∀v d H',Same B H'->Rep K (hid S H') v d->R.rt d->D.rt v H'
 rl:∀p xs ds H',Same B H'->B p=none->H' p=some (.lst xs)->Reps K (hid (λb=>S b\/b=p) H') xs ds->R.rl ds->D.rt (.ref p) H'
 bk:∀ρ' σ' H' o',Env K S B H' σ' ρ' o'->R.bk ρ'->D.bk σ' H'
 ct:∀ρ' σ' H' o',Env K S B H' σ' ρ' o'->R.ct ρ'->D.ct σ' H'
def W (K:Frag)(t:TS)(ρ:List Sl)(R:AE):Prop:=
 ∀(S:Addr->Prop) (B:Hp) (D:aZ5) (σ:St) (H:Hp) (o:Nat->AL),Env K S B H σ ρ o->Sat K S B R D->t D σ H
section
theorem aM4:Same (vw m S H) H:=by cases m;exact L2.Same.rf _;exact T5
theorem aW5 (h:Same H H'):Same (vw m S H) (vw m S H'):=by cases m;exact h;exact N5 h
theorem E.bor (h:E K true t ρ d):E K m t ρ d:=λS B σ H o I Q q=>h S B σ H o I Q λv e s r=>q v e s (by cases m;exact r.mono T5;exact r)
theorem E.imm (h:E K m t ρ d)(i:imm d=true:=by rfl):E K true t ρ d:=λS B σ H o I Q q=>h S B σ H o I Q λv e s r=>q v e s ((I.grow s).imm i (r.mono aM4))
theorem EF.e' (h:EF K t ρ ds):E K m t ρ (.list ds):=E.bor λS B σ H o I Q q=>h S B σ H o I Q λp xs w s n e r=>q _ _ s
 (.lst (SqL.of (hid_some.mpr ⟨(λz=>by obtain⟨k,y⟩:=I.lists p z;rw[n]at y;cases y),e⟩)) (r.mono (F4 (L2.Same.rf _) λb z _=>.inl z)))
theorem B0 (h:ρ[i]? = some (.val d)):E K m (F0 i) ρ d:=E.bor λS B σ H o I Q q=>by
 obtain⟨v,a,b⟩:=I.val i d h;exact⟨v,a,q v H (L2.Same.rf _) b⟩
theorem J8 (h:ρ[i]? = some (.own ds)):E K false (F0 i) ρ (.list ds):=λS B σ H o I Q q=>by
 obtain⟨p,e,a,xs,b,c⟩:=I.own i ds h;exact⟨_,a,q _ H (L2.Same.rf _) (.lst (SqL.of b) (c.mono T5))⟩
theorem bI9 (h:ρ[i]? = some (.bor d)):E K false (F0 i) ρ d:=λS B σ H o I Q q=>by
 obtain⟨v,a,b⟩:=I.bor i d h;exact⟨v,a,q v H (L2.Same.rf _) b⟩
theorem aU2 (h:∀H,Rep K H v d):E K m (tC v) ρ d:=λS B σ H o I Q q=>q v H (L2.Same.rf _) (h _)
theorem A7:E K m (tC (.int i)) ρ (.int i):=aU2 λ_=>.int i
theorem bT3:E K m (tC (.bl b)) ρ (.bool b):=aU2 λ_=>.bl b
theorem bW0:E K m (tC .non) ρ .none:=aU2 λ_=>.non
theorem l3:E K m (tC (.str x)) ρ (.str x):=aU2 λ_=>.str x
theorem bC6 (z k:Bool)(Y:E K z ta ρ d)(X:E K k tb ρ d')
  (U:∀(S:Addr->Prop) (H:Hp) (x y:V) (Q:VK),(∀b,S b->∃u:HM,H b=some u.ho)->Rep K (vw z S H) x d->Rep K (vw k S H) y d'->(∀v H',Same H H'->Rep K (vw m S H') v f->Q v H')->r x y H Q):E K m (tOp r ta tb) ρ f:=
 λS B σ H o I Q q=>Y S B σ H o I _ λx j e J=>X S B σ j o (I.grow e) _ λy c w M=>
  U (D6 ρ o S) c x y Q ((I.grow e).grow w).lists (J.mono (aW5 w)) M λv H' s r=>q v H' (L2.Same.tr e (L2.Same.tr w s)) r
theorem bS8 (e:E K false ta ρ (.int i))(w:E K false tb ρ (.int j))(z:∀(H:Hp) (Q:VK),(∀v,(∀H,Rep K H v f)->Q v H)->r (.int i) (.int j) H Q):E K m (tOp r ta tb) ρ f:=
 bC6 false false e w λS H x y Q _ k c q=>by
  cases k;cases c
  exact z H Q λv r=>q v H (L2.Same.rf _) (r _)
theorem P3 {g:Int->Int->Int}{i j:Int}(e:E K false ta ρ (.int i))(y:E K false tb ρ (.int j)):E K m (tOp (rI0 λi j=>.int (g i j)) ta tb) ρ (.int (g i j)):=
 bS8 e y λH Q q=>⟨i,j,rfl,rfl,q _ λ_=>.int _⟩
theorem e_i {C:Int->Int->Prop}{g:Int->Int->Int}{i j:Int}(e:E K false ta ρ (.int i))(y:E K false tb ρ (.int j))(w:C i j):E K m (tOp (rI C λi j=>.int (g i j)) ta tb) ρ (.int (g i j)):=
 bS8 e y λH Q q=>⟨i,j,rfl,rfl,w,q _ λ_=>.int _⟩
theorem aD3 {g:Int->Int->Bool}{i j:Int}(e:E K false ta ρ (.int i))(y:E K false tb ρ (.int j)):E K m (tOp (rI0 λi j=>.bl (g i j)) ta tb) ρ (.bool (g i j)):=
 bS8 e y λH Q q=>⟨i,j,rfl,rfl,q _ λ_=>.bl _⟩
end
end LV
namespace LV
open PySem L2
section
theorem cZ0 (r:Reps K H xs ds)(e:atI ds i=some d):∃v,atI xs i=some v/\Rep K H v d:=by
 unfold atI at e ⊢;rw[r.length];cases h:ixN ds.length i with
 | none=>rw[h]at e;cases e
 | some j=>rw[h]at e;exact r.get' (by simpa using e)
def sq:PyData->Option (AF)
 | .list ds=>some ds
 | .tuple ds=>some ds
 | _=>none
theorem G0 (z:E K m ta ρ d)(k:E K false tb ρ (.int i))(w:sq d=some ds)(h:atI ds i=some d'):E K m (tOp (rIx K) ta tb) ρ d':=
 bC6 m false z k λS H x y Q _ j c q=>by
  cases c;cases j with
  | lst s r=>
   cases w
   obtain⟨v,h1,e⟩:=cZ0 r h;exact .inl ⟨_,_,i,v,rfl,rfl,P1 aM4 s,h1,q v H (L2.Same.rf _) e⟩
  | tup s r=>
   cases w
   obtain⟨v,h1,e⟩:=cZ0 r h;exact .inr (.inl ⟨_,_,i,v,rfl,rfl,F6 aM4 s,h1,q v H (L2.Same.rf _) e⟩)
  | _=>cases w
theorem S1 {α:Type}{xs:List α}{i:Int}{v:α}(n:Nat)(e:i=n)(h:xs[n]? = some v):atI xs i=some v:=by
 subst e;unfold atI ixN
 have:=(Ab0.mp h).1
 rw[Ae (by lia),Ae (by lia)]
 simpa using h
theorem aK9 {α:Type}{xs:List α}{v:α}:atI (xs++[v]) (-1)=some v:=by
 unfold atI ixN;rw[Ac (by lia),Ae (by simp;lia)]
 have:((-1:Int)+((xs++[v]).length:Nat)).toNat=xs.length:=by simp;lia
 rw[this];simp
theorem A5:A K m W2 ρ []:=λS B σ H o I Q q=>q [] H (L2.Same.rf _) .nil
theorem A2 (k:E K m ta ρ d)(j:A K m tr ρ ds):A K m (J9 ta tr) ρ (d::ds):=λS B σ H o I Q q=>
 k S B σ H o I _ λx w e c=>j S B σ w o (I.grow e) _ λxs z y rs=>q _ z (L2.Same.tr e y) (.cons (c.mono (aW5 y)) rs)
theorem D4 (h:H p=none):Same H (upd H p o):=λb x e=>by
 have:b≠p:=λz=>by rw[z,h]at e;cases e
 rw[B4 this];exact e
theorem N2 {t:TA}(h:A K m t ρ ds)(w:ds.length<=sizeLine:=by first | decide | (unfold sizeLine;simp)):E K m (cB1 t) ρ (.tuple ds):=λS B σ H o I Q q=>h S B σ H o I _ λxs k e rs=>⟨by rw[rs.length];exact w,λp hp=>by
 have g:=D4 (o:=.tup xs) hp
 refine q _ _ (L2.Same.tr e g) (.tup (.inl (.inl ?_)) (rs.mono (aW5 g)));cases m with
 | false=>exact B6
 | true=>exact hid_some.mpr ⟨(λz=>by obtain⟨j,y⟩:=(I.grow e).lists p z;rw[hp]at y;cases y),B6⟩⟩
theorem bK9 (y:∀b,S b->∃u:HM,H b=some u.ho)(hp:H p=none)(r:Reps K (hid S H) xs ds):Reps K (hid (λb=>S b\/b=p) (upd H p (.lst ys))) xs ds:=
 r.mono (F4 (D4 hp) λb z n=>z.elim id λe=>absurd (by rw[e];exact hp) n)
theorem K5 {t:TA}(h:A K true t ρ ds)(w:ds.length<=sizeLine:=by first | decide | (unfold sizeLine;simp)):EF K (eB9 t) ρ ds:=λS B σ H o I Q q=>h S B σ H o I _ λxs z y rs=>⟨by rw[rs.length];exact w,λp hp=>
 q p xs _ (L2.Same.tr y (D4 hp)) (by cases e:H p with | none=>rfl | some x=>rw[y _ _ e]at hp;cases hp) B6 (bK9 (I.grow y).lists hp rs)⟩
def spV (K:Frag)(pre:AF->PyData->Prop):Sp:=λvs H Q _=>∃(ds:AF) (S:Addr->Prop) (d:PyData),(∀b,S b->∃u:HM,H b=some u.ho)/\Reps K (hid S H) vs ds/\pre ds d /\
 ∀v H',Same H H'->Rep K (hid S H') v d->Q v H'
def spL (K:Frag)(pre:AF->AF->Prop):Sp:=λvs H Q _=>∃(ds:AF) (S:Addr->Prop) (es:AF),(∀b,S b->∃u:HM,H b=some u.ho)/\Reps K (hid S H) vs ds/\pre ds es /\
 ∀p xs H',Same H H'->H p=none->H' p=some (.lst xs)->Reps K (hid (λb=>S b\/b=p) H') xs es->Q (.ref p) H'
theorem cV8:hid (λ_=>False) H=H:=by funext b;unfold hid;exact Ac id
theorem G1 {pre:AF->PyData->Prop}{t:TA}{X:XK}(w:A K true t ρ ds)(hp:pre ds d):E K m (aO9 (spV K pre) [] X t) ρ d:=E.bor λS B σ H o I Q q=>
 w S B σ H o I _ λvs z e rs=>⟨ds,D6 ρ o S,d,(I.grow e).lists,by rw[Bm];exact rs,hp,λv y s r=>q v y (L2.Same.tr e s) r⟩
theorem S8 (s:Same H H1)(h:H1 p=none):H p=none:=by
 cases e:H p with
 | none=>rfl
 | some x=>rw[s _ _ e]at h;cases h
theorem w9 {pre:AF->AF->Prop}{t:TA}{X:XK}(z:A K true t ρ ds)(hp:pre ds es):EF K (aO9 (spL K pre) [] X t) ρ es:=λS B σ H o I Q q=>
 z S B σ H o I _ λvs k y rs=>⟨ds,D6 ρ o S,es,(I.grow y).lists,by rw[Bm];exact rs,hp,λp xs w s n e r=>q p xs w (L2.Same.tr y s) (S8 y n) e r⟩
theorem C4 (h:E K false t ρ (.bool b)):T K (dR1 t) ρ b:=λS B σ H o I Q q=>h S B σ H o I _ λv e s r=>by cases r;exact⟨b,rfl,q e s⟩
theorem t_b (h:E K false t ρ (.bool b)):T K (tB t) ρ b:=λS B σ H o I Q q=>h S B σ H o I _ λv e s r=>by cases r;exact⟨b,rfl,q e s⟩
theorem aT3 (h:T K u ρ a)(h':a=true->T K w ρ b):T K (eG1 u w) ρ (a&&b):=λS B σ H o I Q q=>h S B σ H o I _ λy e=>by
 cases a with
 | false=>exact q y e
 | true=>exact h' rfl S B σ y o (I.grow e) _ λz k=>q z (L2.Same.tr e k)
theorem bQ5 (h:T K u ρ a)(h':a=false->T K w ρ b):T K (tOr u w) ρ (a||b):=λS B σ H o I Q q=>h S B σ H o I _ λy e=>by
 cases a with
 | true=>exact q y e
 | false=>exact h' rfl S B σ y o (I.grow e) _ λz k=>q z (L2.Same.tr e k)
theorem aD8 (h:T K u ρ a):T K (eD8 u) ρ (!a):=λS B σ H o I Q q=>h S B σ H o I _ q
theorem cK7 (h:E K false ta ρ (.bool a))(h':a=true->E K false tb ρ (.bool b)):E K m (dQ2 ta tb) ρ (.bool (a&&b)):=E.bor (E.imm (m:=false) λS B σ H o I Q q=>h S B σ H o I _ λv y e r=>by
 cases r
 refine⟨a,rfl,?_⟩;cases a with
 | false=>exact q _ y e (.bl _)
 | true=>exact h' rfl S B σ y o (I.grow e) _ λv w z r=>q v w (L2.Same.tr e z) r)
theorem dI6 (h:E K false ta ρ (.bool a))(h':a=false->E K false tb ρ (.bool b)):E K m (eK4 ta tb) ρ (.bool (a||b)):=E.bor (E.imm (m:=false) λS B σ H o I Q q=>h S B σ H o I _ λv y e r=>by
 cases r
 refine⟨a,rfl,?_⟩;cases a with
 | true=>exact q _ y e (.bl _)
 | false=>exact h' rfl S B σ y o (I.grow e) _ λv w z r=>q v w (L2.Same.tr e z) r)
theorem dS7 (h:E K false ta ρ (.bool a)):E K m (dQ1 ta) ρ (.bool (!a)):=E.bor (E.imm (m:=false) λS B σ H o I Q q=>h S B σ H o I _ λv e y r=>by
 cases r
 exact⟨a,rfl,q _ e y (.bl _)⟩)
theorem eG0 (h:T K u ρ a)(h1:a=true->E K m ta ρ d)(k:a=false->E K m tb ρ d):E K m (tIf u ta tb) ρ d:=λS B σ H o I Q q=>h S B σ H o I _ λz e=>by
 cases a with
 | true=>exact h1 rfl S B σ z o (I.grow e) _ λv y w r=>q v y (L2.Same.tr e w) r
 | false=>exact k rfl S B σ z o (I.grow e) _ λv y w r=>q v y (L2.Same.tr e w) r
theorem dJ4 (s:SqL K Z a xs)(r:Reps K Z xs ds):Wk K Z (Itl K a) ds where
 stop:=λi H h l=>⟨xs,P1 h s,by rw[r.length];exact l⟩
 go:=λi H d h e=>by
  obtain⟨v,h1,_⟩:=r.get' e;exact⟨xs,v,P1 h s,h1⟩
 yld:=λi H d x j h e y=>by
  obtain⟨rfl,y⟩:=y
  have:=y xs (P1 h s)
  obtain⟨c,h1,w⟩:=r.get this;rw[e]at h1;cases h1;refine⟨L2.Same.rf _,λS k=>w.mono λb o q=>hid_some.mpr ⟨λz=>?_,h b o q⟩⟩
  rw[(k b z).1]at q;cases q
theorem dU8 (s:SqT K Z a xs)(r:Reps K Z xs ds):Wk K Z (Itt K a) ds where
 stop:=λi H h l=>⟨xs,F6 h s,by rw[r.length];exact l⟩
 go:=λi H d h e=>by
  obtain⟨v,h1,_⟩:=r.get' e;exact⟨xs,v,F6 h s,h1⟩
 yld:=λi H d x j h e y=>by
  obtain⟨rfl,y⟩:=y
  have:=y xs (F6 h s)
  obtain⟨c,h1,w⟩:=r.get this;rw[e]at h1;cases h1;refine⟨L2.Same.rf _,λS k=>w.mono λb o q=>hid_some.mpr ⟨λz=>?_,h b o q⟩⟩
  rw[(k b z).1]at q;cases q
def Y9 (lo:Int)(n:Nat):AF:=(List.range n).map λ(i:Nat)=>PyData.int (lo+(i:Int))
theorem dY0:Wk K Z (Itr lo n) (Y9 lo n) where
 stop:=λi H h l=>by
  have:n<=i:=by simpa[Y9]using l
  exact this
 go:=λi H d h e=>by
  have:=(Ab0.mp e).1
  have:i<n:=by simpa[Y9]using this
  exact this
 yld:=λi H d x z h e y=>by
  obtain⟨rfl,rfl⟩:=y
  have:d=.int (lo+i):=by
   have hi:=(Ab0.mp e).1
   have w:i<n:=by simpa[Y9]using hi
   unfold Y9 at e;rw[Aa9,List.getElem?_range w]at e;exact(Ab4 e).symm
  subst this;exact⟨L2.Same.rf _,λS k=>.int _⟩
theorem W5 (h:E K m t ρ (.list ds)):I K m (dQ6 K t) ρ ds:=λS B σ H o J R q=>h S B σ H o J _ λv e y r=>by
 cases r with
 | lst s r=>exact⟨_,rfl,⟨_,P1 aM4 s⟩,q _ e y (dJ4 s r)⟩
theorem aH9 (h:E K m t ρ (.tuple ds)):I K m (dL0 K t) ρ ds:=λS B σ H o J R q=>h S B σ H o J _ λv e y r=>by
 cases r with
 | tup s r=>exact⟨_,rfl,⟨_,F6 aM4 s⟩,q _ e y (dU8 s r)⟩
theorem N1 {t:TA}{j:Int}(h:A K false t ρ [.int j])(h1 : -(2^62)<=j)(y:j<2^62):I K m (dA9 t) ρ (Y9 0 j.toNat):=λS B σ H o J R q=>h S B σ H o J _ λvs e w r=>by
 cases r with
 | cons a b=>cases a;cases b;exact⟨j,rfl,h1,y,q _ e w dY0⟩
theorem aQ1 {o:Nat->AL}{S:Addr->Prop}{i:Nat}{x:Sl}(k:x.os=false){b:Addr}(z:D6 (ρ.set i x) o S b):D6 ρ o S b:=by
 rcases z with z | ⟨j,y,h,w,e⟩
 .exact .inl z
 .refine .inr ⟨j,y,?_,w,e⟩;rw[List.getElem?_set]at h;by_cases c:i=j
  .rw[Ae c]at h;split at h
   .rw[<- Ab4 h,k]at w;cases w
   .cases h
  .rw[Ac c]at h;exact h
def slot (m:Bool)(d:PyData):Sl:=match m with | true=>.val d | false=>.bor d
theorem Env.set {S:Addr->Prop}{B H:Hp}{σ:St}{o:Nat->AL}(I:Env K S B H σ ρ o)(i:Nat){v:V}(r:Rep K (vw m (D6 ρ o S) H) v d):Env K S B H (σ.set i (some v)) (ρ.set i (slot m d)) o:=by
 have U:(slot m d).os=false:=by cases m <;> rfl
 have nd:∀{x:Sl},x.os=true->x≠slot m d:=λ{x} h e=>by rw[e,U]at h;cases h
 have at_:∀{j:Nat} {x:Sl},x≠slot m d->(ρ.set i (slot m d))[j]? = some x->i≠j/\ρ[j]? = some x:=λ{j x} w h=>by
  rw[List.getElem?_set]at h;by_cases c:i=j
  .rw[Ae c]at h;split at h
   .exact absurd (Ab4 h).symm w
   .cases h
  .rw[Ac c]at h;exact⟨c,h⟩
 have g:Same (hid (D6 ρ o S) H) (hid (D6 (ρ.set i (slot m d)) o S) H):=F4 (L2.Same.rf _) λb z _=>aQ1 U z
 refine⟨by simp[I.len],I.base,I.sl,λj x h w=>I.new j x (at_ (nd w) h).2 w,λj k x y h J w X=>I.inj j k x y (at_ (nd w) h).2 (at_ (nd X) J).2 w X,λj ds h=>?_,λj Y h=>?_,λj Y h=>?_,λj t h=>?_⟩
 .obtain⟨c,h⟩:=at_ (nd rfl) h;obtain⟨p,M,a,xs,b,N⟩:=I.own j ds h;exact⟨p,M,by rw[Ad0 c];exact a,xs,b,N.mono g⟩
 .by_cases c:i=j
  .subst c;have s:i<ρ.length:=by
    have:=(Ab0.mp h).1
    simpa using this
   rw[As (by simpa using s)]at h
   cases m with
   | false=>simp[slot]at h
   | true=>
    simp[slot]at h;subst h
    exact⟨v,As (by rw[I.len];exact s),r.mono g⟩
  .rw[Ad0 c]at h;obtain⟨u,a,b⟩:=I.val j Y h;exact⟨u,by rw[Ad0 c];exact a,b.mono g⟩
 .by_cases c:i=j
  .subst c;have s:i<ρ.length:=by
    have:=(Ab0.mp h).1
    simpa using this
   rw[As (by simpa using s)]at h
   cases m with
   | true=>simp[slot]at h
   | false=>
    simp[slot]at h;subst h
    exact⟨v,As (by rw[I.len];exact s),r⟩
  .rw[Ad0 c]at h;obtain⟨u,a,b⟩:=I.bor j Y h;exact⟨u,by rw[Ad0 c];exact a,b⟩
 .obtain⟨c,h⟩:=at_ (nd rfl) h;obtain⟨n,u,a,b⟩:=I.tr j t h;exact⟨n,u,by rw[Ad0 c];exact a,b.mono g (L2.Same.rf _)⟩
theorem dP3:(slot m d).os=false:=by cases m <;> rfl
theorem B9:G K m (Q3 i) d ρ (ρ.set i (slot m d)):=⟨λo S b z=>aQ1 dP3 z,λS B σ H o I v r Q q=>q _ (I.set i r)⟩
theorem aX9:Gs K m eG3 [] ρ ρ:=⟨λ_ _ _ z=>z,λS B σ H o I vs r Q q=>by cases r;exact⟨rfl,q σ I⟩⟩
theorem dX1 (h:∀(o:Nat->AL) (S:Addr->Prop) (b:Addr),D6 ρ' o S b->D6 ρ o S b):Same (vw m (D6 ρ o S) H) (vw m (D6 ρ' o S) H):=by
 cases m with
 | false=>exact L2.Same.rf _
 | true=>exact F4 (L2.Same.rf _) λb z _=>h o S b z
theorem X2 (h:G K m g d ρ ρ1)(h':Gs K m gs ds ρ1 ρ'):Gs K m (dQ8 g gs) (d::ds) ρ ρ':=⟨λo S b z=>h.1 o S b (h'.1 o S b z),λS B σ H o I vs r Q q=>by
 cases r with
 | cons a b=>exact⟨_,_,rfl,h.2 S B σ H o I _ a _ λy e=>h'.2 S B y H o e _ (b.mono (dX1 h.1)) _ q⟩⟩
theorem bT4 (h:Gs K m gs ds ρ ρ')(e:ds.length=n:=by rfl):G K m (eE7 K n gs) (.tuple ds) ρ ρ':=⟨h.1,λS B σ H o I v r Q q=>by
 cases r with
 | tup s r=>exact⟨_,_,rfl,F6 aM4 s,by rw[r.length];exact e,h.2 S B σ H o I _ r _ q⟩⟩
theorem A8 {t u:TS}{R:AE}(h:W K t ρ {R with nx:=λρ'=>W K u ρ' R}):W K (dT8 t u) ρ R:=λS B D σ H o I s=>
 h S B {D with nx:=u D} σ H o I ⟨λρ' k e z y w=>w S B D k e z y s,s.rt,s.rl,s.bk,s.ct⟩
theorem E2 {R:AE}(h:R.nx ρ):W K dS8 ρ R:=λS B D σ H o I s=>s.nx ρ σ H o I h
theorem dS4 {g:TG}{R:AE}(h:E K m t ρ d)(w:G K m g d ρ ρ')(z:R.nx ρ'):W K (aK1 t g) ρ R:=λS B D σ H o I s=>
 h S B σ H o I _ λv e k r=>w.2 S B σ e o (I.grow k) v r _ λj y=>s.nx _ j e o y z
theorem C9 {i:Nat}{R:AE}(h:E K true t ρ d)(e:R.nx (ρ.set i (.val d))):W K (aK1 t (Q3 i)) ρ R:=dS4 (ρ' := ρ.set i (.val d)) h B9 e
theorem E1 {R:AE}(h:E K true t ρ d)(y:R.rt d):W K (dE0 t) ρ R:=λS B D σ H o I s=>
 h S B σ H o I _ λv e w r=>s.rt v d e (L2.Same.tr I.base w) (r.mono (F4 (L2.Same.rf _) λb z _=>.inl z)) y
theorem bQ2 {R:AE}(h:EF K t ρ ds)(w:R.rl ds):W K (dE0 t) ρ R:=λS B D σ H o I s=>
 h S B σ H o I _ λp xs y k n e r=>s.rl p xs ds y (L2.Same.tr I.base k) (S8 I.base n) e (r.mono (F4 (L2.Same.rf _) λb z _=>z.imp .inl id)) w
theorem bZ3 {i:Nat}{R:AE}(h:ρ[i]? = some (.own ds))(y:R.rl ds):W K (dE0 (F0 i)) ρ R:=λS B D σ H o I s=>by
 obtain⟨p,hp,a,xs,b,c⟩:=I.own i ds h;exact⟨_,a,s.rl _ xs ds H I.base (I.new i _ h rfl _ (by rw[hp];simp)) b (c.mono (F4 (L2.Same.rf _) λb z _=>z.elim .inl λe=>.inr ⟨i,_,h,rfl,by rw[hp,e];simp⟩)) y⟩
theorem O8 {c:TT}{t u:TS}{b:Bool}{R:AE}(h:T K c ρ b)(h1:b=true->W K t ρ R)(w:b=false->W K u ρ R):W K (cW1 c t u) ρ R:=λS B D σ H o I s=>h S B σ H o I _ λe y=>by
 cases b with
 | true=>exact h1 rfl S B D σ e o (I.grow y) s
 | false=>exact w rfl S B D σ e o (I.grow y) s
theorem W.weak {t:TS}{R R':AE}(h:W K t ρ R)(h1:∀ρ,R.nx ρ->R'.nx ρ)(Y:∀d,R.rt d->R'.rt d)(X:∀d,R.rl d->R'.rl d)(U:∀ρ,R.bk ρ->R'.bk ρ)(J:∀ρ,R.ct ρ->R'.ct ρ):W K t ρ R':=λS B D σ H o I s=>
 h S B D σ H o I ⟨λj m y k z w=>s.nx j m y k z (h1 _ w),λv d y a b c=>s.rt v d y a b (Y _ c),λp xs ds y a b c e w=>s.rl p xs ds y a b c e (X _ w),λj m y k z w=>s.bk j m y k z (U _ w),λj m y k z w=>s.ct j m y k z (J _ w)⟩
def bN4 (o:Nat->AL)(i:Nat)(L:AL)(j:Nat):AL:=if j=i then L else o j
theorem W0:bN4 o i L i=L:=Ae rfl
theorem V6 (h:i≠j):bN4 o i L j=o j:=Ac λz=>h z.symm
def Holds (K:Frag)(Z H:Hp)(v:V)(x:Sl)(L:AL):Prop:=
 (∃ds p xs,x=.own ds/\L=[p]/\v=.ref p/\H p=some (.lst xs)/\Reps K Z xs ds)\/∃t,x=.tr t/\L.Nodup/\Dp K Z H v t L
theorem Holds.os {Z H:Hp}{v:V}{x:Sl}{L:AL}(h:Holds K Z H v x L):x.os=true:=by
 rcases h with⟨ds,p,xs,rfl,_⟩ | ⟨t,rfl,_⟩ <;> rfl
def cN1 (ρ:List Sl)(o:Nat->AL)(i:Nat)(b:Addr):Prop:=∃y,ρ[i]? = some y/\y.os=true/\b∈o i
theorem Env.put {S:Addr->Prop}{B H H':Hp}{σ:St}{o:Nat->AL}{v:V}{x:Sl}{L:AL}(I:Env K S B H σ ρ o)(i:Nat)(hi:i<ρ.length)(D:Addr->Prop)(hD:∀b,D b->cN1 ρ o i b)
  (F:∀b y,H b=some y->¬D b->H' b=some y) (hL:∀b∈L,cN1 ρ o i b\/H b=none) (hx:Holds K (hid (λb=>D6 ρ o S b\/b∈L) H') H' v x L)
  (nb:(∀b,¬D b)\/∀(j:Nat) (d:PyData),ρ[j]?≠some (Sl.bor d)):Env K S B H' (σ.set i (some v)) (ρ.set i x) (bN4 o i L):=by
 have hos:=hx.os
 have at_:∀{j:Nat} {y:Sl},i≠j->(ρ.set i x)[j]? = some y->ρ[j]? = some y:=λ{j y} c h=>by rw[Ad0 c]at h;exact h
 have Y:(ρ.set i x)[i]? = some x:=As hi
 have Q:∀b,D6 (ρ.set i x) (bN4 o i L) S b->D6 ρ o S b\/b∈L:=λb z=>by
  rcases z with z | ⟨j,y,h,m,e'⟩
  .exact .inl (.inl z)
  .by_cases c:i=j
   .subst c;rw[W0]at e';exact .inr e'
   .rw[V6 c]at e';exact .inl (.inr ⟨j,y,at_ c h,m,e'⟩)
 have M:∀b,cN1 ρ o i b->D6 ρ o S b:=λb ⟨y,h1,X,U⟩=>.inr ⟨i,y,h1,X,U⟩
 have g:Same (hid (D6 ρ o S) H) (hid (D6 (ρ.set i x) (bN4 o i L) S) H'):=λb y q=>by
  obtain⟨a,q⟩:=hid_some.mp q;refine hid_some.mpr ⟨λz=>?_,F b y q λz=>a (M b (hD b z))⟩
  rcases Q b z with z | z
  .exact a z
  .rcases hL b z with z | z
   .exact a (M b z)
   .rw[z]at q;cases q
 have ht:∀a ys,Rd H a (.tup ys)->Rd H' a (.tup ys):=λa ys r=>by
  have n:¬D a:=λz=>by
   obtain⟨zs,e⟩:=I.lists a (M a (hD a z));rcases r with r | ⟨o,r⟩ <;> rw[e]at r <;> replace r:=Ab4 r
   .exact HM.nt r
   .exact HM.nf r
  rcases r with r | ⟨o,r⟩
  .exact .inl (F _ _ r n)
  .exact .inr ⟨o,F _ _ r n⟩
 have far:∀{j:Nat} {y:Sl},i≠j->ρ[j]? = some y->y.os=true->∀b∈o j,¬D b:=λ{j y} c h m b s z=>by
  obtain⟨w,h1,X,U⟩:=hD b z;exact c (I.inj i j w y h1 h X m b U s)
 have kept:∀{j:Nat} {y:Sl},i≠j->ρ[j]? = some y->y.os=true->∀b∈o j,H' b=H b:=λ{j y} c h m b s=>by
  obtain⟨zs,e⟩:=I.lists b (.inr ⟨j,y,h,m,s⟩);rw[e];exact F _ _ e (far c h m b s)
 have R:∀{j:Nat} {y:Sl},i≠j->ρ[j]? = some y->y.os=true->∀b∈o j,b∉L:=λ{j y} c h m b s z=>by
  rcases hL b z with⟨w,h1,X,U⟩ | z
  .exact c (I.inj i j w y h1 h X m b U s)
  .obtain⟨zs,e⟩:=I.lists b (.inr ⟨j,y,h,m,s⟩);rw[z]at e;cases e
 have P:Same B H':=λb y q=>F b y (I.base b y q) λz=>by
  obtain⟨w,h1,X,U⟩:=hD b z;rw[I.new i w h1 X b U]at q;cases q
 refine⟨by simp[I.len],P,I.sl,λj y h m b s=>?_,λj k y z h h' m hz b s J=>?_,λj es h=>?_,λj d' h=>?_,λj d' h=>?_,λj t h=>?_⟩
 .by_cases c:i=j
  .subst c;rw[W0]at s;rcases hL b s with⟨w,h1,X,U⟩ | z
   .exact I.new i w h1 X b U
   .exact S8 I.base z
  .rw[V6 c]at s;exact I.new j y (at_ c h) m b s
 .by_cases c:i=j
  .subst c;by_cases N:i=k
   .exact N
   .rw[W0]at s;rw[V6 N]at J;exact absurd s (R N (at_ N h') hz b J)
  .by_cases N:i=k
   .subst N;rw[W0]at J;rw[V6 c]at s;exact absurd J (R c (at_ c h) m b s)
   .rw[V6 c]at s;rw[V6 N]at J;exact I.inj j k y z (at_ c h) (at_ N h') m hz b s J
 .by_cases c:i=j
  .subst c;rw[Y]at h;cases h;rw[W0];rcases hx with⟨ds,p,xs,e,X,U,h4,h5⟩ | ⟨t,e,_⟩
   .cases e
    exact⟨p,X,by rw[As (by rw[I.len];exact hi),U],xs,h4,h5.mono (F4 (L2.Same.rf _) λb z _=>Q b z)⟩
   .cases e
  .rw[V6 c];obtain⟨p,o',a,ys,b,r'⟩:=I.own j es (at_ c h);exact⟨p,o',by rw[Ad0 c];exact a,ys,by rw[kept c (at_ c h) rfl p (by rw[o'];simp)];exact b,r'.mono g⟩
 .by_cases c:i=j
  .subst c;rw[Y]at h;cases h;cases hos
  .obtain⟨u,a,b⟩:=I.val j d' (at_ c h);exact⟨u,by rw[Ad0 c];exact a,b.mono g⟩
 .by_cases c:i=j
  .subst c;rw[Y]at h;cases h;cases hos
  .rcases nb with nb | nb
   .obtain⟨u,a,b⟩:=I.bor j d' (at_ c h);exact⟨u,by rw[Ad0 c];exact a,b.mono λb y q=>F b y q (nb b)⟩
   .exact absurd (at_ c h) (nb j d')
 .by_cases c:i=j
  .subst c;rw[Y]at h;cases h;rw[W0];rcases hx with⟨ds,p,xs,e,_⟩ | ⟨t',e,X,U⟩
   .cases e
   .cases e
    exact⟨X,v,As (by rw[I.len];exact hi),U.mono (F4 (L2.Same.rf _) λb z _=>Q b z) (L2.Same.rf _)⟩
  .rw[V6 c];obtain⟨n,u,a,b⟩:=I.tr j t (at_ c h);exact⟨n,u,by rw[Ad0 c];exact a,aF7 g ht t (kept c (at_ c h) rfl) b⟩
theorem Env.setF {S:Addr->Prop}{B H H':Hp}{σ:St}{o:Nat->AL}{p:Addr}{xs:List V}(I:Env K S B H σ ρ o)(i:Nat)(s:Same H H')(n:H p=none)(e:H' p=some (.lst xs))(r:Reps K (hid (λb=>D6 ρ o S b\/b=p) H') xs ds)(hi:i<ρ.length) :
  Env K S B H' (σ.set i (some (.ref p))) (ρ.set i (.own ds)) (bN4 o i [p]):=
 I.put i hi (λ_=>False) (λ_ z=>z.elim) (λb y q _=>s b y q) (λb z=>.inr (by rw[Ad8.mp z];exact n)) (.inl ⟨ds,p,xs,rfl,rfl,rfl,e,r.mono (F4 (L2.Same.rf _) λb z _=>z.imp id λz=>Ad8.mp z)⟩) (.inl λ_ z=>z)
theorem bA4 {α:Type}{l:List α}{i:Nat}{a:α}(h:l[i]? = some a):l.set i a=l:=by
 obtain⟨h1,e⟩:=Ab0.mp h;rw[<- e];exact List.set_getElem_self h1
theorem K6 {i:Nat}{R:AE}(h:EF K t ρ ds)(w:R.nx (ρ.set i (.own ds)))(hi:i<ρ.length:=by first | decide | (simp;done) | (simp[LV.sl0];done)):W K (aK1 t (Q3 i)) ρ R:=λS B D σ H o I s=>
 h S B σ H o I _ λp xs y z n e r=>s.nx _ _ y _ (I.setF i z n e r hi) w
theorem Env.upd (I:Env K S B H σ ρ o)(h:ρ[i]? = some (.own ds))(hp:o i=[p])(r:Reps K (hid (D6 ρ o S) H) xs es)(nb:∀(j:Nat) (d:PyData),ρ[j]?≠some (Sl.bor d)) :
  Env K S B (upd H p (.lst xs)) σ (ρ.set i (.own es)) (bN4 o i [p]):=by
 have hi:i<ρ.length:=(Ab0.mp h).1
 obtain⟨m,e,a,Y,b,c⟩:=I.own i ds h;rw[hp]at e;cases e;have w:cN1 ρ o i p:=⟨_,h,rfl,by rw[hp];simp⟩
 have os:D6 ρ o S p:=.inr ⟨i,_,h,rfl,by rw[hp];simp⟩
 have:=I.put (H':=L2.upd H p (.lst xs)) (v:=.ref p) (x:=.own es) (L:=[p]) i hi (λb=>b=p) (λb z=>by rw[z];exact w) (λb y q z=>by rw[B4 z];exact q) (λb z=>.inl (by rw[Ad8.mp z];exact w))
  (.inl ⟨es,p,xs,rfl,rfl,rfl,B6,r.mono λb y q=>by
   obtain⟨k,s⟩:=hid_some.mp q;refine hid_some.mpr ⟨λz=>k (z.elim id λz=>by rw[Ad8.mp z];exact os),?_⟩
   rw[B4 (λz=>k (by rw[z];exact os))];exact s⟩) (.inr nb)
 rw[bA4 a]at this;exact this
def V7:List Sl->Bool
 | []=>true
 | .bor _::_=>false
 | _::r=>V7 r
theorem N7:∀{ρ:List Sl},V7 ρ=true->∀(j:Nat) (d:PyData),ρ[j]?≠some (Sl.bor d)
 | [],_,j,d=>by simp
 | .bor _::_,h,_,_=>by cases h
 | .no::r,h,0,d=>by simp
 | .no::r,h,j+1,d=>by simpa using N7 (ρ:=r) h j d
 | .val _::r,h,0,d=>by simp
 | .val _::r,h,j+1,d=>by simpa using N7 (ρ:=r) h j d
 | .own _::r,h,0,d=>by simp
 | .own _::r,h,j+1,d=>by simpa using N7 (ρ:=r) h j d
 | .tr _::r,h,0,d=>by simp
 | .tr _::r,h,j+1,d=>by simpa using N7 (ρ:=r) h j d
theorem P9 {i:Nat}{R:AE}(hi:ρ[i]? = some (.own ds))(h:E K true t ρ d)(y:ds.length<sizeLine)(w:R.nx (ρ.set i (.own (ds++[d]))))(nb:V7 ρ=true:=by rfl) :
  W K (bR3 (tBM K "list" aO8 (F0 i) (J9 t W2))) ρ R:=λS B D σ H o I s=>by
 obtain⟨p,hp,a,xs,b,c⟩:=I.own i ds hi;refine⟨_,a,.inl ⟨rfl,xs,SqL.of b⟩,?_⟩;refine h S B σ H o I _ λv z e r=>?_
 refine⟨_,xs,v,rfl,rfl,e _ _ b,by rw[c.length];exact y,?_⟩
 exact s.nx _ σ _ _ ((I.grow e).upd hi hp ((c.mono (N5 e)).append (.cons r .nil)) (N7 nb)) w
theorem bO2 (hi:ρ[i]? = some (.own ds))(hp:o i=[p]):Same (hid (D6 ρ o S) H) (hid (D6 (ρ.set i (.own es)) (bN4 o i [p]) S) (L2.upd H p (.lst xs))):=λm x q=>by
 obtain⟨j,s⟩:=hid_some.mp q;refine hid_some.mpr ⟨λz=>j ?_,?_⟩
 .rcases z with z | ⟨k,y,w,c,e'⟩
  .exact .inl z
  .by_cases e:i=k
   .subst e;rw[W0,<- hp]at e';exact .inr ⟨i,_,hi,rfl,e'⟩
   .rw[Ad0 e]at w;rw[V6 e]at e';exact .inr ⟨k,y,w,c,e'⟩
 .rw[B4 (λz=>j (.inr ⟨i,_,hi,rfl,by rw[hp,z];simp⟩))];exact s
theorem eF7 {i j:Nat}{R:AE}(hi:ρ[i]? = some (.own (ds++[d])))(Y:R.nx ((ρ.set i (.own ds)).set j (.val d)))(nb:V7 ρ=true:=by rfl) :
  W K (aK1 (dW3 K "list" dZ7 (F0 i)) (Q3 j)) ρ R:=λS B D σ H o I s=>by
 obtain⟨p,hp,a,xs,b,c⟩:=I.own i _ hi;have k:=c.length;obtain⟨y,h1,z⟩:=c.get' (i:=ds.length) (d:=d) (by simp)
 refine⟨_,a,.inl ⟨rfl,xs,SqL.of b⟩,_,xs,y,rfl,rfl,b,?_,?_⟩
 .rw[k];simpa using h1
 .have e:=c.dropLast
  rw[List.dropLast_concat]at e;have w:=I.upd hi hp e (N7 nb);refine s.nx _ _ _ _ (Env.set (m:=true) w j (z.mono ?_)) Y;exact bO2 hi hp
theorem O4 {wi:TI}{g:TG}{tb:TS}{R:AE}(hi:I K true wi ρ ds)(P:Nat->List Sl->Prop)(h0:P 0 ρ)
  (turn:∀i d ρ',ds[i]? = some d->P i ρ'->∃ρ'',G K true g d ρ' ρ''/\W K tb ρ'' {R with nx:=P (i+1),ct:=P (i+1),bk:=R.nx}) (hn:∀ρ',P ds.length ρ'->R.nx ρ'):W K (dV8 wi g tb) ρ R:=λS B D σ H o I0 s=>
 hi S B σ H o I0 _ λJ H1 s1 wk=>by
  obtain⟨I1,U⟩:=(I0.grow s1).rebase;generalize hB:hid (cO4 ρ o) H1=B' at I1 U;have sz:Same (hid (D6 ρ o S) H1) B':=λb x q=>by
   obtain⟨q1,q2⟩:=hid_some.mp q;rw[<- hB];exact hid_some.mpr ⟨λz=>q1 (.inr z),q2⟩
  refine⟨λi m σ' H'=>i<=ds.length/\m=ds.length-i/\∃ρ' N,Env K S B' H' σ' ρ' N/\P i ρ',⟨_,Bv _,rfl,ρ,o,I1,h0⟩,?_⟩
  rintro i k σ' H' ⟨hl,rfl,ρ',N,Y,p⟩;have zH:=L2.Same.tr sz Y.base;by_cases c:i=ds.length
  .subst c;exact .inl ⟨wk.stop _ _ zH (Aa7 _),s.nx ρ' σ' H' N ⟨Y.len,L2.Same.tr U Y.base,λb z=>(I0.sl b z),λi ds z hz b F=>S8 U (Y.new i ds z hz b F),Y.inj,Y.own,Y.val,Y.bor,Y.tr⟩ (hn ρ' p)⟩
  .have hlt:i<ds.length:=by lia
   have hd:ds[i]? = some ds[i]:=Aa2 hlt
   obtain⟨ρ'',hg,F⟩:=turn i ds[i] ρ' hd p;refine .inr ⟨wk.go _ _ _ zH hd,λσ2 H2=>∃ρ2 o2,Env K S B' H2 σ2 ρ2 o2/\P (i+1) ρ2,λσ2 H2 ⟨ρ2,o2,I2,p2⟩=>⟨_,by lia,hlt,rfl,ρ2,o2,I2,p2⟩,λx Q hy=>?_⟩
   obtain⟨s2,hx⟩:=wk.yld _ _ _ _ _ zH hd hy;have rx:=hx (D6 ρ' N S) λb z=>by
    obtain⟨ys,y⟩:=Y.lists b z;refine⟨?_,by rw[y];simp⟩
    rcases z with z | ⟨j,es,h',hy,e'⟩
    .unfold vw hid;exact Ae (.inl z)
    .exact S8 sz (Y.new j es h' hy b e')
   refine hg.2 S B' σ' Q N (Y.grow s2) x rx _ λσ2 I2=>F S B' _ σ2 Q N I2 ⟨λρ3 σ3 M o3 X w=>⟨ρ3,o3,X,w⟩,λv d M a b w=>s.rt v d M (L2.Same.tr U a) b w,λp xs es M a b c e w=>s.rl p xs es M (L2.Same.tr U a) (S8 U b) c e w,
    λρ3 σ3 M o3 X w=>s.nx ρ3 σ3 M o3 ⟨X.len,L2.Same.tr U X.base,λb z=>(I0.sl b z),λi ds z hz b F=>S8 U (X.new i ds z hz b F),X.inj,X.own,X.val,X.bor,X.tr⟩ w,λρ3 σ3 M o3 X w=>⟨ρ3,o3,X,w⟩⟩
theorem aQ5 {c:TT}{tb:TS}{R:AE}(P:Nat->List Sl->Prop)(h0:∃k,P k ρ)
  (j:∀k ρ',P k ρ'->∃b,T K c ρ' b/\if b=true then W K tb ρ' {R with nx:=λρ2=>∃k',k'<k/\P k' ρ2,ct:=λρ2=>∃k',k'<k/\P k' ρ2,bk:=R.nx} else R.nx ρ'):W K (cY2 c tb) ρ R:=λS B D σ H o I0 s=>by
 obtain⟨k0,p0⟩:=h0;refine⟨λk m X=>∃ρ' y,Env K S B X m ρ' y/\P k ρ',⟨k0,ρ,o,I0,p0⟩,?_⟩
 rintro k m X ⟨ρ',y,U,p⟩;obtain⟨b,hc,Y⟩:=j k ρ' p;refine hc S B m X y U _ λQ s1=>?_
 cases b with
 | true=>
  rw[Ae rfl]at Y ⊢;refine⟨λσ2 F=>∃k',k'<k/\∃ρ2 o2,Env K S B F σ2 ρ2 o2/\P k' ρ2,λσ2 F ⟨k',e,z⟩=>⟨k',e,z⟩,?_⟩
  exact Y S B _ m Q y (U.grow s1) ⟨λN σ3 H3 M J ⟨k',e,w⟩=>⟨k',e,N,M,J,w⟩,s.rt,s.rl,s.nx,λN σ3 H3 M J ⟨k',e,w⟩=>⟨k',e,N,M,J,w⟩⟩
 | false=>
  rw[Ac Ak]at Y ⊢;exact s.nx ρ' m Q y (U.grow s1) Y
end
section
def cap:Sl->Sl
 | .own ds=>.bor (.list ds)
 | .tr t=>.bor t.data
 | x=>x
def slC (ρ:List Sl)(n:Nat)(is:AC):List Sl:=List.replicate n .no++is.map λi=>cap ((ρ[i]?).getD .no)
theorem bQ6 (h:(slC ρ n is)[j]? = some x)(w:x≠.no):n<=j/\∃i y,is[j-n]? = some i/\ρ[i]? = some y/\cap y=x:=by
 unfold slC at h;by_cases c:j<n
 .rw[Bp (by simpa using c),Cp,Ae c]at h
  exact absurd (Ab4 h).symm w
 .rw[Bi (by simpa using c),Ct,Aa9]at h
  refine⟨by lia,?_⟩
  cases e:is[j-n]? with
  | none=>rw[e]at h;cases h
  | some i=>
   rw[e]at h;have h:cap ((ρ[i]?).getD .no)=x:=Ab4 h;cases e':ρ[i]? with
   | none=>rw[e']at h;exact absurd h.symm w
   | some y=>rw[e']at h;exact⟨i,y,rfl,e',h⟩
theorem dJ5 {n:Nat}{is:AC}{j:Nat}{x:Sl}(h:(slC ρ n is)[j]? = some x):x.os=false:=by
 cases x with
 | own ds=>
  obtain⟨_,i,y,_,_,e⟩:=bQ6 h (by simp)
  cases y <;> simp[cap]at e
 | tr t=>
  obtain⟨_,i,y,_,_,e⟩:=bQ6 h (by simp)
  cases y <;> simp[cap]at e
 | _=>rfl
theorem aR5 {n:Nat}{is:AC}{j:Nat}{x:Sl}{P:Prop}(h:(slC ρ n is)[j]? = some x)(e:x.os=true):P:=by rw[dJ5 h]at e;cases e
theorem Env.comp (I:Env K S B H σ ρ o)(n:Nat)(is:AC):Env K (D6 ρ o S) H H (stC n is σ) (slC ρ n is) o:=by
 have Y:∀(j:Nat) (i:Nat) v,n<=j->is[j-n]? = some i->σ[i]? = some v->(stC n is σ)[j]? = some v:=λj i v w hi J=>by
  unfold stC;rw[Bi (by simpa using w),Ct,Aa9,hi]
  simp[J]
 have g:Same (hid (D6 ρ o S) H) (hid (D6 (slC ρ n is) o (D6 ρ o S)) H):=F4 (L2.Same.rf _) λb z _=>by
  rcases z with z | ⟨j,m,h,s,_⟩
  .exact z
  .exact aR5 h s
 refine⟨by simp[stC,slC],L2.Same.rf _,I.lists,λj m h X=>aR5 h X,λj k m fs h _ X=>aR5 h X,λj m h=>aR5 h rfl,λj d h=>?_,λj d h=>?_,λj t h=>aR5 h rfl⟩
 .obtain⟨w,i,y,hi,s,e⟩:=bQ6 h (by simp)
  cases y with
  | val U=>
   cases e
   obtain⟨v,a,b⟩:=I.val i d s;exact⟨v,Y j i _ w hi a,b.mono g⟩
  | _=>simp[cap]at e
 .obtain⟨w,i,y,hi,s,e⟩:=bQ6 h (by simp)
  cases y with
  | bor U=>
   cases e
   obtain⟨v,a,b⟩:=I.bor i d s;exact⟨v,Y j i _ w hi a,b⟩
  | own m=>
   cases e
   obtain⟨p,hp,a,xs,b,c⟩:=I.own i m s;exact⟨_,Y j i _ w hi a,.lst (SqL.of b) (c.mono T5)⟩
  | tr t=>
   cases e
   obtain⟨_,v,a,b⟩:=I.tr i t s;exact⟨_,Y j i _ w hi a,cD4 T5 (λ_ _ z=>z) T5 t (λ_ _=>rfl) b⟩
  | _=>simp[cap]at e
def bF2 (K:Frag)(m:Bool)(ρ:List Sl)(g:TG)(tt:TT)(te:TE)(d:PyData)(r:Option PyData):Prop:=
 ∃ρ',G K m g d ρ ρ'/\match r with
  | none=>T K tt ρ' false
  | some y=>T K tt ρ' true/\E K true te ρ' y
theorem G8 (f:PyData->Option PyData)(hi:I K m wi ρ ds)(hl:ds.length<sizeLine)(U:∀d∈ds,bF2 K m (slC ρ n is) g tt te d (f d)):EF K (bK3 wi n is g tt te) ρ (ds.filterMap f):=λS B σ H o I0 Q q=>
 hi S B σ H o I0 _ λJ s s1 wk=>by
  have IC:=(I0.grow s1).comp n is
  generalize hS:D6 ρ o S=S' at IC wk q;have lists:∀b,S' b->∃u:HM,s b=some u.ho:=by rw[<- hS];exact(I0.grow s1).lists
  refine⟨λi k ys F=>i<=ds.length/\k=ds.length-i/\Same s F/\ys.length<=i/\Reps K (hid S' F) ys ((ds.take i).filterMap f),⟨_,Bv _,rfl,L2.Same.rf _,Aa7 _,by simpa using Reps.nil⟩,?_⟩
  rintro i k ys F ⟨hil,rfl,Y,hy,r⟩;refine⟨by lia,?_⟩
  have zH:Same (vw m S' s) F:=L2.Same.tr aM4 Y
  by_cases c:i=ds.length
  .subst c;refine .inl ⟨wk.stop _ _ zH (Aa7 _),λD hD=>?_⟩
   rw[Cr]at r;exact q D ys _ (L2.Same.tr (L2.Same.tr s1 Y) (D4 hD)) (S8 (L2.Same.tr s1 Y) hD) B6 (bK9 (λb z=>by obtain⟨xs,e⟩:=lists b z;exact⟨xs,Y _ _ e⟩) hD r)
  .have w:i<ds.length:=by lia
   have hd:ds[i]? = some ds[i]:=Aa2 w
   have take:(ds.take (i+1)).filterMap f=(ds.take i).filterMap f++(f ds[i]).toList:=by
    rw[Bx w,List.filterMap_append];cases P:f ds[i] <;> simp[Ay,P]
   obtain⟨ρ',hg,M⟩:=U ds[i] (Cs w);refine .inr ⟨wk.go _ _ _ zH hd,λx X hx=>?_⟩
   obtain⟨s3,hr⟩:=wk.yld _ _ _ _ _ zH hd hx;have I3:Env K S' s X (stC n is σ) (slC ρ n is) o:=IC.grow (L2.Same.tr Y s3);have eqS:∀b,D6 (slC ρ n is) o S' b->S' b:=λb z=>by
    rcases z with z | ⟨j,es,h,hy,_⟩
    .exact z
    .exact aR5 h hy
   have rx:Rep K (vw m (D6 (slC ρ n is) o S') X) x ds[i]:=by
    cases m with
    | false=>
     have:=hr (λ_=>False) λb z=>z.elim
     rw[cV8]at this;exact this
    | true=>
     refine hr _ λb z=>?_
     have z':=eqS b z
     obtain⟨xs,e⟩:=lists b z';exact⟨by unfold vw hid;exact Ae z',by rw[Y _ _ e];simp⟩
   refine hg.2 S' s _ X o I3 x rx _ λσ4 I4=>?_
   cases P:f ds[i] with
   | none=>
    rw[P]at M take;refine M S' s σ4 X o I4 _ λH5 R=>?_
    rw[Ac Ak];refine⟨_,by lia,w,rfl,L2.Same.tr Y (L2.Same.tr s3 R),by lia,?_⟩
    rw[take];simpa using r.mono (N5 (L2.Same.tr s3 R))
   | some y=>
    rw[P]at M take;refine M.1 S' s σ4 X o I4 _ λH5 R=>?_
    rw[Ae rfl];refine M.2 S' s σ4 H5 o (I4.grow R) _ λv H6 s6 rv=>?_
    have N:=L2.Same.tr s3 (L2.Same.tr R s6)
    refine⟨_,by lia,w,rfl,L2.Same.tr Y N,by simp;lia,?_⟩
    rw[take];refine(r.mono (N5 N)).append (.cons (rv.mono (F4 (L2.Same.rf _) λb z _=>.inl z)) .nil)
theorem U3:T K bE1 ρ true:=λS B σ H o I Q q=>q H (L2.Same.rf _)
def sl0 (n:Nat)(ds:AF):List Sl:=ds.map .val++List.replicate (n-ds.length) .no
theorem env0 {S:Addr->Prop}{H:Hp}{N:AH}{vs:List V}(U:∀b,S b->∃u:HM,H b=some u.ho)(r:Reps K (hid S H) vs ds):Env K S H H (L2.S5 N vs) (sl0 N.length ds) (λ_=>[]):=by
 have s:∀(j:Nat) (x:Sl),(sl0 N.length ds)[j]? = some x->x=.no\/∃d,ds[j]? = some d/\x=.val d:=λj x h=>by
  unfold sl0 at h;by_cases c:j<ds.length
  .rw[Bp (by simpa using c),Aa9,Aa2 c]at h
   exact .inr ⟨_,Aa2 c,(Ab4 h).symm⟩
  .rw[Bi (by simpa using c),Cp]at h
   split at h
   .exact .inl (Ab4 h).symm
   .cases h
 have y:∀{P:Prop} (j:Nat) (x:Sl),(sl0 N.length ds)[j]? = some x->x.os=true->P:=λj x h m=>by
  rcases s j _ h with e | ⟨d,_,e⟩ <;> rw[e]at m <;> cases m
 have g:Same (hid S H) (hid (D6 (sl0 N.length ds) (λ_=>[]) S) H):=F4 (L2.Same.rf _) λb z _=>by
  rcases z with z | ⟨j,w,h,J,_⟩
  .exact z
  .exact y j w h J
 refine⟨?_,L2.Same.rf _,U,λj w h m=>y j w h m,λj k w fs h _ m=>y j w h m,λj w h=>y j _ h rfl,λj d h=>?_,λj d h=>?_,λj w h=>y j _ h rfl⟩
 .unfold L2.S5 sl0;simp[r.length]
 .rcases s j _ h with e | ⟨Y,X,e⟩
  .cases e
  .cases e
   obtain⟨v,a,b⟩:=r.get' X;refine⟨v,?_,b.mono g⟩;unfold L2.S5
   have:=(Ab0.mp a).1
   rw[Bp (by simpa using this),Aa9,a];rfl
 .rcases s j _ h with e | ⟨Y,_,e⟩ <;> cases e
theorem L6 {t:TS}{N:AH}{vs:List V}{S:Addr->Prop}{H:Hp}{Q:VK}(j:∀b,S b->∃u:HM,H b=some u.ho)(r:Reps K (hid S H) vs ds)(w:W K t (sl0 N.length ds) {nx:=λ_=>d=.none,rt:=λe=>e=d})
  (k:∀v H',Same H H'->Rep K (hid S H') v d->Q v H'):t {nx:=λ_ H'=>Q .non H',rt:=Q} (L2.S5 N vs) H:=
 w S H _ _ H _ (env0 j r) ⟨λY X H' m y z=>k _ H' y.base (by rw[z];exact .non),λv e H' s c z=>k v H' s (by rw[<- z];exact c),λ_ _ _ _ _ _ _ _ z=>z.elim,λ_ _ _ _ _ z=>z.elim,λ_ _ _ _ _ z=>z.elim⟩
theorem aR9 {t:TS}{N:AH}{vs:List V}{S:Addr->Prop}{H:Hp}{Q:VK}(c:∀b,S b->∃u:HM,H b=some u.ho)(r:Reps K (hid S H) vs ds)(w:W K t (sl0 N.length ds) {nx:=λ_=>False,rl:=λe=>e=es})
  (k:∀p xs H',Same H H'->H p=none->H' p=some (.lst xs)->Reps K (hid (λb=>S b\/b=p) H') xs es->Q (.ref p) H'):t {nx:=λ_ H'=>Q .non H',rt:=Q} (L2.S5 N vs) H:=
 w S H _ _ H _ (env0 c r) ⟨λX U H' Y m z=>z.elim,λv e H' s y z=>z.elim,λp xs j H' s n e y z=>k p xs H' s n e (by rw[<- z];exact y),λ_ _ _ _ _ z=>z.elim,λ_ _ _ _ _ z=>z.elim⟩
end
end LV
namespace L2
open PySem PySem.Spec PyProof.Rows
section
def CMulB (i j:Int):Prop:=i.natAbs<2^512/\j.natAbs<2^512
theorem cJ5 {k:Int}(h:k.natAbs<2^512):Builtin.Int.intBits k<=2^20:=by
 unfold Builtin.Int.intBits;split
 .exact Bv _
 .have:k.natAbs.log2<512:=by
   rcases Nat.eq_zero_or_pos k.natAbs with e | hp
   .rw[e];decide
   .exact(Nat.log2_lt (Nat.ne_of_gt hp)).mpr h
  lia
theorem CMulB.ok {i j:Int}(h:CMulB i j):IntMulOk i j:=.of_bits (cJ5 h.1) (cJ5 h.2)
theorem k7:OpR X (binaryOp .Mult) (rI CMulB λi j=>.int (i*j)):=opI λ_ _ _ _ _ _ _ e q=>mul_int q e.ok
def bW3:List String:=["int", "bool", "str", "list", "tuple"]
def eA0 (K:Frag)(H:Hp)(T:String):V->Bool->Prop
 | .int _,b=>b=(T == "int")
 | .bl _,b=>b=(T == "int" || T == "bool")
 | .str _,b=>b=(T == "str")
 | .non,b=>b=false
 | .ref p,b=>(∃xs,SqL K H p xs/\b=(T == "list"))\/∃xs,SqT K H p xs/\b=(T == "tuple")
 | _,_=>False
theorem M7 (h:T∈bW3):typeOf (.type T)=pure (.type "type"):=by
 simp only[bW3,Aa1,Ac2,or_false]at h;rcases h with rfl | rfl | rfl | rfl | rfl
 .exact meta_int
 .exact meta_bool
 .exact meta_str
 .exact meta_list
 .exact meta_tuple
theorem aQ9 (h:T∈bW3)(y:s.TypeIs x Tx)(e:isSubtype (.type Tx) (.type T)=pure true)(q:Q (.bool true) s) :
  wpAny (model P w) A (call (.builtin "isinstance") [x,.type T]) Q E s:=Az (isinstance_true (M7 h) e) ⟨y,q⟩
theorem dA2:R4 X (.builtin "isinstance") (λxs H Q=>∃x T b,xs=[x,.ty T]/\T∈bW3/\eA0 X.K H T x b/\Q (.bl b) H):=by
 intro M s σ H xs P Q I r h;obtain⟨x,T,b,rfl,y,Y,q⟩:=h;cases r with
 | cons U N=>
  cases N with
  | cons R D=>
   cases D;cases R
   have m:EP X M σ Q (.bool b) s:=⟨.bl b,H,I,rfl,q⟩
   have j:EP X M σ Q (.bool b) {s with toks:=s.toks+1}:=⟨.bl b,H,I.tok _,rfl,q⟩
   have w:=y
   simp only[bW3,Aa1,Ac2,or_false]at w;cases x with
   | int i=>
    obtain⟨t,rfl⟩:=U;cases Y;rcases w with rfl | rfl | rfl | rfl | rfl
    .exact aQ9 y (typeIs_int _ _ _) (by rw[Ap];kernel_rfl) m
    all_goals exact Az (isinstance_false_int (by decide) (M7 y) (by rw[Ap];kernel_rfl)) j
   | bl k=>
    cases U
    cases Y
    rcases w with rfl | rfl | rfl | rfl | rfl
    .exact aQ9 y (PySem.typeIs_bool _ _) (by rw[Ap];kernel_rfl) m
    .exact aQ9 y (PySem.typeIs_bool _ _) (by rw[Ap];kernel_rfl) m
    all_goals exact Az (isinstance_false_bool (by decide) (M7 y) (by rw[Ap];kernel_rfl)) j
   | str z=>
    obtain⟨t,rfl⟩:=U;cases Y;rcases w with rfl | rfl | rfl | rfl | rfl
    .exact Az (isinstance_false_str (by decide) (M7 y) (by rw[Ap];kernel_rfl)) j
    .exact Az (isinstance_false_str (by decide) (M7 y) (by rw[Ap];kernel_rfl)) j
    .exact aQ9 y (typeIs_str _ _ _) (by rw[Ap];kernel_rfl) m
    all_goals exact Az (isinstance_false_str (by decide) (M7 y) (by rw[Ap];kernel_rfl)) j
   | non=>
    cases U
    cases Y
    rcases w with rfl | rfl | rfl | rfl | rfl
    all_goals exact Az (isinstance_false_none (by decide) (M7 y) (by rw[Ap];kernel_rfl)) j
   | ref p=>
    cases U
    rcases Y with⟨B,J,rfl⟩ | ⟨B,J,rfl⟩
    .obtain⟨its,F,⟨o,n,e,c,_,_⟩,_⟩:=I.list J;rcases w with rfl | rfl | rfl | rfl | rfl
     .exact Az (isinstance_false_list (by decide) (M7 y) (by rw[Ap];kernel_rfl)) ⟨⟨o,e,c⟩,j⟩
     .exact Az (isinstance_false_list (by decide) (M7 y) (by rw[Ap];kernel_rfl)) ⟨⟨o,e,c⟩,j⟩
     .exact Az (isinstance_false_list (by decide) (M7 y) (by rw[Ap];kernel_rfl)) ⟨⟨o,e,c⟩,j⟩
     .exact aQ9 y (⟨o,e,c⟩:s.TypeIs (.ref p) _) (by rw[Ap];kernel_rfl) m
     .exact Az (isinstance_false_list (by decide) (M7 y) (by rw[Ap];kernel_rfl)) ⟨⟨o,e,c⟩,j⟩
    .obtain⟨its,F,⟨o,e,c,n,d⟩,_⟩:=I.tuple J;rcases w with rfl | rfl | rfl | rfl | rfl
     .exact Az (isinstance_false_tuple (by decide) (M7 y) (by rw[Ap];kernel_rfl)) ⟨⟨o,e,c⟩,j⟩
     .exact Az (isinstance_false_tuple (by decide) (M7 y) (by rw[Ap];kernel_rfl)) ⟨⟨o,e,c⟩,j⟩
     .exact Az (isinstance_false_tuple (by decide) (M7 y) (by rw[Ap];kernel_rfl)) ⟨⟨o,e,c⟩,j⟩
     .exact Az (isinstance_false_tuple (by decide) (M7 y) (by rw[Ap];kernel_rfl)) ⟨⟨o,e,c⟩,j⟩
     .exact aQ9 y (⟨o,e,c⟩:s.TypeIs (.ref p) _) (by rw[Ap];kernel_rfl) m
   | _=>exact Y.elim
end
theorem aU3 {X:Cx}{x:Str}{T:String}{pos:Pos}(y:Gl X x)(w:X.mg x=none)(k:bootBuiltins x=some (.type T))(z:x≠"__name__" := by decide)(e:(x==("__debug__" : Str))=false:=by decide):PE X (.Name x pos) (tC (.ty T)):=dN1 (v:=.ty T) y w k rfl z e
def AllP {α:Type}(p:α->Prop):List α->Prop
 | []=>True
 | a::l=>p a/\AllP p l
theorem AllP.mem:∀{l:List α},AllP p l->∀a∈l,p a
 | _::_,h,a,ha=>(Aa1.mp ha).elim (λe=>e▸h.1) λz=>AllP.mem h.2 a z
theorem Z7 {β:Type}{x:Str}{v:β}:∀{l:List (Str×β)},l.lookup x=some v->(x,v)∈l
 | [],h=>by cases h
 | (y,u)::l,h=>by
  rw[List.lookup_cons]at h;by_cases e:x==y
  .rw[e]at h;have e':x=y:=eq_of_beq e;cases h;subst e';exact Af
  .have w:(x==y)=false:=by simpa using e
   rw[w]at h;exact Ad4 _ (Z7 h)
theorem CScope.of {X:Cx}{scope:Scope}{cl:List (Str×Addr)}{T N':AH}{is:AC}(clos:closureFor scope X.env=pure cl)(kind:scope.kind=.function)
  (z:scope.names.all (λy=>y.2 != .cell&&(y.2 != .local||scope.names.lookup y.1==some .local))=true) (s:AllP (λp=>X.env.cells.lookup p.1=some p.2) cl)
  (m:(relabel scope X.env).names.all (λy=>(y.2 != .cell&&y.2 != .free)||(cl.lookup y.1).isSome)=true) (Y:N'=T++is.map λ(i:Nat)=>((X.N[i]?).getD Str.empty:Str))
  (U:is.all (λi=>decide (i<X.N.length))=true) (J:AllP (λi=>∃x,X.N[i]? = some x/\((relabel scope X.env).names.lookup x=some .cell\/(relabel scope X.env).names.lookup x=some .free)/\(X.env.kindOf x=some .cell\/X.env.kindOf x=some .free)) is):CScope X scope cl T is N' where
 clos:=clos
 cell:=λy w e=>by
  have:=Ac9.mp z y w
  rw[e]at this;simp at this
 kind:=kind
 names:=λy w e=>by
  have:=Ac9.mp z y w
  rw[e]at this;simp at this;exact this
 cap:=λx c h=>s.mem (x,c) (Z7 h)
 has:=λx h=>by
  have j:∀k,(relabel scope X.env).names.lookup x=some k->k=.cell\/k=.free->∃c,cl.lookup x=some c:=λk e R=>by
   have:=Ac9.mp m (x,k) (Z7 e)
   rcases R with rfl | rfl <;> exact Option.isSome_iff_exists.mp this
  rcases h with h | h
  .exact j _ h (.inl rfl)
  .exact j _ h (.inr rfl)
 N:=Y
 lt:=λi hi=>An (Ac9.mp U i hi)
 capt:=λi hi x e=>by
  obtain⟨y,e',h1,M⟩:=J.mem i hi;rw[e]at e';cases e';exact⟨h1,M⟩
section
theorem ixK (K:Frag)(h:X.K=K:=by rfl):IxR X (rIx K):=h▸C8
theorem u7 (K:Frag)(h:X.K=K:=by rfl):R4 X (.builtin "len") (λxs H Q=>∃p ys,xs=[.ref p]/\(SqL K H p ys\/SqT K H p ys)/\Q (.int ys.length) H):=h▸N8
theorem bZ4 (K:Frag)(h:X.K=K:=by rfl):R4 X (.builtin "isinstance") (λxs H Q=>∃x T b,xs=[x,.ty T]/\T∈bW3/\eA0 K H T x b/\Q (.bl b) H):=h▸dA2
theorem eL6 (K:Frag)(h:X.K=K:=by rfl):SlR X (eA5 K):=h▸bM5
theorem cU2 (K:Frag)(h:X.K=K:=by rfl):R4 X (.type "tuple") (λxs H Q=>∃p ys,xs=[.ref p]/\((SqL K H p ys/\∀l,H l=none->Q (.ref l) (upd H l (.tup ys)))\/(SqT K H p ys/\Q (.ref p) H))):=h▸S4
end
end L2
namespace LV
open PySem L2
section
theorem Y6 (e:E K false ta ρ (.int i))(y:E K false tb ρ (.int j)):E K m (tOp rEq ta tb) ρ (.bool (decide (i=j))):=
 bS8 e y λH Q q=>⟨rfl,by
  have:decide (V.int i=V.int j)=decide (i=j):=by simp
  rw[this];exact q _ λ_=>.bl _⟩
theorem bH0 (e:E K false ta ρ (.int i))(y:E K false tb ρ (.int j)):E K m (tOp rNe ta tb) ρ (.bool (!decide (i=j))):=
 bS8 e y λH Q q=>⟨rfl,by
  have:decide (V.int i=V.int j)=decide (i=j):=by simp
  rw[this];exact q _ λ_=>.bl _⟩
theorem aU1 (y:E K false ta ρ (.int i)):E K m (tUn (rU λi=>.int (-i)) ta) ρ (.int (-i)):=E.bor (E.imm (m:=false) λS B σ H o I Q q=>y S B σ H o I _ λv e w r=>by
 cases r
 exact⟨i,rfl,q _ e w (.int _)⟩)
theorem bV4 {r:List V->Hp->VK->Prop}{t:TA}(y:A K false t ρ ds)(w:∀(H:Hp) (vs:List V) (Q:VK),Reps K H vs ds->(∀v,(∀H,Rep K H v d)->Q v H)->r vs H Q):E K m (tCB r t) ρ d:=λS B σ H o I Q q=>
 y S B σ H o I _ λvs e k rs=>w e vs Q rs λv z=>q v e k (z _)
theorem P5 {t:TA}(e:A K false t ρ [d])(h:sq d=some ds:=by rfl):E K m (tCB (λxs H Q=>∃p ys,xs=[.ref p]/\(SqL K H p ys\/SqT K H p ys)/\Q (.int ys.length) H) t) ρ (.int ds.length):=bV4 e λH vs Q r q=>by
 cases r with
 | cons a b=>
  cases b
  cases a with
  | lst s r=>cases h;exact⟨_,_,rfl,.inl s,by rw[r.length];exact q _ λ_=>.int _⟩
  | tup s r=>cases h;exact⟨_,_,rfl,.inr s,by rw[r.length];exact q _ λ_=>.int _⟩
  | _=>cases h
def eJ5 (T:String):PyData->Bool
 | .int _=>T == "int"
 | .bool _=>T == "int" || T == "bool"
 | .str _=>T == "str"
 | .list _=>T == "list"
 | .tuple _=>T == "tuple"
 | _=>false
def xNo:PyData->Bool
 | .dict _=>false
 | _=>true
theorem aV3 {T:String}(k:E K false ta ρ d)(z:T∈bW3:=by decide)(y:xNo d=true:=by first | rfl | assumption):E K m (tCB (λxs H Q=>∃x T b,xs=[x,.ty T]/\T∈bW3/\eA0 K H T x b/\Q (.bl b) H) (J9 ta (J9 (tC (.ty T)) W2))) ρ (.bool (eJ5 T d)):=E.bor (E.imm (m:=false) λS B σ H o I Q q=>k S B σ H o I _ λv w j r=>by
 refine⟨v,T,eJ5 T d,rfl,z,?_,q _ w j (.bl _)⟩;cases r with
 | lst s r=>exact .inl ⟨_,s,rfl⟩
 | tup s r=>exact .inr ⟨_,s,rfl⟩
 | exc e=>exact absurd y (by simp[xNo])
 | ptr=>exact absurd y (by simp[xNo])
 | adr=>exact absurd y (by simp[xNo])
 | ins _=>exact absurd y (by simp[xNo])
 | exd _ _ _=>exact absurd y (by simp[xNo])
 | dki _ _=>exact absurd y (by simp[xNo])
 | dic _ _ _=>exact absurd y (by simp[xNo])
 | _=>rfl)
theorem dO8 {r r':R2}{i j k:Int}{g g':Int->Int->Bool}(Y:E K false ta ρ (.int i))(X:E K false tb ρ (.int j))(U:E K false tc ρ (.int k)):E K m (dG3 (rI0 λi j=>.bl (g i j)) (rI0 λi j=>.bl (g' i j)) ta tb tc) ρ (.bool (g i j&&g' j k)):=
 E.bor (E.imm (m:=false) λS B σ H o I Q q=>Y S B σ H o I _ λv c e J=>X S B σ c o (I.grow e) _ λu z y M=>by
  cases J;cases M
  refine⟨i,j,rfl,rfl,g i j,rfl,?_⟩;cases h:g i j with
  | false=>rw[Ac Ak];exact q _ z (L2.Same.tr e y) (by rw[h];exact .bl _)
  | true=>
   rw[Ae rfl];refine U S B σ z o ((I.grow e).grow y) _ λw s R N=>?_
   cases N
   refine⟨j,k,rfl,rfl,q _ s (L2.Same.tr e (L2.Same.tr y R)) ?_⟩;rw[h,Bool.true_and];exact .bl _)
theorem aS7 (e:E K false ta ρ d):E K m (tOp (λx y H Q=>y=.non/\Q (.bl (!decide (x=.non))) H) ta (tC .non)) ρ (.bool (match d with | .none=>false | _=>true)):=bC6 false false e bW0 λS H x y Q _ w z q=>by
 cases z
 refine⟨rfl,q _ H (L2.Same.rf _) ?_⟩;cases w <;> exact .bl _
end
end LV
namespace LV
open PySem PySem.Spec PyProof.Rows L2
section
mutual
theorem P2 (I:Inv X aA σ H s):∀(d:PyData) {v:V} {u:Value},d.canLay0=true->Rep X.K H v d->RelV v u->∃as,Reads s.heap u d as
 | .none,_,_,_,r,q=>by cases r;cases q;exact⟨_,.none⟩
 | .bool _,_,_,_,r,q=>by cases r;cases q;exact⟨_,.bool _⟩
 | .int _,_,_,_,r,q=>by cases r;obtain⟨t,rfl⟩:=q;exact⟨_,.int _ _⟩
 | .str _,_,_,_,r,q=>by cases r;obtain⟨t,rfl⟩:=q;exact⟨_,.str _ _⟩
 | .tuple ds,_,_,c,r,q=>by
  cases r with
  | tup sq rs=>
   cases q
   obtain⟨its,z,⟨o,e,y,n,d⟩,_⟩:=I.tuple sq;obtain⟨as,w⟩:=aI4 I ds (by simpa[PyData.canLay0]using c) rs z
   exact⟨_,.tuple e y d (by simpa using w)⟩
 | .list ds,_,_,c,r,q=>by
  cases r with
  | lst sq rs=>
   cases q
   obtain⟨its,z,⟨o,n,e,y,_,d⟩,_⟩:=I.list sq;obtain⟨as,w⟩:=aI4 I ds (by simpa[PyData.canLay0]using c) rs z
   exact⟨_,.list e y d (by simpa using w)⟩
 | .dict _,_,_,c,_,_=>by simp[PyData.canLay0]at c
theorem aI4 (I:Inv X aA σ H s):∀(ds:AF) {vs:List V} {us:AG},PyData.canLayAll0 ds=true->Reps X.K H vs ds->Vals vs us->∃as,ReadsAll s.heap us ds as
 | [],_,_,_,r,q=>by cases r;cases q;exact⟨_,.nil⟩
 | d::ds,_,_,c,r,q=>by
  have e:d.canLay0=true/\PyData.canLayAll0 ds=true:=by simpa[PyData.canLayAll0]using c
  cases r with
  | cons a b=>
   cases q with
   | cons y w=>
    obtain⟨as,h1⟩:=P2 I d e.1 a y;obtain⟨bs,z⟩:=aI4 I ds e.2 b w;exact⟨_,.cons h1 z⟩
end
def Fit (d:PyData):Prop:=d.canLay0=true/\d.depth<=32
def cM3 (K:Frag)(neg:Bool):R2:=λx y H Q=>∃d e,Rep K H x d/\Rep K H y e/\Fit d/\Fit e/\Q (.bl (if neg then !PyData.eqv d e else PyData.eqv d e)) H
def dM1 (K:Frag)(neg:Bool):R2:=λx y H Q=>∃d e ds,Rep K H x d/\Rep K H y e/\sq e=some ds/\Fit d/\Fit e/\Q (.bl (if neg then !ds.any λz=>PyData.eqv z d else ds.any λz=>PyData.eqv z d)) H
theorem dD5 (K:Frag)(m:Room k X.A)(h:X.K=K:=by rfl):OpR X (compareOp .Eq) (cM3 K false):=by
 subst h;intro M s σ H x y v u Q I U J ⟨d,e,j,c,w,z,q⟩;obtain⟨N,Y⟩:=P2 I d w.1 j U;obtain⟨bs,rb⟩:=P2 I e z.1 c J;exact SeqAt.compareEq_reads Y rb w.1 z.1 (by have:=m.un;have:=w.2;lia) ⟨.bl _,H,I,rfl,q⟩
theorem cC7 (K:Frag)(m:Room k X.A)(h:X.K=K:=by rfl):OpR X (compareOp .NotEq) (cM3 K true):=by
 subst h;intro M s σ H x y v u Q I U J ⟨d,e,j,c,w,z,q⟩;obtain⟨N,Y⟩:=P2 I d w.1 j U;obtain⟨bs,rb⟩:=P2 I e z.1 c J;exact SeqAt.compareNe_reads Y rb w.1 z.1 (by have:=m.un;have:=w.2;lia) ⟨.bl _,H,I,rfl,q⟩
theorem aX2 (h:Fit (.list ds)\/Fit (.tuple ds)):PyData.canLayAll0 ds=true/\PyData.depthAll ds<=32:=by
 rcases h with⟨a,b⟩ | ⟨a,b⟩ <;> simp only[PyData.canLay0,PyData.depth]at a b <;> exact⟨a,by lia⟩
theorem bQ7 (K:Frag)(Y:Room k X.A)(h:X.K=K:=by rfl):OpR X (compareOp .In) (dM1 K false):=by
 subst h;intro J s σ H x y v u Q I D F ⟨d,e,ds,N,R,m,w,c,q⟩;obtain⟨B,U⟩:=P2 I d w.1 N D;obtain⟨bs,rb⟩:=P2 I e c.1 R F;have j:EP X J σ Q (.bool (ds.any λz=>PyData.eqv z d)) s:=⟨.bl _,H,I,rfl,q⟩
 cases e with
 | list M=>
  cases m
  have:=aX2 (.inl c)
  exact SeqAt.in_list_reads rb U this.1 w.1 (by have:=Y.un;have:=w.2;lia) j
 | tuple M=>
  cases m
  have:=aX2 (.inr c)
  exact SeqAt.in_tuple_reads rb U this.1 w.1 (by have:=Y.un;have:=w.2;lia) j
 | _=>cases m
theorem Y5 (K:Frag)(Y:Room k X.A)(h:X.K=K:=by rfl):OpR X (compareOp .NotIn) (dM1 K true):=by
 subst h;intro J s σ H x y v u Q I D F ⟨d,e,ds,N,R,m,w,c,q⟩;obtain⟨B,U⟩:=P2 I d w.1 N D;obtain⟨bs,rb⟩:=P2 I e c.1 R F;have j:EP X J σ Q (.bool (!ds.any λz=>PyData.eqv z d)) s:=⟨.bl _,H,I,rfl,q⟩
 cases e with
 | list M=>
  cases m
  have:=aX2 (.inl c)
  exact SeqAt.notIn_list_reads rb U this.1 w.1 (by have:=Y.un;have:=w.2;lia) j
 | tuple M=>
  cases m
  have:=aX2 (.inr c)
  exact SeqAt.notIn_tuple_reads rb U this.1 w.1 (by have:=Y.un;have:=w.2;lia) j
 | _=>cases m
theorem R7:∀{l:AD} {its:AG},Vals (l.map V.int) its->IntsAre its l
 | [],_,r=>by cases r;exact .nil
 | i::l,_,r=>by
  cases r with
  | cons a b=>
   obtain⟨t,rfl⟩:=a;exact .cons _ _ (R7 b)
theorem cE2 {k:Int}:∀{l:AD} {m:Nat} (hm:m<l.length),m<l.idxOf k->l[m]≠k
 | [],m,hm,_=>by simp at hm
 | a::l,m,hm,h=>by
  rw[List.idxOf_cons]at h;by_cases e:a=k
  .subst e;simp at h
  .have y:(a==k)=false:=by simpa using e
   rw[y]at h;simp only[cond_false]at h;cases m with
   | zero=>simpa using e
   | succ m=>exact cE2 (l:=l) (m:=m) (by simpa using hm) (by lia)
theorem cX8 {A:Around}{P:Program}{w:World}{E:Dy}{l:Addr}{vs:AG}{ns:AD}{Q:Dy}(U:A.handled=none)(Y:s.heap.IsList l vs.toArray)(hi:IntsAre vs ns)(z:0<ns.length)
  (h:∀h' M (t:Tok) tk,(∀b o,s.heap.get? b=some o->h'.get? b=some o)->M∈ns->(∀a,a∈ns->M<=a)->Q (.int M t) {s with heap:=h',toks:=tk}):wpAny (model P w) A (call (.builtin "min") [.ref l]) Q E s:=by
 obtain⟨xs,e⟩:=hi.allInts.items;have y:ns=xs.toList.map (·.1):=by rw[<- hi.numsOf,<- nums_intItems,<- e]
 have k:0<xs.size:=by
  have c:=z;rw[y,Aa3,Bl]at c;exact c
 rw[e]at Y;refine min_intList U Y k λv h' tk R N=>?_
 obtain⟨t,rfl⟩:=intItems_at R;obtain⟨h1,X⟩:=argBest_lt (numAt xs) (xs.size-1);refine h _ _ t tk N ?_ λa m=>?_
 .rw[y,numAt_eq];exact getD_mem (by rw[Aa3,Bl];lia)
 .rw[y]at m;obtain⟨j,J,rfl⟩:=mem_getD m;rw[Aa3,Bl]at J;rw[<- numAt_eq];exact X j (by lia)
theorem bJ8 (K:Frag)(z:X.calm=true)(h:X.K=K:=by rfl):R4 X (.builtin "min") (λxs H Q=>∃(p:Addr) (l:AD),xs=[.ref p]/\SqL K H p (l.map V.int)/\l≠[]/\∀M,M∈l->(∀a∈l,M<=a)->Q (.int M) H):=by
 subst h;intro U s σ H xs R Q I r ⟨p,l,e,j,y,q⟩;subst e;obtain⟨u,rfl,Y⟩:=S0 r;cases Y;obtain⟨its,m,c,_⟩:=I.list j;exact cX8 (I.ok.hd z) c.isList (R7 m) (Dc.mpr y) λJ M t N k h1 w=>⟨.int M,H,I.kept k,⟨_,rfl⟩,q M h1 w⟩
theorem bI3 (K:Frag)(h:X.K=K:=by rfl):MtR X "list.index" (λx xs H Q=>∃(p:Addr) (l:AD) (k:Int),x=.ref p/\xs=[.int k]/\SqL K H p (l.map V.int)/\k∈l/\Q (.int (l.idxOf k)) H):=by
 subst h;intro aA s σ H x xs v us Q I rx rv ⟨p,l,k,D,B,hq,P,q⟩;subst D;subst B;cases rx;obtain⟨u,rfl,t,rfl⟩:=S0 rv;obtain⟨its,r,⟨o,n,e,c,N,d⟩,hz⟩:=I.list hq;obtain⟨oc,od,J,M⟩:=o;dsimp only at c N d;subst c;subst N;subst d;have Y:=r.length;rw[Aa3]at Y;have w:l.idxOf k<l.length:=Cn.mpr P;have at_:∀(j:Nat) (w:j<its.toArray.size),∃t,its.toArray[j]=Value.int (l[j]'(by simpa[Y]using w)) t:=λj w=>by
  have U:j<l.length:=by simpa[Y]using w
  obtain⟨u,h1,t,rfl⟩:=r.get (i:=j) (x:=.int l[j]) (by rw[Aa9,Aa2 U];rfl)
  have:=(Ab0.mp h1).2
  exact⟨t,by simpa using this⟩
 have hz':=aJ7
 rw[Aa3]at hz;refine call_meets F.slot_list_index ⟨_,e,rfl⟩ F.entry_list_index (F.args_list_index_2 _ _) (SeqAt.list_indexAt p its.toArray n none M (.int k t) (λy=>match y with | .int i _=>i==k | _=>false) (l.idxOf k) (by simpa[<- Y]using w) (by lia) ?_ ?_) ⟨e,λy hy=>?_,?_⟩
 .obtain⟨R,e'⟩:=at_ (l.idxOf k) (by simpa[<- Y]using w)
  rw[e'];simp
 .intro m hm hlt;obtain⟨R,e'⟩:=at_ m hm;rw[e']
  have:l[m]'(by simpa[Y]using hm)≠k:=λz=>by
   have h1:m<l.length:=by simpa[Y]using hm
   exact cE2 h1 hlt z
  simpa using this
 .obtain⟨j,w,rfl⟩:=Array.mem_iff_getElem.mp hy;obtain⟨R,e'⟩:=at_ j w;rw[e'];exact SeqAt.EqAt.int_int _ _ _ _
 .exact⟨.int _,H,I.tok _,⟨_,rfl⟩,q⟩
end
theorem bP8:∀{vs:List V} {us:AG},vs.length=us.length->(∀(j:Nat) v u,vs[j]? = some v->us[j]? = some u->RelV v u)->Vals vs us
 | [],[],_,_=>.nil
 | v::vs,u::us,hl,h=>.cons (h 0 v u rfl rfl) (bP8 (by simpa using hl) λj v u e1 e2=>h (j+1) v u (by simpa using e1) (by simpa using e2))
 | [],_::_,hl,_=>by simp at hl
 | _::_,[],hl,_=>by simp at hl
section
def dT3 (ta:TA):TE:=λσ H Q=>ta σ H λvs H1=>∃i j:Int,vs=[.int i,.int j]/\∀p,H1 p=none->Q (.ref p) (upd H1 p (.rng i j))
theorem dO6 (m:Gl X "range")(Y:X.mg "range" = none)(c:PA X [a,b] ta)(U:starEach [a,b] X.env=[(false,eval a X.env),(false,eval b X.env)]:=by rfl)(y:starEach [b] X.env=[(false,eval b X.env)]:=by rfl) :
  PE X (.Call (.Name "range" p) [a,b] [] pos) (dT3 ta):=by
 refine⟨?_⟩;intro k s σ H Q I h;refine Call_ (t8 I m Y boot_range (Bj (thn (c pos k s σ H _ I h) λP F J=>?_) (by rw[U,y]) (by rw[y];rfl)))
 obtain⟨vs,D,z,R,M⟩:=J;obtain⟨i,j,e,q⟩:=M;subst e;cases R with
 | cons r rr=>
  cases rr with
  | cons N rr=>
   cases rr
   obtain⟨t,rfl⟩:=r;obtain⟨B,rfl⟩:=N;refine call_range_2 ?_;refine⟨.ref _,_,z.laid (λb o e=>Aa6 _ e) (Aa7 _) (show ObjOk X.prog X.w _ _ _ (.rng i j) from⟨_,_,_,Ac3 _ rfl⟩),rfl,q _ (z.hok.fresh (Aa7 _))⟩
def aH1 (lo:Int)(n:Nat):List V:=(List.range n).map λ(k:Nat)=>V.int (lo+(k:Int))
theorem bE2 (F:X.calm=true):R4 X (.type "list") (λxs H Q=>∃(r:Addr) (i j:Int),xs=[.ref r]/\H r=some (.rng i j)/\(-(2^62)<=i/\i<2^62 /\ -(2^62)<=j/\j<2^62/\j-i<=1000000)/\∀l,H l=none->Q (.ref l) (upd H l (.lst (aH1 i (j-i).toNat)))):=by
 intro aA s σ H xs us Q I r ⟨m,i,j,e,hq,⟨h1,N,R,D,h5⟩,q⟩;subst e;obtain⟨u,rfl,rx⟩:=S0 r;cases rx;obtain⟨t,u,v,e⟩:=I.hok m _ hq;have P:Builtin.Range.rangeSize i j 1=((j-i).toNat:Int):=by rw[rangeSize_one];split <;> lia
 refine call_list_range (I.ok.hd F) (show IsRange s.heap m i j 1 t u v from e) (small_one h1 N R D) P (by lia) λM tk y Y kp J it=>?_
 have rv:Vals (aH1 i (j-i).toNat) y.toList:=by
  obtain⟨hz,c⟩:=it;refine bP8 (by simp[aH1,hz]) λk v u z U=>?_
  obtain⟨t,rfl⟩:=c k u (by simpa using U)
  have B:k<(j-i).toNat:=by
   have:=(Ab0.mp z).1
   simpa[aH1]using this
  unfold aH1 at z;rw[Aa9,List.getElem?_range B]at z;cases z;exact⟨t,by simp⟩
 refine⟨.ref s.heap.objs.size,_,I.laid kp (Aa7 _) (show ObjOk X.prog X.w _ M _ (.lst _) from⟨?_,y.toList,Y,rv,by simpa using J⟩),rfl,q _ (I.hok.fresh (Aa7 _))⟩
 simp[aH1];unfold sizeLine;lia
end
end LV
namespace PySem
open Sem (wp)
theorem bZ6:typeLookup (.type "list_reverseiterator") "__len__" = pure none:=by rw[typeLookup_type,builtinLookup_eq_fast];kernel_rfl
theorem cW8:typeLookup (.type "list_reverseiterator") "__length_hint__" = pure (some (.builtin "list_reverseiterator.__length_hint__")):=by rw[typeLookup_type,builtinLookup_eq_fast];kernel_rfl
section
theorem aR8 {R:Result->Shared->Prop}(B:A.handled=none){r l:Addr}{items:AJ}(y:s.heap.IsRevIter r l ((items.size:Int)-1))(P:s.heap.IsList l items)(U:l≠r)(S:Addr)(z:S≠r)(Y:S≠l)(res:Value)(J:Nat)(Q:s.heap.get? S=some {cls:=.type "list",data:=.seq #[] J})
  (hR:∀h' tk acc' c',(∀b o,b≠S->b≠r->s.heap.get? b=some o->h'.get? b=some o)->h'.get? S=some {cls:=.type "list",dict:=none,data:=.seq acc' c',slots := #[]} ->
   ItemsOf (λi v=>items[items.size-1-i]? = some v) acc' items.size->R (.ok (.ret res)) {s with heap:=h',toks:=tk}) (hn:items.size<=sizeLine) :
  wpAny (model prog w) A.in1 (Builtin.List.listExtendWith (.ref S) (.ref r) res)
   (λfin s'=>match fin with | .done f=>R (.ok f) s' | .again c'=>c'.quiet=true/\codeAny (model prog w) A c' R s') (λe s'=>R (.error e) s') s:=by
 have m:S∉[r,l]:=λj=>by simp at j;rcases j with h | h;exact z h;exact Y h
 unfold Builtin.List.listExtendWith;refine Aa (wpAny_typeOf y.typeIs ?_);have h1:Builtin.List.listSameRef (.ref S) (.ref r)=false:=by simp[Builtin.List.listSameRef,z]
 have M:(Value.type "list_reverseiterator" == Value.type "list")=false:=by decide
 have N:(Value.type "list_reverseiterator" == Value.type "tuple")=false:=by decide
 simp only[h1,M,N,Bool.or_false,Cd,if_false];refine Aa (wpAny_pyIter_revIter y ?_);refine Aa (Bz ?_);unfold Builtin.List.listLengthHint;refine Aa (wpAny_specialOf y.typeIs bZ6 ?_);show wpAny _ A.in1 (specialOf (Value.ref r) (Str.ofString "__length_hint__") >>= _) _ _ _;refine Aa (wpAny_specialOf y.typeIs cW8 ?_)
 wp_delta
 refine Aa (wpAny_isInstance (b:=true) y.typeIs (by rw[Ap];kernel_rfl) ?_)
 refine Ab ?_;rw[Ac (by decide)]
 refine Ab ⟨plainId_quiet F.plain_extend_loop _,codeAny_extend_loopS (Walks.listRev (A:=A.in1) B r l U items).toS hn S m res items.size 0 _ _ _ rfl (Bv _) ⟨Bv _,by simpa using y,P⟩ Q (ItemsOf.nil _) λs' acc' c' j c k=>?_⟩
 rw[Moved.eq_with j]
 refine hR s'.heap s'.toks acc' c' (λb ob D X e=>j.heap b ob (λhmem=>?_) e) c k
 rcases Aa1.mp hmem with e' | hmem
 .exact D e'
 .exact X (Ad8.mp hmem)
theorem aG7 {R:Result->Shared->Prop}(Q:A.handled=none){r l:Addr}{items:AJ}(J:s.heap.IsRevIter r l ((items.size:Int)-1))(F:s.heap.IsList l items)(M:l≠r)(S:Addr)(k:S≠r)(z:S≠l)(m:s.heap.get? S=some {cls:=.type "list",data:=.seq #[]})
  (hR:∀h' tk acc' c',(∀b o,b≠S->b≠r->s.heap.get? b=some o->h'.get? b=some o)->h'.get? S=some {cls:=.type "list",dict:=none,data:=.seq acc' c',slots := #[]} ->
   ItemsOf (λi v=>items[items.size-1-i]? = some v) acc' items.size->R (.ok (.ret .none)) {s with heap:=h',toks:=tk}) (B:items.size<=sizeLine) :
  wpAny (model prog w) A.in1 (Builtin.«list.__init__» ⟨[.ref S,.ref r],[]⟩)
   (λfin s'=>match fin with | .done f=>R (.ok f) s' | .again c'=>c'.quiet=true/\codeAny (model prog w) A c' R s') (λe s'=>R (.error e) s') s:=by
 show wpAny _ _ (do let N <- Builtin.List.listItems (.ref S);Builtin.List.listUpdate (.ref S) (λ_ => #[]);letGo N.toList.reverse;Builtin.List.listExtendWith (.ref S) (.ref r) .none) _ _ s
 refine Aa ?_;unfold Builtin.List.listItems;refine Aa (wpAny_seqItems m rfl (Ab ?_));show wpAny _ _ (updateSeq S (λ_ => #[]) >>= λ_=>letGo (#[]:AJ).toList.reverse >>= λ_=>Builtin.List.listExtendWith (.ref S) (.ref r) .none) _ _ s
 refine Aa (wpAny_updateSeq m rfl ?_);have X:=Bw (Obj.mapSeq (λ_=>(#[]:AJ))) m rfl
 have y:∀b o,b≠S->s.heap.get? b=some o->(s.heap.update S (Obj.mapSeq (λ_=>(#[]:AJ)))).get? b=some o:=
  λb o c e=>(Au _ _ (Ne.symm c)).trans e
 refine Aa (wpAny_letGo ?_);refine aR8 Q (s:={s with heap:=s.heap.update S (Obj.mapSeq (λ_=>(#[]:AJ)))}) (J.at λo e=>y r o k.symm e) (F.at λo e=>y l o z.symm e) M S k z .none _ X (λh' tk acc' c' D Y j=>?_) B
 exact hR h' tk acc' c' (λb o c U e=>D b o c U (y b o c e)) Y j
theorem bA2 {Q:Dy}{r l:Addr}{items:AJ}(M:A.handled=none)(z:s.heap.IsRevIter r l ((items.size:Int)-1))(Y:s.heap.IsList l items)(c:l≠r)(R:items.size<=sizeLine)
  (U:∀h' tk acc' c',(∀b o,b≠r->s.heap.get? b=some o->h'.get? b=some o) ->
   h'.get? s.heap.objs.size=some {cls:=.type "list",dict:=none,data:=.seq acc' c',slots := #[]}->ItemsOf (λi v=>items[items.size-1-i]? = some v) acc' items.size->Q (.ref s.heap.objs.size) {s with heap:=h',toks:=tk}) :
  wpAny (model prog w) A (call (.type "list") [.ref r]) Q E s:=by
 refine callType_codes (Q₁:=λk X=>k=.ref s.heap.objs.size/\X={s with heap:=s.heap.push {cls:=.type "list",data:=.seq #[]}}) F.called_list (F.typeCall_list_1 _) F.entry_list_init
  (code_list_new _ ⟨rfl,rfl⟩) λk X D=>?_
 obtain⟨rfl,rfl⟩:=D;have m:(s.heap.push {cls:=.type "list",data:=.seq #[]}).get? s.heap.objs.size=some {cls:=.type "list",data:=.seq #[]}:=Ac3 _ rfl;have P:s.heap.objs.size≠r:=by obtain⟨o,e,_⟩:=z;exact(Ab9 (Ab3 e)).symm
 have B:s.heap.objs.size≠l:=by obtain⟨o,e,_⟩:=Y;exact(Ab9 (Ab3 e)).symm
 refine⟨⟨_,m,rfl⟩,F.args_list_init_2 _ _,aG7 (A:=A.in1) M (s:={s with heap:=s.heap.push {cls:=.type "list",data:=.seq #[]}}) (z.at λo e=>Aa6 _ e) (Y.at λo e=>Aa6 _ e) c _ P B m (λh' tk acc' c' N j y=>?_) R⟩
 exact⟨rfl,U h' tk acc' c' (λb o J e=>N b o (Ab9 (Ab3 e)) J (Aa6 _ e)) j y⟩
end
end PySem
namespace LV
open PySem PySem.Spec PyProof.Rows L2
section
def cH6 (K:Frag)(te:TE):TE:=λσ H Q=>te σ H λx H1=>∃p ys,x=.ref p/\SqL K H1 p ys/\∀l,H1 l=none->Q (.ref l) (upd H1 l (.lst ys.reverse))
theorem bX6 (K:Frag)(hc:X.calm=true)(D:Gl X "list")(hm1:X.mg "list" = none)(F:Gl X "reversed")(hm2:X.mg "reversed" = none)(he:PE X e te)(hK:X.K=K:=by rfl)
  (Y:starEach [e] X.env=[(false,eval e X.env)]:=by rfl) (U:starEach [Expr.Call (.Name "reversed" p2) [e] [] pos2] X.env=[(false,eval (Expr.Call (.Name "reversed" p2) [e] [] pos2) X.env)]:=by rfl) :
  PE X (.Call (.Name "list" p1) [.Call (.Name "reversed" p2) [e] [] pos2] [] pos1) (cH6 K te):=by
 subst hK;refine⟨?_⟩;intro N s σ H Q I h;refine wpAny_Call_Name_kw (t8 I D hm1 boot_list ?_);refine Bj ?_ (by rw[U];rfl) rfl
 rw[U];show wpAny _ _ (spliced [(false,eval (Expr.Call (.Name "reversed" p2) [e] [] pos2) X.env)]) _ _ s;refine Calls.spliced_cons ?_;refine wpAny_Call_Name_kw (t8 I F hm2 boot_reversed ?_);refine Bj ?_ (by rw[Y];rfl) rfl
 rw[Y];show wpAny _ _ (spliced [(false,eval e X.env)]) _ _ s;refine Calls.spliced_cons (thn (he N s σ H _ I h) λu k pz=>?_)
 obtain⟨x,H1,m,r1,p,ys,M,hq,q⟩:=pz;subst M;cases r1;refine Calls.spliced_nil ?_;obtain⟨its,rv,pl,c⟩:=m.list hq;have z:=rv.length;have P:p<k.heap.objs.size:=by obtain⟨o,n,e,_⟩:=pl;exact Ab3 e
 refine call_reversed_list pl.isList ?_;refine Calls.spliced_nil ?_;have I2:Inv X N σ H1 {k with heap:=k.heap.push (revObj p ((its.toArray.size:Int)-1))}:=m.kept (t':=k.toks) λb o e=>Aa6 _ e
 refine bA2 (m.ok.hd hc) (r:=k.heap.objs.size) (items:=its.toArray) ⟨_,Ac3 _ rfl,rfl,rfl⟩ (pl.isList.at λo e=>Aa6 _ e) (Ab9 P) (by rw[Ab2];lia) λR tk y c' kp el it=>?_
 have rr:Vals ys.reverse y.toList:=by
  obtain⟨c,B⟩:=it;have c:y.size=its.length:=by simpa using c
  refine bP8 (by simp[c,z]) λj v u M e2=>?_
  have hj:j<its.length:=by
   have:=(Ab0.mp e2).1
   simpa[c]using this
  have hu:=B j u (by simpa using e2)
  rw[List.getElem?_reverse (by lia),z]at M
  obtain⟨u',h1,h2⟩:=rv.get M;simp only[Ab2]at hu;have J:its[its.length-1-j]? = some u:=by simpa using hu
  rw[h1]at J;cases J;exact h2
 have kp':∀b o,k.heap.get? b=some o->R.get? b=some o:=λb o e=>kp b o (Ab9 (Ab3 e)) (Aa6 _ e)
 have I3:Inv X N σ (upd H1 (k.heap.push (revObj p ((its.toArray.size:Int)-1))).objs.size (.lst ys.reverse)) {k with heap:=R,toks:=tk}:=
  m.laid kp' (by rw[By];exact Nat.le_succ _) (show ObjOk X.prog X.w _ R _ (.lst _) from⟨by rw[Ae2];exact c,y.toList,c',rr,by simpa using el⟩)
 exact⟨.ref _,_,I3,rfl,q _ (m.hok.fresh (by rw[By];exact Nat.le_succ _))⟩
end
section
theorem cJ0 {s:Shared}{h':Heap}{o:Obj}(y:∀b x,b∉[s.heap.objs.size]->(s.heap.push o).get? b=some x->h'.get? b=some x):∀b x,s.heap.get? b=some x->h'.get? b=some x:=
 λb x e=>y b x (λw=>by rw[Ad8.mp w]at e;exact Ad9 _ (Ab3 e)) (Aa6 _ e)
theorem cJ3 {bs:List Bool}{its:AG}(r:Vals (bs.map V.bl) its){i:Nat}{v:Value}(e:its[i]? = some v):∃b,bs[i]? = some b/\v=.bool b:=by
 have w:=r.length
 rw[Aa3]at w;have hi:i<bs.length:=by have:=(Ab0.mp e).1;lia
 obtain⟨u,h1,y⟩:=r.get (i:=i) (x:=.bl bs[i]) (by rw[Aa9,Aa2 hi];rfl)
 rw[e]at h1;cases h1;exact⟨_,Aa2 hi,y⟩
theorem aF1 (K:Frag)(c:X.calm=true)(h:X.K=K:=by rfl):R4 X (.builtin "all") (λxs H Q=>∃(p:Addr) (l:List Bool),xs=[.ref p]/\SqL K H p (l.map V.bl)/\Q (.bl (l.all id)) H):=by
 subst h;intro R s σ H xs P Q I r ⟨p,l,e,Y,q⟩;subst e;obtain⟨u,rfl,J⟩:=S0 r;cases J;obtain⟨its,k,U,_⟩:=I.list Y;have y:=U.isList;have w:p<s.heap.objs.size:=by obtain⟨_,e,_⟩:=y;exact Ab3 e
 refine call_all_walk (wpAny_pyIter_list y ?_);refine⟨s.heap.objs.size,[s.heap.objs.size,p],[s.heap.objs.size],its.toArray.size,_,_,λi=>(l[i]?).getD true,rfl,Walks.list (A:=X.A.in1) (I.ok.hd c) _ p (Ab9 w) its.toArray,
  ⟨⟨_,Ac3 _ rfl,rfl,rfl⟩,y.push _⟩,λi v F N M j z=>?_,λD B m=>?_⟩
 .obtain⟨b,e,rfl⟩:=cJ3 k (i:=i) (v:=v) (by simpa using j)
  simp only[e,Option.getD_some]at z;exact wpAny_truthy_bool z
 .have e:((List.range its.toArray.size).all λi=>(l[i]?).getD true)=l.all id:=by
   have:=k.length
   rw[Aa3]at this;rw[Ab2,<- this];exact LSm.range_all l
  rw[e];exact⟨.bl _,H,I.kept (cJ0 m),rfl,q⟩
theorem aR3 (K:Frag)(c:X.calm=true)(h:X.K=K:=by rfl):R4 X (.builtin "any") (λxs H Q=>∃(p:Addr) (l:List Bool),xs=[.ref p]/\SqL K H p (l.map V.bl)/\Q (.bl (l.any id)) H):=by
 subst h;intro R s σ H xs P Q I r ⟨p,l,e,Y,q⟩;subst e;obtain⟨u,rfl,J⟩:=S0 r;cases J;obtain⟨its,k,U,_⟩:=I.list Y;have y:=U.isList;have w:p<s.heap.objs.size:=by obtain⟨_,e,_⟩:=y;exact Ab3 e
 refine call_any_walk (wpAny_pyIter_list y ?_);refine⟨s.heap.objs.size,[s.heap.objs.size,p],[s.heap.objs.size],its.toArray.size,_,_,λi=>(l[i]?).getD false,rfl,Walks.list (A:=X.A.in1) (I.ok.hd c) _ p (Ab9 w) its.toArray,
  ⟨⟨_,Ac3 _ rfl,rfl,rfl⟩,y.push _⟩,λi v F N M j z=>?_,λD B m=>?_⟩
 .obtain⟨b,e,rfl⟩:=cJ3 k (i:=i) (v:=v) (by simpa using j)
  simp only[e,Option.getD_some]at z;exact wpAny_truthy_bool z
 .have e:((List.range its.toArray.size).any λi=>(l[i]?).getD false)=l.any id:=by
   have:=k.length
   rw[Aa3]at this;rw[Ab2,<- this];exact LSm.range_any l
  rw[e];exact⟨.bl _,H,I.kept (cJ0 m),rfl,q⟩
theorem cN9 (K:Frag)(Y:X.calm=true)(h:X.K=K:=by rfl):R4 X (.type "set") (λxs H Q=>∃(p:Addr) (l:AD),xs=[.ref p]/\SqL K H p (l.map V.int)/\l.length<500/\∀a,H a=none->Q (.ref a) (upd H a (.set (λk=>(firstMet (λi=>l.getD i 0) l.length).any (· == k)) (firstMet (λi=>l.getD i 0) l.length).length))):=by
 subst h;intro R s σ H xs B Q I r ⟨p,l,e,J,D,q⟩;subst e;obtain⟨u,rfl,N⟩:=S0 r;cases N;obtain⟨its,j,M,_⟩:=I.list J;have y:=j.length;rw[Aa3]at y;refine call_set_list (items:=its.toArray) (ns:=l) (I.ok.hd Y) M.isList (by simpa using R7 j) (by rw[Ab2,<- y];unfold PySem.scanBound;lia) λm F z U=>?_
 have c:its.toArray.size=l.length:=by simp[y]
 rw[c]at z;exact⟨.ref _,_,I.laid (λb o e=>U b o (Ab3 e) e) (Aa7 _) (show ObjOk X.prog X.w _ m _ (.set _ _) from z),rfl,q _ (I.hok.fresh (Aa7 _))⟩
end
theorem aH4:R4 X (.builtin "len") (λxs H Q=>∃a S n,xs=[.ref a]/\H a=some (.set S n)/\Q (.int n) H):=by
 intro Y s σ H xs M Q I r ⟨a,S,n,e,c,q⟩;subst e;obtain⟨u,rfl,m⟩:=S0 r;cases m;obtain⟨o,J,U,t,h1,y,w,_,_,z,k,j⟩:=I.hok a _ c;subst j;exact call_len_set h1 y w k (by unfold PySem.scanBound at z;lia) ⟨.int _,H,I.tok _,⟨_,rfl⟩,q⟩
end LV
namespace LS
open PySem PySem.W PyProof.Rows
def ev {α:Type}(lt:Nat->Nat->Bool):KasT α->α
 | .ret a=>a
 | .ask i j k=>ev lt (k (lt i j))
theorem l5 (lt:Nat->Nat->Bool)(f:α->KasT β):∀t:KasT α,ev lt (t.bind f)=ev lt (f (ev lt t))
 | .ret _=>rfl
 | .ask i j k=>l5 lt f (k (lt i j))
def T7 {α:Type}(lt:Nat->Nat->Bool)(P:Nat->Prop):KasT α->Prop
 | .ret _=>True
 | .ask i j k=>P i/\P j/\T7 lt P (k (lt i j))
theorem U1 {α β:Type}{lt:Nat->Nat->Bool}{P:Nat->Prop}{f:α->KasT β}:∀{t:KasT α},T7 lt P t->T7 lt P (f (ev lt t))->T7 lt P (t.bind f)
 | .ret _,_,h=>h
 | .ask _ _ _,⟨h1,e,y⟩,h=>⟨h1,e,U1 y h⟩
theorem dP8
  (e:∀i j C,P i->P j->C (lt i j) s->cmp i j C s):∀(t:KasT α),T7 lt P t->Q (ev lt t) s->t.kasWp cmp Q s
 | .ret _,_,h=>h
 | .ask i j k,⟨h1,y,w⟩,h=>e i j _ h1 y (dP8 e (k (lt i j)) w h)
structure Ord (lt:Nat->Nat->Bool):Prop where
 asym:∀a b,lt a b=true->lt b a=false
 trans:∀a b c,lt b a=false->lt c b=false->lt c a=false
section
def g (p:Array Nat)(i:Nat):Nat:=p.getD i 0
theorem bG0:g p i=(p[i]?).getD 0:=by unfold g;simp[Array.getD_eq_getD_getElem?]
abbrev le (lt:Nat->Nat->Bool)(a b:Nat):Prop:=lt b a=false
theorem Ord.refl (O:Ord lt)(a:Nat):le lt a a:=by
 cases h:lt a a with
 | false=>exact h
 | true=>exact O.asym a a h
theorem Ord.of_lt (O:Ord lt)(h:lt a b=true):le lt a b:=O.asym a b h
def Srt (lt:Nat->Nat->Bool)(p:Array Nat)(k:Nat):Prop:=∀i j,i<=j->j<k->le lt (g p i) (g p j)
def Dsc (lt:Nat->Nat->Bool)(p:Array Nat)(k:Nat):Prop:=∀i j,i<=j->j<k->le lt (g p j) (g p i)
theorem bG2 {p:Array Nat}{i j:Nat}(e:j<=p.size)(k:Nat):g (kas_rev p i j) k=if i<=k/\k<j then g p (i+j-1-k) else g p k:=by
 unfold kas_rev;rw[bG0,getElem?_mirror_all e,bG0,bG0];split <;> rfl
theorem eJ8 {p:Array Nat}{k l:Nat}(e:k<p.size)(y:l<=k)(i:Nat):g (bubble p k (k-l)) i=if i=l then g p k else if l<i/\i<=k then g p (i-1) else g p i:=by
 rw[bG0,getElem?_bubble e _ (by lia),bG0,bG0,bG0,show k-(k-l)=l by lia]
 repeat' split
 all_goals rfl
theorem bM1 (O:Ord lt):∀(f n:Nat),1<=n->n+f<=N->Srt lt p n->∃m,ev lt (kas_asc p f n)=m/\n<=m/\m<=n+f/\Srt lt p m/\(m<n+f->lt (g p m) (g p (m-1))=true)/\T7 lt (λi=>∃j,j<N/\i=g p j) (kas_asc p f n)
 | 0,n,h1,hN,h=>⟨n,rfl,Aa7 _,Aa7 _,h,λz=>absurd z (Ad9 _),trivial⟩
 | f+1,n,h1,hN,h=>by
  cases y:lt (g p n) (g p (n-1)) with
  | true=>
   refine⟨n,?_,Aa7 _,by lia,h,λ_=>y,⟨n,by lia,rfl⟩,⟨n-1,by lia,rfl⟩,?_⟩
   .show ev lt (if lt (g p n) (g p (n-1))=true then KasT.ret n else kas_asc p f (n+1))=n
    rw[y];rfl
   .show T7 lt _ (if lt (g p n) (g p (n-1))=true then KasT.ret n else kas_asc p f (n+1))
    rw[y];exact trivial
  | false=>
   have X:Srt lt p (n+1):=λi j w M=>by
    by_cases e:j=n
    .subst e;by_cases Y:i=j
     .subst Y;exact O.refl _
     .exact O.trans _ _ _ (h i (j-1) (by lia) (by lia)) y
    .exact h i j w (by lia)
   obtain⟨m,e,U,J,k,c,s⟩:=bM1 O (N:=N) f (n+1) (by lia) (by lia) X
   refine⟨m,?_,by lia,by lia,k,λz=>c (by lia),⟨n,by lia,rfl⟩,⟨n-1,by lia,rfl⟩,?_⟩
   .show ev lt (if lt (g p n) (g p (n-1))=true then KasT.ret n else kas_asc p f (n+1))=m
    rw[y];exact e
   .show T7 lt _ (if lt (g p n) (g p (n-1))=true then KasT.ret n else kas_asc p f (n+1))
    rw[y];exact s
def Same (lt:Nat->Nat->Bool)(p:Array Nat)(n q:Nat):Prop:=q<n/\∀i j,n-1-q<=i->i<n->n-1-q<=j->j<n->le lt (g p i) (g p j)
theorem cL6 (O:Ord lt){p:Array Nat}{n q:Nat}(U:n<=p.size)(h:Dsc lt p n)(y:Same lt p n q):Dsc lt (kas_rev p (n-(q+1)) n) n/\(∀k,n<=k->g (kas_rev p (n-(q+1)) n) k=g p k)/\Same lt (kas_rev p (n-(q+1)) n) n q:=by
 obtain⟨J,y⟩:=y;have e:∀k,g (kas_rev p (n-(q+1)) n) k=if n-(q+1)<=k/\k<n then g p (n-(q+1)+n-1-k) else g p k:=bG2 U;have w:∀k,k<n->le lt (g (kas_rev p (n-(q+1)) n) k) (g p k)/\le lt (g p k) (g (kas_rev p (n-(q+1)) n) k):=λk X=>by
  rw[e];split
  .exact⟨y _ _ (by lia) (by lia) (by lia) (by lia),y _ _ (by lia) (by lia) (by lia) (by lia)⟩
  .exact⟨O.refl _,O.refl _⟩
 refine⟨λi j z m=>?_,λk X=>by rw[e,Ac (by lia)],J,λi j h1 c Y s=>?_⟩
 .exact O.trans _ _ _ (w j m).1 (O.trans _ _ _ (h i j z m) (w i (by lia)).2)
 .exact O.trans _ _ _ (w i c).1 (O.trans _ _ _ (y i j h1 c Y s) (w j s).2)
theorem aE2 (O:Ord lt)(h1:1<=n)(h:Dsc lt p n)(z:le lt (g p n) (g p (n-1))):Dsc lt p (n+1):=λi j y k=>by
 by_cases e:j=n
 .subst e;by_cases w:i=j
  .subst w;exact O.refl _
  .exact O.trans _ _ _ z (h i (j-1) (by lia) (by lia))
 .exact h i j y (by lia)
theorem aW4 (O:Ord lt):∀(f:Nat) (p:Array Nat) (n q:Nat),1<=n->n+f<=N->N<=p.size->(∀j,j<N->P (g p j))->Dsc lt p n->Same lt p n q ->
  ∃p' m q',ev lt (kas_desc f p n q)=(p',m,q')/\p'.Perm p/\n<=m/\m<=n+f/\Dsc lt p' m/\Same lt p' m q'/\(∀j,j<N->P (g p' j))/\T7 lt P (kas_desc f p n q)
 | 0,p,n,q,h1,hN,hz,hP,h,y=>⟨p,n,q,rfl,Array.Perm.refl _,Aa7 _,Aa7 _,h,y,hP,trivial⟩
 | f+1,p,n,q,h1,hN,hz,hP,h,y=>by
  have sh:∀c:Bool,lt (g p n) (g p (n-1))=c->ev lt (kas_desc (f+1) p n q)=ev lt (if c=true then(if q>0 then kas_desc f (kas_rev p (n-(q+1)) n) (n+1) 0 else kas_desc f p (n+1) 0)
    else .ask (g p (n-1)) (g p n) λd=>if d=true then .ret (p,n,q) else kas_desc f p (n+1) (q+1)):=λc e=>by subst e;rfl
  have w:∀c:Bool,lt (g p n) (g p (n-1))=c->T7 lt P (if c=true then(if q>0 then kas_desc f (kas_rev p (n-(q+1)) n) (n+1) 0 else kas_desc f p (n+1) 0)
    else .ask (g p (n-1)) (g p n) λd=>if d=true then .ret (p,n,q) else kas_desc f p (n+1) (q+1))->T7 lt P (kas_desc (f+1) p n q):=λc e hh=>by subst e;exact⟨hP n (by lia),hP (n-1) (by lia),hh⟩
  cases z:lt (g p n) (g p (n-1)) with
  | true=>
   rw[sh true z,Ae rfl];have w:=w true z;rw[Ae rfl]at w;by_cases Q:q>0
   .rw[Ae Q]at w ⊢;obtain⟨d1,d2,d3⟩:=cL6 O (by lia) h y
    have hl:le lt (g (kas_rev p (n-(q+1)) n) n) (g (kas_rev p (n-(q+1)) n) (n-1)):=by
     rw[d2 n (Aa7 _),bG2 (by lia),Ae (by lia)]
     exact O.trans _ _ _ (O.of_lt z) (y.2 _ _ (by lia) (by lia) (by have:=y.1;lia) (by have:=y.1;lia))
    obtain⟨p',m,q',s,Y,D,F,X,U,J,M⟩:=aW4 O (P:=P) (N:=N) f (kas_rev p (n-(q+1)) n) (n+1) 0 (by lia) (by lia) (by unfold kas_rev;rw[mirror_size];exact hz) (λj hj=>by
     rw[bG2 (by lia)]
     split
     .exact hP _ (by have:=y.1;lia)
     .exact hP j hj) (aE2 O h1 d1 hl) ⟨by lia,λi j B R b3 b4=>by
      have:i=j:=by lia
      subst this;exact O.refl _⟩
    exact⟨p',m,q',s,Y.trans (mirror_perm _ _ _ _),by lia,by lia,X,U,J,w M⟩
   .rw[Ac Q]at w ⊢;obtain⟨p',m,q',s,Y,D,F,X,U,J,M⟩:=aW4 O (P:=P) (N:=N) f p (n+1) 0 (by lia) (by lia) hz hP (aE2 O h1 h (O.of_lt z)) ⟨by lia,λi j B R b3 b4=>by
      have:i=j:=by lia
      subst this;exact O.refl _⟩
    exact⟨p',m,q',s,Y,by lia,by lia,X,U,J,w M⟩
  | false=>
   rw[sh false z,Ac Ak];have w:=w false z;rw[Ac Ak]at w;cases k:lt (g p (n-1)) (g p n) with
   | true=>
    refine⟨p,n,q,?_,Array.Perm.refl _,Aa7 _,by lia,h,y,hP,w ⟨hP _ (by lia),hP _ (by lia),?_⟩⟩
    .show ev lt (if lt (g p (n-1)) (g p n)=true then _ else _)=_
     rw[k];rfl
    .show T7 lt P (if lt (g p (n-1)) (g p n)=true then _ else _)
     rw[k];exact trivial
   | false=>
    obtain⟨Q,y⟩:=y;have s':Same lt p (n+1) (q+1):=⟨by lia,λi j B R b3 b4=>by
     have up:∀i,n-1-q<=i->i<n+1->le lt (g p i) (g p (n-1))/\le lt (g p (n-1)) (g p i):=λi c1 c2=>by
      by_cases e:i=n
      .subst e;exact⟨k,z⟩
      .exact⟨y i (n-1) c1 (by lia) (by lia) (by lia),y (n-1) i (by lia) (by lia) c1 (by lia)⟩
     exact O.trans _ _ _ (up i (by lia) R).1 (up j (by lia) b4).2⟩
    obtain⟨p',m,q',s,Y,D,F,X,U,J,M⟩:=aW4 O (P:=P) (N:=N) f p (n+1) (q+1) (by lia) (by lia) hz hP (aE2 O h1 h k) s'
    refine⟨p',m,q',?_,Y,by lia,by lia,X,U,J,w ⟨hP _ (by lia),hP _ (by lia),?_⟩⟩
    .show ev lt (if lt (g p (n-1)) (g p n)=true then _ else _)=_
     rw[k];exact s
    .show T7 lt P (if lt (g p (n-1)) (g p n)=true then _ else _)
     rw[k];exact M
theorem dQ0 (O:Ord lt)(e:∀j,j<N->P (g p j))(h1:1<=n)(y:n+f<=N)(h:Srt lt p n):T7 lt P (kas_asc p f n):=by
 obtain⟨_,_,_,_,_,_,a⟩:=bM1 O f n h1 y h;have m:∀{α:Type} (t:KasT α),T7 lt (λi=>∃j,j<N/\i=g p j) t->T7 lt P t:=λ{α} t=>by
  induction t with
  | ret _=>exact λz=>z
  | ask i j k s=>
   rintro⟨⟨a,w,rfl⟩,⟨b,c,rfl⟩,z⟩;exact⟨e a w,e b c,s _ z⟩
 exact m _ a
theorem bV0 (O:Ord lt){P:Nat->Prop}{p:Array Nat}{n N:Nat}(h1:1<=n)(M:n<=N)(R:N<=p.size)(w:∀j,j<N->P (g p j))(h:Dsc lt p n) :
  ∃m p',ev lt (kas_tail3 n N p)=(m,p')/\p'.Perm p/\1<=m/\m<=N/\Srt lt p' m/\(∀j,j<N->P (g p' j))/\T7 lt P (kas_tail3 n N p):=by
 have e:∀k,g (kas_rev p 0 n) k=if 0<=k/\k<n then g p (0+n-1-k) else g p k:=bG2 (by lia)
 have s:Srt lt (kas_rev p 0 n) n:=λi j X z=>by
  rw[e,e,Ae (by lia),Ae (by lia)]
  exact h _ _ (by lia) (by lia)
 have y:∀j,j<N->P (g (kas_rev p 0 n) j):=λj z=>by
  rw[e];split
  .exact w _ (by lia)
  .exact w j z
 obtain⟨m,c,U,J,Y,_,_⟩:=bM1 O (p:=kas_rev p 0 n) (N:=N) (N-n) n h1 (by lia) s
 refine⟨m,kas_rev p 0 n,?_,mirror_perm _ _ _ _,by lia,by lia,Y,y,U1 (dQ0 O y h1 (by lia) s) trivial⟩
 unfold kas_tail3;rw[l5,c];rfl
theorem aU0 (O:Ord lt){P:Nat->Prop}{p:Array Nat}{n N:Nat}(h1:1<=n)(hn:n+1<=N)(hz:N<=p.size)(hP:∀j,j<N->P (g p j))(h:Dsc lt p (n+1)) :
  ∃m p',ev lt (kas_descPart n N p)=(m,p')/\p'.Perm p/\1<=m/\m<=N/\Srt lt p' m/\(∀j,j<N->P (g p' j))/\T7 lt P (kas_descPart n N p):=by
 obtain⟨Y,y,e,w,X,a2,a3,D,F,U,B⟩:=aW4 O (P:=P) (N:=N) (N-(n+1)) p (n+1) 0 (by lia) (by lia) hz hP h ⟨by lia,λi j z k c b4=>by
  have:i=j:=by lia
  subst this;exact O.refl _⟩
 have z1:N<=Y.size:=by rw[X.size_eq];exact hz
 unfold kas_descPart;by_cases s:e>0
 .obtain⟨d1,d2,d3⟩:=cL6 O (by lia) D F
  have Q:∀j,j<N->P (g (kas_rev Y (y-(e+1)) y) j):=λj hj=>by
   rw[bG2 (by lia)]
   split
   .exact U _ (by have:=F.1;lia)
   .exact U j hj
  obtain⟨m,p',J,z,k,c,b4,M,R⟩:=bV0 O (P:=P) (p:=kas_rev Y (y-(e+1)) y) (n:=y) (N:=N) (by lia) (by lia) (by unfold kas_rev;rw[mirror_size];exact z1) Q d1
  refine⟨m,p',?_,z.trans ((mirror_perm _ _ _ _).trans X),k,c,b4,M,U1 B ?_⟩
  .rw[l5,w];show ev lt (if e>0 then _ else _)=_;rw[Ae s];exact J
  .rw[w];show T7 lt P (if e>0 then _ else _);rw[Ae s];exact R
 .obtain⟨m,p',J,z,k,c,b4,M,R⟩:=bV0 O (P:=P) (p:=Y) (n:=y) (N:=N) (by lia) (by lia) z1 U D
  refine⟨m,p',?_,z.trans X,k,c,b4,M,U1 B ?_⟩
  .rw[l5,w];show ev lt (if e>0 then _ else _)=_;rw[Ac s];exact J
  .rw[w];show T7 lt P (if e>0 then _ else _);rw[Ac s];exact R
theorem cT8 (O:Ord lt){P:Nat->Prop}{p:Array Nat}{N:Nat}(h1:1<=N)(hz:N<=p.size)(y:∀j,j<N->P (g p j)) :
  ∃m p',ev lt (kas_count N p)=(m,p')/\p'.Perm p/\1<=m/\m<=N/\Srt lt p' m/\(∀j,j<N->P (g p' j))/\T7 lt P (kas_count N p):=by
 have s1:Srt lt p 1:=λi j Y w=>by
  have:i=j:=by lia
  subst this;exact O.refl _
 obtain⟨n,a0,U,a2,J,a4,_⟩:=bM1 O (p:=p) (N:=N) (N-1) 1 (by lia) (by lia) s1
 have aP:=dQ0 O y (f:=N-1) (n:=1) (by lia) (by lia) s1
 unfold kas_count;have X:∀{t:KasT (Nat×Array Nat)},(if(n==N)=true then KasT.ret (n,p) else if n>1 then .ask (p.getD 0 0) (p.getD (n-1) 0) λc=>if c=true then .ret (n,p) else kas_descPart n N (kas_rev p 0 n) else kas_descPart n N p)=t ->
   (∃m p',ev lt t=(m,p')/\p'.Perm p/\1<=m/\m<=N/\Srt lt p' m/\(∀j,j<N->P (g p' j))/\T7 lt P t) ->
   ∃m p',ev lt ((kas_asc p (N-1) 1).bind λn=>if(n==N)=true then .ret (n,p) else if n>1 then .ask (p.getD 0 0) (p.getD (n-1) 0) λc=>if c=true then .ret (n,p) else kas_descPart n N (kas_rev p 0 n) else kas_descPart n N p)=(m,p')/\p'.Perm p/\1<=m/\m<=N/\Srt lt p' m/\(∀j,j<N->P (g p' j)) /\
    T7 lt P ((kas_asc p (N-1) 1).bind λn=>if(n==N)=true then .ret (n,p) else if n>1 then .ask (p.getD 0 0) (p.getD (n-1) 0) λc=>if c=true then .ret (n,p) else kas_descPart n N (kas_rev p 0 n) else kas_descPart n N p):=λ{t} e h=>by
  obtain⟨m,p',M,R,Q,D,b4,F,B⟩:=h;refine⟨m,p',?_,R,Q,D,b4,F,U1 aP ?_⟩
  .rw[l5,a0,e];exact M
  .rw[a0,e];exact B
 refine X rfl ?_;by_cases e:n=N
 .rw[Ae (by simp[e])]
  exact⟨n,p,rfl,Array.Perm.refl _,U,by lia,J,y,trivial⟩
 .rw[Ac (by simp[e])]
  have hd:=a4 (by lia)
  by_cases h2:n>1
  .rw[Ae h2];cases s:lt (g p 0) (g p (n-1)) with
   | true=>
    refine⟨n,p,?_,Array.Perm.refl _,U,by lia,J,y,y 0 (by lia),y (n-1) (by lia),?_⟩
    .show ev lt (if lt (g p 0) (g p (n-1))=true then _ else _)=_
     rw[s];rfl
    .show T7 lt P (if lt (g p 0) (g p (n-1))=true then _ else _)
     rw[s];exact trivial
   | false=>
    have al:∀i j,i<n->j<n->le lt (g p i) (g p j):=λi j hi w=>O.trans _ _ _ (J i (n-1) (by lia) (by lia)) (O.trans _ _ _ s (J 0 j (by lia) w))
    have z:∀k,g (kas_rev p 0 n) k=if 0<=k/\k<n then g p (0+n-1-k) else g p k:=bG2 (by lia)
    have ds:Dsc lt (kas_rev p 0 n) (n+1):=by
     refine aE2 O U (λi j Y w=>?_) ?_
     .rw[z,z,Ae (by lia),Ae (by lia)]
      exact al _ _ (by lia) (by lia)
     .rw[z,z,Ac (by lia),Ae (by lia)]
      exact O.trans _ _ _ (O.of_lt hd) (al _ _ (by lia) (by lia))
    have hP':∀j,j<N->P (g (kas_rev p 0 n) j):=λj w=>by
     rw[z];split
     .exact y _ (by lia)
     .exact y j w
    obtain⟨m,p',M,R,Q,D,b4,F,B⟩:=aU0 O (P:=P) (p:=kas_rev p 0 n) (n:=n) (N:=N) U (by lia) (by unfold kas_rev;rw[mirror_size];exact hz) hP' ds
    refine⟨m,p',?_,R.trans (mirror_perm _ _ _ _),Q,D,b4,F,y 0 (by lia),y (n-1) (by lia),?_⟩
    .show ev lt (if lt (g p 0) (g p (n-1))=true then _ else _)=_
     rw[s];exact M
    .show T7 lt P (if lt (g p 0) (g p (n-1))=true then _ else _)
     rw[s];exact B
  .rw[Ac h2];have n1:n=1:=by lia
   subst n1;exact aU0 O (Aa7 _) (by lia) hz y (aE2 O (Aa7 _) (λi j Y w=>by
    have:i=j:=by lia
    subst this;exact O.refl _) (O.of_lt hd))
theorem aZ9 (O:Ord lt)(c:k<N)(y:∀j,j<N->P (g p j))(s:Srt lt p k):∀(f l r:Nat),l<=r->r<=k->r-l<=f->(∀i,i<l->le lt (g p i) (g p k))->(∀i,r<=i->i<k->lt (g p k) (g p i)=true) ->
  ∃m,ev lt (kas_place p k f l r)=m/\m<=k/\(∀i,i<m->le lt (g p i) (g p k))/\(∀i,m<=i->i<k->lt (g p k) (g p i)=true)/\T7 lt P (kas_place p k f l r)
 | 0,l,r,h1,h2,h3,h4,h5=>⟨l,rfl,by lia,h4,λi a b=>h5 i (by lia) b,trivial⟩
 | f+1,l,r,h1,h2,h3,h4,h5=>by
  unfold kas_place;by_cases z:l≥r
  .rw[Ae z];exact⟨l,rfl,by lia,h4,λi a b=>h5 i (by lia) b,trivial⟩
  .rw[Ac z];cases w:lt (g p k) (g p ((l+r) / 2)) with
   | true=>
    obtain⟨m,Y,X,U,J,M⟩:=aZ9 O c y s f l ((l+r) / 2) (by lia) (by lia) (by lia) h4 (λi R Q=>by
     cases e:lt (g p k) (g p i) with
     | true=>rfl
     | false=>
      have:lt (g p k) (g p ((l+r) / 2))=false:=O.trans _ _ _ (s _ _ R Q) e
      rw[w]at this;cases this)
    refine⟨m,?_,X,U,J,y k c,y _ (by lia),?_⟩
    .show ev lt (if lt (g p k) (g p ((l+r) / 2))=true then _ else _)=_
     rw[w];exact Y
    .show T7 lt P (if lt (g p k) (g p ((l+r) / 2))=true then _ else _)
     rw[w];exact M
   | false=>
    obtain⟨m,Y,X,U,J,M⟩:=aZ9 O c y s f ((l+r) / 2+1) r (by lia) (by lia) (by lia) (λi R=>O.trans _ _ _ (s i ((l+r) / 2) (by lia) (by lia)) w) h5
    refine⟨m,?_,X,U,J,y k c,y _ (by lia),?_⟩
    .show ev lt (if lt (g p k) (g p ((l+r) / 2))=true then _ else _)=_
     rw[w];exact Y
    .show T7 lt P (if lt (g p k) (g p ((l+r) / 2))=true then _ else _)
     rw[w];exact M
theorem dA3 (O:Ord lt):∀(f:Nat) (p:Array Nat) (k:Nat),k+f=N->N<=p.size->(∀j,j<N->P (g p j))->Srt lt p k ->
  ∃p',ev lt (kas_bin f p k)=p'/\p'.Perm p/\Srt lt p' N/\T7 lt P (kas_bin f p k)
 | 0,p,k,hN,hz,hP,h=>⟨p,rfl,Array.Perm.refl _,(show k=N from hN)▸h,trivial⟩
 | f+1,p,k,hN,hz,hP,h=>by
  obtain⟨l,s,U,J,M,R⟩:=aZ9 O (k:=k) (N:=N) (by lia) hP h k 0 k (by lia) (by lia) (by lia) (λi z=>absurd z (Nat.not_lt_zero _)) (λi a b=>by lia)
  have e:∀i,g (bubble p k (k-l)) i=if i=l then g p k else if l<i/\i<=k then g p (i-1) else g p i:=eJ8 (by lia) U
  have s':Srt lt (bubble p k (k-l)) (k+1):=λi j c hj=>by
   rw[e,e];by_cases X:i=l
   .rw[Ae X];by_cases y:j=l
    .rw[Ae y];exact O.refl _
    .rw[Ac y,Ae (by lia)]
     exact O.of_lt (M _ (by lia) (by lia))
   .rw[Ac X];by_cases y:j=l
    .rw[Ae y,Ac (by lia)]
     exact J i (by lia)
    .rw[Ac y];by_cases m:l<i/\i<=k
     .rw[Ae m,Ae (by lia)]
      exact h _ _ (by lia) (by lia)
     .rw[Ac m];by_cases Y:l<j/\j<=k
      .rw[Ae Y];exact h _ _ (by lia) (by lia)
      .rw[Ac Y];exact h _ _ c (by lia)
  have w:∀j,j<N->P (g (bubble p k (k-l)) j):=λj hj=>by
   rw[e]
   repeat' split
   all_goals exact hP _ (by lia)
  obtain⟨p',Q,D,F,B⟩:=dA3 O (P:=P) (N:=N) f (bubble p k (k-l)) (k+1) (by lia) (by rw[bubble_size];exact hz) w s'
  refine⟨p',?_,D.trans (bubble_perm _ _ _),F,?_⟩
  .show ev lt ((kas_place p k k 0 k).bind λl=>kas_bin f (bubble p k (k-l)) (k+1))=p'
   rw[l5,s];exact Q
  .show T7 lt P ((kas_place p k k 0 k).bind λl=>kas_bin f (bubble p k (k-l)) (k+1))
   exact U1 R (by rw[s];exact B)
theorem dL1 (O:Ord lt)(h1:1<=N):∃p',ev lt (kas_sort N)=p'/\p'.Perm (List.toArray (List.range N))/\Srt lt p' N/\T7 lt (λi=>i<N) (kas_sort N):=by
 have R:∀j,j<N->g (List.toArray (List.range N)) j<N:=λj Q=>by
  rw[bG0];simp[Q]
 obtain⟨m,z,e,w,F,B,k,Y,c⟩:=cT8 O (P:=λi=>i<N) (p:=List.toArray (List.range N)) (N:=N) h1 (by simp) R
 have D:N<=z.size:=by rw[w.size_eq];simp
 unfold kas_sort;by_cases y:m<N
 .have s:max m 1=m:=by lia
  obtain⟨p',X,U,J,M⟩:=dA3 O (P:=λi=>i<N) (N:=N) (N-m) z m (by lia) D Y k
  refine⟨p',?_,U.trans w,J,U1 c ?_⟩
  .rw[l5,e];dsimp only;rw[Ae y,s];exact X
  .rw[e];dsimp only;rw[Ae y,s];exact M
 .have:m=N:=by lia
  refine⟨z,?_,w,this▸k,U1 c ?_⟩
  .rw[l5,e];dsimp only;rw[Ac y];rfl
  .rw[e];dsimp only;rw[Ac y];exact trivial
end
end LS
namespace LV
open PySem PySem.Spec PyProof.Rows L2 PySem.W Att
section
variable {P:Program}{w:World}{A:Around}{s:Shared}{Q:Bool->Shared->Prop}
theorem aL1 (a b:Int)(e bs:AD):HT.k8 (a::e) (b::bs)=if a=b then HT.k8 e bs else decide (a<b):=rfl
theorem aU7:∀{xs ys:AG} {as bs:AD} (i:Nat),IntsAre xs as->IntsAre ys bs->Q (HT.k8 as bs) s->KatLex P w A true (decide (as.length<bs.length)) Q (xs.zip ys) i s
 | _,_,_,_,i,.nil,.nil,h=>h
 | _,_,_,_,i,.nil,@IntsAre.cons n t vs ns r,h=>by
  have e:decide (([]:AD).length<(n::ns).length)=true:=by simp
  show Q (decide (([]:AD).length<(n::ns).length)) s
  rw[e];exact h
 | _,_,_,_,i,@IntsAre.cons n t vs ns r,.nil,h=>by
  have e:decide ((n::ns).length<([]:AD).length)=false:=by simp
  show Q (decide ((n::ns).length<([]:AD).length)) s
  rw[e];exact h
 | _,_,_,_,i,@IntsAre.cons a t xs as ra,@IntsAre.cons b u ys bs rb,h=>by
  rw[aL1]at h;refine kat_cons ?_;refine SeqAt.EqAt.int_int a t b u P w _ _ ?_;by_cases e:a=b
  .subst e;rw[Ae rfl]at h
   have:(a==a)=true:=by simp
   rw[this];refine kat_yes ?_;have e2:decide ((a::as).length<(a::bs).length)=decide (as.length<bs.length):=by simp
   rw[e2];exact aU7 (i+1) ra rb h
  .rw[Ac e]at h
   have:(a==b)=false:=by simpa using e
   rw[this];refine kat_no ?_;cases hb:(true&&i==0) with
   | true=>exact oneLt_int h
   | false=>exact kat_one _ _ (lt_int h)
theorem aZ3:∀a b:AD,HT.k8 a b=true->HT.k8 b a=false
 | [],[],h=>by cases h
 | [],_::_,_=>rfl
 | _::_,[],h=>by cases h
 | x::xs,y::ys,h=>by
  rw[aL1]at h ⊢;by_cases e:x=y
  .subst e;rw[Ae rfl]at h ⊢;exact aZ3 xs ys h
  .rw[Ac e]at h;rw[Ac (λz=>e z.symm)]
   have:=An h
   exact Aj (by lia)
def O2 (a b:AD):Prop:=HT.k8 b a=false
theorem aF8:∀a b c:AD,O2 a b->O2 b c->O2 a c
 | [],_,[],_,_=>rfl
 | [],_,_::_,_,_=>rfl
 | _::_,[],_,h,_=>by cases h
 | _::_,_::_,[],_,h=>by cases h
 | x::xs,y::ys,z::zs,h1,e=>by
  unfold O2 at *;rw[aL1]at *;by_cases j:y=x
  .subst j;rw[Ae rfl]at h1;by_cases k:z=y
   .subst k;rw[Ae rfl]at e ⊢;exact aF8 xs ys zs h1 e
   .rw[Ac k]at e ⊢;exact e
  .rw[Ac j]at h1;have h1:=Ao h1;by_cases k:z=y
   .subst k;rw[Ac j];exact Aj h1
   .rw[Ac k]at e;have e:=Ao e;rw[Ac (by lia)]
    exact Aj (by lia)
theorem bV9:∀a b:AD,O2 a b->O2 b a->a=b
 | [],[],_,_=>rfl
 | [],_::_,_,h=>by cases h
 | _::_,[],h,_=>by cases h
 | x::xs,y::ys,h1,k=>by
  unfold O2 at *;rw[aL1]at *;by_cases e:x=y
  .subst e;rw[Ae rfl]at h1 k;rw[bV9 xs ys h1 k]
  .rw[Ac (λz=>e z.symm)]at h1
   rw[Ac e]at k;have h1:=Ao h1;have k:=Ao k
   lia
theorem bK0 (a b:AD):O2 a b\/O2 b a:=by
 unfold O2;cases h:HT.k8 b a with
 | false=>exact .inl rfl
 | true=>exact .inr (aZ3 b a h)
theorem dK7 (ts:Nat->AD):LS.Ord λi j=>HT.k8 (ts i) (ts j):=
 ⟨λa b h=>aZ3 _ _ h,λa b c h1 e=>aF8 _ _ _ h1 e⟩
def TupsAt (h:Heap):AG->AB->Prop
 | [],[]=>True
 | v::vs,t::ts=>(∃a its,v=.ref a/\IsTup h a its/\IntsAre its.toList t/\t≠[])/\TupsAt h vs ts
 | _,_=>False
theorem TupsAt.length {h:Heap}:∀{vs:AG} {ts:AB},TupsAt h vs ts->vs.length=ts.length
 | [],[],_=>rfl
 | _::_,_::_,r=>by simp[TupsAt.length r.2]
 | [],_::_,r=>r.elim
 | _::_,[],r=>r.elim
theorem TupsAt.get {h:Heap}:∀{vs:AG} {ts:AB} {i:Nat},TupsAt h vs ts->i<ts.length->∃a its,vs.getD i .none=.ref a/\IsTup h a its/\IntsAre its.toList (ts.getD i [])
 | v::vs,t::ts,0,⟨⟨a,its,e,h1,h2,_⟩,_⟩,_=>⟨a,its,e,h1,h2⟩
 | v::vs,t::ts,i+1,⟨_,r⟩,hi=>TupsAt.get (i:=i) r (by simpa using hi)
 | [],[],_,_,hi=>by simp at hi
 | [],_::_,_,r,_=>r.elim
 | _::_,[],_,r,_=>r.elim
theorem TupsAt.keep:∀{vs:AG} {ts:AB},TupsAt h vs ts->(∀a its,Value.ref a∈vs->IsTup h a its->IsTup h' a its)->TupsAt h' vs ts
 | [],[],_,_=>trivial
 | v::vs,t::ts,⟨⟨a,its,e,h1,h2,h3⟩,r⟩,k=>⟨⟨a,its,e,k a its (by rw[e];simp) h1,h2,h3⟩,r.keep λa its ha=>k a its (Ad4 _ ha)⟩
 | [],_::_,r,_=>r.elim
 | _::_,[],r,_=>r.elim
theorem TupsAt.kat {h:Heap}:∀{vs:AG} {ts:AB},TupsAt h vs ts->∃fs,KatTups h vs fs/\fs.length=vs.length/\∀f∈fs,∃i t,f=Value.int i t
 | [],[],_=>⟨[],.nil,rfl,by simp⟩
 | v::vs,t::ts,⟨⟨a,its,e,⟨o,ho,hc,n,hd⟩,h2,h3⟩,r⟩=>by
  obtain⟨fs,y,z,k⟩:=r.kat;subst e;obtain⟨l⟩:=its;cases h2 with
  | nil=>exact absurd rfl h3
  | cons i u j=>
   refine⟨.int i u::fs,.cons ho hc hd (by simp) y,by simp[z],λf hf=>?_⟩
   rcases Aa1.mp hf with rfl | hf
   .exact⟨_,_,rfl⟩
   .exact k f hf
 | [],_::_,r=>r.elim
 | _::_,[],r=>r.elim
end
section
variable {P:Program}{w:World}{A:Around}{s:Shared}{E:Dy}
theorem bV2 {L l:Addr}{m:Str->Option Value}{vs:AG}{ts:AB}{Q:Dy}(hL:s.heap.Ns L m)(hl:s.heap.IsList l vs.toArray)(ht:TupsAt s.heap vs ts)(X:∀a,Value.ref a∈vs->a≠L)(h2:2<=vs.length)(h64:vs.length<64)
  (h:∀h' D (p:AC) c,h'.Ns L m->(∀b o,b≠L->s.heap.get? b=some o->h'.get? b=some o)->s.heap.get? D=none->h'.get? D=some {cls:=.type "list",data:=.seq (p.map λi=>vs.getD i .none).toArray c}->p.Perm (List.range vs.length)->(p.map λi=>ts.getD i []).Pairwise O2->Q (.ref D) {s with heap:=h'}) :
  wpAny (model P w) A (call (.builtin "sorted") [.ref l]) Q E s:=by
 have hlen:=ht.length
 refine kat_sorted (eA9 hL) dC6 hl h2 h64 λD e1 h' F' B hD=>?_
 have kp:∀b o,b≠L->s.heap.get? b=some o->h'.get? b=some o:=λb o hb e=>(B (b,o) (Ad4 _ (aD6 hb (u5 _ _) e))).1
 have DL:D≠L:=(B _ Af).2.1
 have hDs:s.heap.get? D=none:=by
  cases e:s.heap.get? D with
  | none=>rfl
  | some o=>exact absurd (hD (D,o) (aD6 DL (u5 _ _) e)) (Ad9 _)
 have y:TupsAt h' vs ts:=ht.keep λa its ha ⟨o,e,r⟩=>⟨o,kp a o (X a ha) e,r⟩
 obtain⟨fs,k1,k2,k3⟩:=y.kat;refine kat_kind (s:={s with heap:=h'}) k1 (by lia) (T:=.type "int") (λv hv=>?_) (by decide) ?_
 .obtain⟨i,t,rfl⟩:=k3 v hv;exact λA Q E s _ q=>wpAny_of_eq (show typeOf (Value.int i t)=pure (.type "int") from rfl) q
 have et:(Value.type "int" != Value.type "tuple")=true:=by decide
 rw[et];obtain⟨M,e0,hp,hs,ha⟩:=LS.dL1 (dK7 λi=>ts.getD i []) (N:=vs.length) (by lia)
 refine LS.dP8 (P:=λi=>i<vs.length) (lt:=λi j=>HT.k8 (ts.getD i []) (ts.getD j [])) (λi j C hi hj hC=>?_) _ ha ?_
 .obtain⟨a,its,e,⟨o,h1,c1,n1,d1⟩,r1⟩:=y.get (i:=i) (by lia)
  obtain⟨a',J,e',⟨o',h1',c1',n1',d1'⟩,R⟩:=y.get (i:=j) (by lia)
  unfold kas_ask;rw[e,e'];refine kat_lt (s:={s with heap:=h'}) h1 d1 h1' d1' ?_
  have el:decide (its.size<J.size)=decide ((ts.getD i []).length<(ts.getD j []).length):=by
   have a1:=r1.length;have a2:=R.length
   simp only[Bl]at a1 a2;rw[a1,a2]
  rw[el];exact aU7 0 r1 R hC
 .rw[e0];refine KasFin.intro F' B (.head λp hp z=>?_) λY c F k=>?_
  .have:=hD p hp
   rw[z]at this;exact absurd this (Ad9 _)
  .have kp2:∀b o,b≠L->s.heap.get? b=some o->Y.get? b=some o:=λb o hb e=>(k (b,o) (Ad4 _ (aD6 hb (u5 _ _) e))).1
   have U:M.toList.Perm (List.range vs.length):=by simpa using(Array.perm_iff_toList_perm.mp hp)
   refine h Y D M.toList c F.ns kp2 hDs (k _ Af).1 U ?_;rw[Ae0,List.pairwise_iff_getElem];intro i j hi hj hij;have hz:M.toList.length=vs.length:=by rw[U.length_eq];simp
   have:=hs i j (Cw hij) (by lia)
   unfold LS.le at this;rw[LS.bG0,LS.bG0]at this;have hi':i<M.size:=by simpa using hi
   have hj':j<M.size:=by simpa using hj
   simp only[Ck hi',Ck hj',Option.getD_some]at this;unfold O2;simpa using this
theorem aW0 {a:Addr}{vs:AG}{n:Nat}{P':PySem.Fin->Shared->Prop}(ho:s.heap.get? a=some (seqObj "list" vs.toArray n))(m:vs.length<2)
  (h:P' (.done (.ret .none)) {s with heap:=sortedHeap s.heap a vs vs.toArray}):wpAny (model P w) A (Builtin.«list.sort» ⟨[.ref a],[]⟩) P' E s:=by
 rw[list_sort_plain];have Y:a<s.heap.objs.size:=Ab3 ho;refine Aa (listItems_at ho rfl ?_);refine Aa (listUpdate_at ho rfl ?_);obtain⟨j,y⟩:∃j,(s.heap.update a (Obj.mapSeq λ_ => #[])).get? a=some (seqObj "list" #[] j):=⟨_,get?_update_seq ho (λ_ => #[])⟩
 refine Aa (seqEpoch_at y rfl ?_);refine Aa (wpAny_newTuple ?_);refine Aa (wpAny_newList ?_);refine Bz ?_;have z:(((s.heap.update a (Obj.mapSeq λ_ => #[])).push (seqObj "tuple" vs.toArray 0)).push (seqObj "list" #[] 0)).get? a=some (seqObj "list" #[] j):=by
  rw[Heap.get?_push_ne _ _ _ (by rw[size_push',Heap.size_update];exact Ab9 (Dh Y)),Heap.get?_push_ne _ _ _ (by rw[Heap.size_update];exact Ab9 Y)]
  exact y
 show wpAny (model P w) A _ P' E {s with heap:=((s.heap.update a (Obj.mapSeq λ_ => #[])).push (seqObj "tuple" vs.toArray 0)).push (seqObj "list" #[] 0)}
 dsimp only
 have k:vs.toArray.size<2:=by simpa using m
 rw[Ae k,Ae k];refine Aa (Ab ?_);rw[StateT.run_pure];refine Aa (Ab ?_);dsimp only;refine Aa (seqEpoch_at z rfl ?_);refine Aa (listUpdate_at z rfl ?_ (hsz2:=by rw[Array.size_map];show(pairsOf vs).size<=_;rw[pairsOf_size,Dk];lia))
 simp only[bne_self_eq_false,Cd,if_false];refine Ab ?_;have e:(arrOf (SortSt.mk' general' (vs.toArray.zip vs.toArray) #[] 7 none)).map (·.2)=vs.toArray:=by
  show(vs.toArray.zip vs.toArray).map (·.2)=vs.toArray
  refine Array.ext (by simp) λi h1 m=>by simp
 have c:=h
 unfold sortedHeap at c;rw[e];exact c
theorem bM7 {l:Addr}{vs:AG}{Q:Dy}(k:s.heap.IsList l vs.toArray)(z:vs.length<2)
  (h:Q (.ref (s.heap.objs.size+1)) {s with heap:=sortedAll s.heap vs vs.toArray}):wpAny (model P w) A (call (.builtin "sorted") [.ref l]) Q E s:=by
 refine Calls.call_function_entry kind_sorted plain_sorted entry_sorted (args_sorted1 _) ?_;unfold Builtin.«sorted»;refine Aa (m:=checkCount "sorted" 1 1 _) (Ab ?_);refine Aa (collect_list k ?_ (by rw[Dk];lia))
 refine Aa (wpAny_newList ?_ (by rw[Dk];lia))
 have y:((s.heap.push (seqObj "list" #[] 0)).update s.heap.objs.size (Obj.mapSeq (· ++ vs.toArray))).objs.size=s.heap.objs.size+1:=by
  rw[Heap.size_update,size_push']
 have e:(((s.heap.push (seqObj "list" #[] 0)).update s.heap.objs.size (Obj.mapSeq (· ++ vs.toArray))).push (seqObj "list" vs.toArray 0)).get? (s.heap.objs.size+1)=some (seqObj "list" vs.toArray 0):=by
  rw[<- y];exact Ac3 _ rfl
 show wpAny _ _ _ _ _ {s with heap:=((s.heap.push (seqObj "list" #[] 0)).update s.heap.objs.size (Obj.mapSeq (· ++ vs.toArray))).push (seqObj "list" vs.toArray 0)}
 rw[y];refine Aa (Bz (Dd slot_list_sort ⟨_,e,rfl⟩ entry_list_sort (aW0 e z ⟨_,rfl,?_⟩) (args_list_sort _)));exact Ab ⟨_,rfl,h⟩
end
section
theorem X4 {P:Program}{w:World}{H:Hp}{h:Heap}{a:Addr}:∀(o:HO),ObjOk P w H h a o->∃u,h.get? a=some u
 | .lst _,⟨_,its,n,_,e⟩=>⟨_,e⟩
 | .tup _,⟨_,its,_,o,e,_⟩=>⟨_,e⟩
 | .dK _,⟨_,_,vs,_,o,z,n,e,_⟩=>⟨_,e⟩
 | .dT _,⟨_,_,xs,_,o,z,k,e,_⟩=>⟨_,e⟩
 | .set _ _,⟨o,z,k,t,e,_⟩=>⟨_,e⟩
 | .ins _ _ _,⟨_,_,_,e,_⟩=>⟨_,e⟩
 | .own _,e=>e
 | .xd _,⟨j,⟨o,h1⟩,_⟩=>by
  first
  | exact⟨_,h1.1⟩
  | (obtain⟨_,_,y,_⟩:=h1;exact⟨_,y⟩)
  | (obtain⟨_,y,_⟩:=h1;exact⟨_,y⟩)
 | .met _ _,e=>⟨_,e⟩
 | .rng _ _,⟨_,_,_,e⟩=>⟨_,e⟩
 | .frz _ _,⟨e,_⟩=>⟨_,e⟩
 | .tbl _,e=>⟨_,e⟩
 | .ext _,⟨_,e,_⟩=>e
theorem cB7 {aA:Dz}{σ:L2.St}{H:Hp}{s:Shared}{h':Heap}{m:Str->Option Value}{D:Addr}{ys:List V}{its:AG}{c:Nat}(I:Inv X aA σ H s)(F:s.heap.Ns X.env.locals m)(j:h'.Ns X.env.locals m)(U:∀b o,b≠X.env.locals->s.heap.get? b=some o->h'.get? b=some o)
  (R:s.heap.get? D=none) (e:h'.get? D=some {cls:=.type "list",data:=.seq its.toArray c}) (rv:Vals ys its) (P:ys.length<=sizeLine):H D=none/\Inv X aA σ (upd H D (.lst ys)) {s with heap:=h'}:=by
 have N:H D=none:=by
  cases q:H D with
  | none=>rfl
  | some o=>obtain⟨u,Q⟩:=X4 o (I.hok D o q);rw[R]at Q;cases Q
 have nD:∀b o,s.heap.get? b=some o->b≠D:=λb o q z=>by rw[z,R]at q;cases q
 have Y:∀b o,H b=some o->b≠D:=λb o q z=>by rw[z,N]at q;cases q
 refine⟨N,?_⟩;refine I.step (g':=s.gens) (d':=s.drawn) (t':=s.toks) (ch:=[]) (by simp) (λb o y _ _ q _=>U b o y q) (λb o y _ _ q _=>⟨o.slots,U b o y q⟩) (λb o _ q n=>by rw[B4 (nD b o q)];exact n) (λb o _ q=>?_)
  (λb xs q=>by rw[B4 (Y b _ q)];exact q) (λb o u q=>by rw[B4 (Y b _ q)];exact q) (λb ps q=>⟨#[],by rw[B4 (Y b _ q)];simpa using q⟩) (λm' J=>?_) (λb o q=>?_) I.bare
 .by_cases y:b=X.env.locals
  .subst y;obtain⟨o',_,_,M,_⟩:=j;exact⟨o',M⟩
  .exact⟨o,U b o y q⟩
 .rw[J.eq_nsMap,<- F.eq_nsMap];exact j
 .by_cases y:b=D
  .subst y;rw[B6]at q;cases q;exact⟨P,its,c,rv,e⟩
  .rw[B4 y]at q;refine(I.hok b o q).stay (λk v B w=>U k v ?_ w) (λk w=>by rw[B4 (Y k _ w)];exact w) λk xs w=>by rw[B4 (Y k _ w)];exact w
   rcases B with z | z
   .rw[z];exact E7 q I.free
   .exact E7 z I.free
end
def TupsV (K:Frag)(H:Hp):List V->AB->Prop
 | [],[]=>True
 | v::vs,t::ts=>(∃a,v=.ref a/\SqT K H a (t.map V.int)/\t≠[])/\TupsV K H vs ts
 | _,_=>False
theorem TupsV.length {K:Frag}{H:Hp}:∀{vs:List V} {ts:AB},TupsV K H vs ts->vs.length=ts.length
 | [],[],_=>rfl
 | _::_,_::_,r=>by simp[TupsV.length r.2]
 | [],_::_,r=>r.elim
 | _::_,[],r=>r.elim
section
theorem dO2 (I:Inv X aA σ H s)(h:SqT X.K H a xs):a≠X.env.locals:=by
 rcases h with (h | ⟨o,h⟩) | ⟨o,its,n,e,_⟩
 .exact E7 h I.free
 .exact E7 h I.free
 .have:=Ab3 (I.mod.kin a o e)
  exact Ab9 (Ab8 this (Ax I.ok.bsz I.ok.above))
theorem cF8 (I:Inv X aA σ H s):∀{vs:List V} {ts:AB} {us:AG},TupsV X.K H vs ts->Vals vs us->TupsAt s.heap us ts/\∀a,Value.ref a∈us->a≠X.env.locals
 | [],[],_,_,r=>by cases r;exact⟨trivial,λa h=>by simp at h⟩
 | v::vs,t::ts,_,⟨⟨a,e,sq,ne⟩,h⟩,r=>by
  subst e;cases r with
  | cons w z=>
   cases w
   obtain⟨h1,y⟩:=cF8 I h z;obtain⟨its,k,p,_⟩:=I.tuple sq;refine⟨⟨⟨a,its.toArray,rfl,p,by simpa using R7 k,ne⟩,h1⟩,λb hb=>?_⟩
   rcases Aa1.mp hb with e | hb
   .cases e;exact dO2 I sq
   .exact y b hb
 | [],_::_,_,h,_=>h.elim
 | _::_,[],_,h,_=>h.elim
theorem bI0 {vs:List V}{us:AG}(r:Vals vs us):∀{q:AC},(∀i∈q,i<vs.length)->Vals (q.map λi=>vs.getD i .non) (q.map λi=>us.getD i .none)
 | [],_=>.nil
 | i::q,h=>by
  have hi:=h i (by simp)
  obtain⟨u,h1,w⟩:=r.get (i:=i) (x:=vs[i]) (Aa2 hi);refine .cons ?_ (bI0 r λj z=>h j (by simp[z]))
  have e:vs.getD i .non=vs[i]:=by simp[List.getD,hi]
  have y:us.getD i .none=u:=by simp[List.getD,h1]
  show RelV (vs.getD i .non) (us.getD i .none)
  rw[e,y];exact w
end
section
theorem bB4 (K:Frag)(h:X.K=K:=by rfl):R4 X (.builtin "sorted") (λxs H Q=>∃(p:Addr) (ys:List V) (ts:AB),xs=[.ref p]/\SqL K H p ys/\TupsV K H ys ts/\ys.length<64 /\
  ∀a (q:AC),H a=none->q.Perm (List.range ys.length)->(q.map λi=>ts.getD i []).Pairwise O2->Q (.ref a) (upd H a (.lst (q.map λi=>ys.getD i .non)))):=by
 subst h;intro aA s σ H xs us Q I r ⟨p,ys,ts,e,hq,R,h64,q⟩;subst e;obtain⟨u,rfl,rx⟩:=S0 r;cases rx;obtain⟨its,j,F,hz⟩:=I.list hq;have y:=j.length;have htl:=R.length;by_cases k:its.length<2
 .refine bM7 F.isList k ?_;obtain⟨e,he⟩:=sortedAll_at s.heap its its.toArray;have z:=q (s.heap.objs.size+1) (List.range ys.length) (I.hok.fresh (Nat.le_succ _)) (.refl _) (by
   rw[y]
   match its.length,k with
   | 0,_=>simp
   | 1,_=>simp[Ca])
  have Y:((List.range ys.length).map λi=>ys.getD i .non)=ys:=by
   refine List.ext_getElem (by simp) λi h1 k=>?_
   simp[List.getD,k]
  rw[Y]at z;exact⟨.ref _,_,I.laid (t':=s.toks) (λb o e=>sortedAll_old e) (Nat.le_succ _) (show ObjOk X.prog X.w _ _ _ (.lst ys) from⟨hz,its,e,j,he⟩),rfl,z⟩
 .obtain⟨m,N,_⟩:=I.loc;obtain⟨ta,tl⟩:=cF8 I R j;refine bV2 N F.isList ta tl (by lia) (by lia) λh' D B c U kp hD Y hp hs=>?_
  have J:∀i∈B,i<ys.length:=λi hi=>by have:=Ab5.mp (hp.mem_iff.mp hi);lia
  have M:=bI0 j J
  obtain⟨P,I'⟩:=cB7 I N U kp hD Y M (by rw[Aa3,hp.length_eq,Bc];lia)
  exact⟨.ref D,_,I',rfl,q D B P (by rw[y];exact hp) hs⟩
end
end LV
namespace LV
open PySem L2
section
abbrev lI (l:AD):PyData:=.list (l.map .int)
abbrev tI (l:AD):PyData:=.tuple (l.map .int)
theorem aF6:∀l:AD,M9 (l.map .int)=true
 | []=>rfl
 | _::l=>by simp[M9,imm,aF6 l]
theorem aC8 {α:Type}{f:α->PyData}(h:∀a,imm (f a)=true):∀l:List α,M9 (l.map f)=true
 | []=>rfl
 | a::l=>by simp[M9,h a,aC8 h l]
theorem dB1 (l:AD):imm (tI l)=true:=by simp[imm,aF6 l]
theorem bP9:∀{l:AF},(∀d∈l,imm d=true)->M9 l=true
 | [],_=>rfl
 | a::l,h=>by simp[M9,h a (by simp),bP9 (l:=l) λd hd=>h d (by simp[hd])]
theorem Y1 (i:Int):Fit (.int i):=⟨rfl,by simp[PyData.depth]⟩
def FitN (n:Nat)(d:PyData):Prop:=d.canLay0=true/\d.depth<=n
theorem bD1 (n:Nat)(i:Int):FitN n (.int i):=⟨rfl,by simp[PyData.depth]⟩
theorem bB2:∀{l:AF},(∀d∈l,FitN n d)->PyData.canLayAll0 l=true/\PyData.depthAll l<=n
 | [],_=>⟨rfl,by simp[PyData.depthAll]⟩
 | a::l,h=>by
  obtain⟨h1,h2⟩:=h a (by simp)
  obtain⟨h3,h4⟩:=bB2 (l:=l) λd e=>h d (by simp[e])
  exact⟨by simp[PyData.canLayAll0,h1,h3],by simp only[PyData.depthAll];lia⟩
theorem bY1 (h:∀d∈l,FitN n d):FitN (n+1) (.tuple l):=by
 obtain⟨a,b⟩:=bB2 h;exact⟨by simpa[PyData.canLay0]using a,by simp only[PyData.depth];lia⟩
theorem aY1 (h:∀d∈l,FitN n d):FitN (n+1) (.list l):=by
 obtain⟨a,b⟩:=bB2 h;exact⟨by simpa[PyData.canLay0]using a,by simp only[PyData.depth];lia⟩
theorem FitN.fit (h:FitN n d)(e:n<=32:=by decide):Fit d:=⟨h.1,Ax h.2 e⟩
theorem aZ0 (l:AD):∀d∈l.map PyData.int,FitN 0 d:=λd e=>by
 obtain⟨i,_,rfl⟩:=Aa8.mp e;exact bD1 0 i
theorem bD6 (l:AD):FitN 1 (tI l):=bY1 (aZ0 l)
theorem dC8 (w:E K false ta ρ d)(z:E K false tb ρ d')(h1:Fit d)(e:Fit d'):E K m (tOp (cM3 K false) ta tb) ρ (.bool (PyData.eqv d d')):=
 bC6 false false w z λS H x y Q _ k j q=>⟨d,d',k,j,h1,e,q _ H (L2.Same.rf _) (.bl _)⟩
theorem cL2 (w:E K false ta ρ d)(z:E K false tb ρ d')(h1:Fit d)(e:Fit d'):E K m (tOp (cM3 K true) ta tb) ρ (.bool (!PyData.eqv d d')):=
 bC6 false false w z λS H x y Q _ k j q=>⟨d,d',k,j,h1,e,q _ H (L2.Same.rf _) (.bl _)⟩
theorem cM1 (w:E K false ta ρ d)(k:E K false tb ρ d')(j:sq d'=some ds)(h1:Fit d)(e:Fit d'):E K m (tOp (dM1 K false) ta tb) ρ (.bool (ds.any λz=>PyData.eqv z d)):=
 bC6 false false w k λS H x y Q _ c s q=>⟨d,d',ds,c,s,j,h1,e,q _ H (L2.Same.rf _) (.bl _)⟩
theorem p7 (w:E K false ta ρ d)(k:E K false tb ρ d')(j:sq d'=some ds)(h1:Fit d)(e:Fit d'):E K m (tOp (dM1 K true) ta tb) ρ (.bool (!ds.any λz=>PyData.eqv z d)):=
 bC6 false false w k λS H x y Q _ c s q=>⟨d,d',ds,c,s,j,h1,e,q _ H (L2.Same.rf _) (.bl _)⟩
theorem aA3 [DecidableEq α](h:∀a b,PyData.eqv (f a) (f b)=decide (a=b)):∀l l':List α,PyData.eqvAll (l.map f) (l'.map f)=decide (l=l')
 | [],[]=>by simp[PyData.eqvAll]
 | [],_::_=>by simp[PyData.eqvAll]
 | _::_,[]=>by simp[PyData.eqvAll]
 | a::l,b::l'=>by
  simp only[Ac7,PyData.eqvAll,h,aA3 h l l',Cc];by_cases e:a=b <;> simp[e]
theorem aX5 (a b:Int):PyData.eqv (.int a) (.int b)=decide (a=b):=by
 simp only[PyData.eqv];by_cases h:a=b <;> simp[h]
theorem bN5 (l l':AD):PyData.eqv (tI l) (tI l')=decide (l=l'):=by
 simp only[PyData.eqv];exact aA3 aX5 l l'
theorem bP6 {H:Hp}{p:V}{l:AD}(r:Rep K H p (lI l)):∃a,p=.ref a/\SqL K H a (l.map V.int):=by
 cases r with
 | lst s r=>rw[<- r.ints];exact⟨_,rfl,s⟩
theorem dS1 {t:TA}{l:AD}{M:Int}(z:A K false t ρ [lI l])(e:M∈l/\∀a∈l,M<=a):E K m (tCB (λxs H Q=>∃(p:Addr) (l:AD),xs=[.ref p]/\SqL K H p (l.map V.int)/\l≠[]/\∀M,M∈l->(∀a∈l,M<=a)->Q (.int M) H) t) ρ (.int M):=bV4 z λH vs Q r q=>by
 cases r with
 | cons a b=>
  cases b
  obtain⟨p,rfl,s⟩:=bP6 a;refine⟨p,l,rfl,s,List.ne_nil_of_mem e.1,λy h1 w=>?_⟩
  have:y=M:=Int.le_antisymm (w M e.1) (e.2 y h1)
  rw[this];exact q _ λ_=>.int _
abbrev lB (l:List Bool):PyData:=.list (l.map .bool)
theorem Reps.bools {H:Hp}:∀{l:List Bool} {vs:List V},Reps K H vs (l.map PyData.bool)->vs=l.map V.bl
 | [],_,r=>by cases r;rfl
 | i::l,_,r=>by
  cases r with
  | cons a b=>cases a;rw[Reps.bools b];rfl
theorem cL7 {t:TA}{l:List Bool}(e:A K false t ρ [lB l]):E K m (tCB (λxs H Q=>∃(p:Addr) (l:List Bool),xs=[.ref p]/\SqL K H p (l.map V.bl)/\Q (.bl (l.all id)) H) t) ρ (.bool (l.all id)):=bV4 e λH vs Q r q=>by
 cases r with
 | cons a b=>
  cases b
  cases a with
  | lst s r=>rw[r.bools]at s;exact⟨_,l,rfl,s,q _ λ_=>.bl _⟩
theorem cY6 {t:TA}{l:List Bool}(e:A K false t ρ [lB l]):E K m (tCB (λxs H Q=>∃(p:Addr) (l:List Bool),xs=[.ref p]/\SqL K H p (l.map V.bl)/\Q (.bl (l.any id)) H) t) ρ (.bool (l.any id)):=bV4 e λH vs Q r q=>by
 cases r with
 | cons a b=>
  cases b
  cases a with
  | lst s r=>rw[r.bools]at s;exact⟨_,l,rfl,s,q _ λ_=>.bl _⟩
theorem bW2 {l:AD}{k:Int}(j:E K false ta ρ (lI l))(c:E K false tb ρ (.int k))(Y:k∈l) :
  E K m (tBM K "list" (λx xs H Q=>∃(p:Addr) (l:AD) (k:Int),x=.ref p/\xs=[.int k]/\SqL K H p (l.map V.int)/\k∈l/\Q (.int (l.idxOf k)) H) ta (J9 tb W2)) ρ (.int (l.idxOf k)):=E.bor (E.imm (m:=false) λS B σ H o I Q q=>j S B σ H o I _ λv w e r=>by
 obtain⟨p,rfl,s⟩:=bP6 r;refine⟨.inl ⟨rfl,_,s⟩,?_⟩;refine c S B σ w o (I.grow e) _ λu z y X=>?_
 cases X
 exact⟨p,l,k,rfl,rfl,P1 y s,Y,q _ z (L2.Same.tr e y) (.int _)⟩)
theorem aE8 {S:Addr->Prop}{H1:Hp}{p:Addr}{xs:List V}(y:∀b,S b->∃u:HM,H1 b=some u.ho)(hp:H1 p=none)(r:Reps K H1 xs ds)(hi:M9 ds=true):Reps K (hid (λb=>S b\/b=p) (upd H1 p (.lst xs))) xs ds:=
 bA6 (λa j q=>z7 (λb z=>by
  rcases z with z | z
  .obtain⟨k,e⟩:=y b z;exact⟨k,by rw[B4 (λw=>by rw[w,hp]at e;cases e)];exact e⟩
  .exact⟨.l xs,by rw[z];exact B6⟩) (l8 (D4 hp) q)) ds hi r
theorem eJ3 {r:List V->Hp->VK->Prop}{t:TA}(w:A K false t ρ ds)(hi:M9 es=true)(z:∀(H:Hp) (vs:List V) (Q:VK),Reps K H vs ds->(∀p xs,H p=none->Reps K H xs es->Q (.ref p) (upd H p (.lst xs)))->r vs H Q):EF K (tCB r t) ρ es:=λS B σ H o I Q q=>
 w S B σ H o I _ λvs y e rs=>z y vs Q rs λp xs hp k=>q p xs _ (L2.Same.tr e (D4 hp)) (S8 e hp) B6 (aE8 (I.grow e).lists hp k hi)
theorem X1 {t:TA}(y:A K false t ρ [.list ds])(hi:M9 ds=true):E K m (tCB (λxs H Q=>∃p ys,xs=[.ref p]/\((SqL K H p ys/\∀l,H l=none->Q (.ref l) (upd H l (.tup ys)))\/(SqT K H p ys/\Q (.ref p) H))) t) ρ (.tuple ds):=E.bor (E.imm (m:=false) (λS B σ H o I Q q=>y S B σ H o I _ λvs z w r=>by
 cases r with
 | cons a b=>
  cases b
  cases a with
  | lst s r=>exact⟨_,_,rfl,.inl ⟨s,λl e=>q _ _ (L2.Same.tr w (D4 e)) (.tup (SqT.of B6) (r.mono (D4 e)))⟩⟩) (by simp[imm,hi]))
theorem dV2 {t:TA}{i j:Int}(m:A K false t ρ [.int i,.int j])(Y : -(2^62)<=i/\i<2^62 /\ -(2^62)<=j/\j<2^62/\j-i<=1000000) :
  EF K (tCB (λxs H Q=>∃(r:Addr) (i j:Int),xs=[.ref r]/\H r=some (.rng i j)/\(-(2^62)<=i/\i<2^62 /\ -(2^62)<=j/\j<2^62/\j-i<=1000000)/\∀l,H l=none->Q (.ref l) (upd H l (.lst (aH1 i (j-i).toNat)))) (J9 (dT3 t) W2)) ρ (Y9 i (j-i).toNat):=λS B σ H o I Q q=>
 m S B σ H o I _ λvs X w r=>by
  cases r with
  | cons a b=>
   cases a
   cases b with
   | cons a b=>
    cases a;cases b
    refine⟨i,j,rfl,λp hp=>⟨p,i,j,rfl,B6,Y,λl y=>?_⟩⟩
    have e:=D4 (o:=.rng i j) hp
    have s:=D4 (o:=.lst (aH1 i (j-i).toNat)) y
    refine q l _ _ (L2.Same.tr w (L2.Same.tr e s)) (S8 (L2.Same.tr w e) y) B6 ?_;have z:aH1 i (j-i).toNat=((List.range (j-i).toNat).map λ(k:Nat)=>i+(k:Int)).map V.int:=by simp[aH1]
    have c:Y9 i (j-i).toNat=((List.range (j-i).toNat).map λ(k:Nat)=>i+(k:Int)).map PyData.int:=by simp[Y9]
    rw[z,c];exact aG2 _
theorem dV1 (k:E K false ta ρ (.list ds))(hi:M9 ds=true):EF K (cH6 K ta) ρ ds.reverse:=λS B σ H o I Q q=>
 k S B σ H o I _ λv c w r=>by
  cases r with
  | lst s r=>
   refine⟨_,_,rfl,s,λl y=>q l _ _ (L2.Same.tr w (D4 y)) (S8 w y) B6 (aE8 (I.grow w).lists y r.reverse ?_)⟩
   refine bP9 λd e=>?_
   have:∀{l:AF},M9 l=true->∀d∈l,imm d=true:=λ{l}=>by
    induction l with
    | nil=>simp
    | cons a l j=>intro h d e;simp[M9]at h;rcases Aa1.mp e with rfl | z;exact h.1;exact j h.2 d z
   exact this hi d (Dt.mp e)
end
def OT.kids:OT->List OT
 | .leaf _ | .dic _=>[]
 | .tup ts=>ts
 | .lst ts=>ts
def OT.at:AC->OT->Option OT
 | [],t=>some t
 | k::π,t=>(t.kids[k]?).bind (OT.at π)
def OT.put (t:OT)(π:AC)(u:OT):OT:=match π with
 | []=>u
 | k::π=>match t with
  | .lst ts=>.lst (ts.modify k λt=>OT.put t π u)
  | .tup ts=>.tup (ts.modify k λt=>OT.put t π u)
  | .leaf d=>.leaf d
  | .dic d=>.dic d
theorem OT.put_nil {t u:OT}:t.put [] u=u:=by rw[OT.put]
theorem OT.put_lst {ts:List OT}{k:Nat}{π:AC}{u:OT}:(OT.lst ts).put (k::π) u=.lst (ts.modify k λt=>OT.put t π u):=by rw[OT.put]
theorem OT.put_tup {ts:List OT}{k:Nat}{π:AC}{u:OT}:(OT.tup ts).put (k::π) u=.tup (ts.modify k λt=>OT.put t π u):=by rw[OT.put]
section
theorem U2 {α:Type}{f:α->α}:∀{l:List α} {k:Nat} {a:α},l[k]? = some a->l.modify k f=l.set k (f a)
 | [],k,a,h=>by simp at h
 | b::l,0,a,h=>by simp at h;subst h;rfl
 | b::l,k+1,a,h=>by
  have:=U2 (f:=f) (l:=l) (k:=k) (a:=a) (by simpa using h)
  simpa using this
theorem cD2:∀{ts:List OT} {xs:List V} {L:AL} {k:Nat} {t:OT},Dps K Z H xs ts L->ts[k]? = some t->∃v L1 L2 L3,xs[k]? = some v/\Dp K Z H v t L2/\L=L1++L2++L3 /\
  ∀(Z' H':Hp) (t':OT) (L2':AL),Same Z Z'->(∀a xs,Rd H a (.tup xs)->Rd H' a (.tup xs))->(∀b,b∈L1\/b∈L3->H' b=H b)->Dp K Z' H' v t' L2'->Dps K Z' H' xs (ts.set k t') (L1++L2'++L3)
 | [],_,_,_,_,r,h=>by simp at h
 | t::ts,_,_,0,_,r,h=>by
  simp at h;subst h
  cases r with
  | @cons v _ vs _ La Lb a b=>
   refine⟨v,[],La,Lb,rfl,a,rfl,λZ' H' t' L2' hz ht hl r=>?_⟩
   simpa using Dps.cons r (t4 hz ht ts (λb hb=>hl b (.inr hb)) b)
 | t::ts,_,_,k+1,t1,r,h=>by
  cases r with
  | @cons v _ vs _ La Lb a b=>
   obtain⟨w,L1,L2,L3,h1,h2,h3,h4⟩:=cD2 (k:=k) (t:=t1) b (by simpa using h)
   refine⟨w,La++L1,L2,L3,by simpa using h1,h2,by rw[h3];simp,λZ' H' t' L2' hz ht hl r=>?_⟩
   have:=Dps.cons (aF7 hz ht t (λb hb=>hl b (.inl (by simp[hb]))) a) (h4 Z' H' t' L2' hz ht (λb hb=>hl b (by rcases hb with hb | hb <;> simp[hb])) r)
   simpa using this
theorem dL8 {t:OT}{v:V}{L:AL}{k:Nat}{t1:OT}(r:Dp K Z H v t L)(h:t.kids[k]? = some t1):(∃a xs ts M,v=.ref a/\t=.tup ts/\SqT K H a xs/\Dps K Z H xs ts L/\ts[k]? = some t1/\M=L)\/∃a xs ts M,v=.ref a/\t=.lst ts/\H a=some (.lst xs)/\Dps K Z H xs ts M/\ts[k]? = some t1/\L=a::M:=by
 cases r with
 | leaf r=>simp[OT.kids]at h
 | dic _ _ _ _=>simp[OT.kids]at h
 | tup s r=>exact .inl ⟨_,_,_,_,rfl,rfl,s,r,h,rfl⟩
 | lst s r=>exact .inr ⟨_,_,_,_,rfl,rfl,s,r,h,rfl⟩
def Foc (K:Frag)(Z H:Hp)(v0:V)(t0:OT)(L0:AL)(π:AC)(v:V)(t:OT):Prop:=
 ∃L A C,Dp K Z H v t L/\L0=A++L++C/\∀(Z' H':Hp) (t':OT) (L':AL),Same Z Z'->(∀a xs,Rd H a (.tup xs)->Rd H' a (.tup xs))->(∀b,b∈A\/b∈C->H' b=H b)->Dp K Z' H' v t' L'->Dp K Z' H' v0 (t0.put π t') (A++L'++C)
theorem Foc.root (r:Dp K Z H v0 t0 L0):Foc K Z H v0 t0 L0 [] v0 t0:=
 ⟨L0,[],[],r,by simp,λw y z L' _ _ _ e=>by rw[OT.put_nil];simpa using e⟩
theorem Foc.mono (f:Foc K Z H v0 t0 L0 π v t)(s:Same Z Z')(c:∀a xs,Rd H a (.tup xs)->Rd H' a (.tup xs))(j:∀b∈L0,H' b=H b):Foc K Z' H' v0 t0 L0 π v t:=by
 obtain⟨L,A,C,h1,e,X⟩:=f;refine⟨L,A,C,aF7 s c t (λb hb=>j b (by rw[e];simp[hb])) h1,e,λY m J L' k w y U=>X Y m J L' (L2.Same.tr s k) (λa xs z=>w a xs (c a xs z)) (λb hb=>?_) U⟩
 rw[y b hb];exact j b (by rw[e];rcases hb with hb | hb <;> simp[hb])
theorem aN8 {u t1:OT}{k:Nat}:∀{π:AC} {t0 t:OT},t0.at π=some t->t0.put π (t.put [k] u)=t0.put (π++[k]) u
 | [],t0,t,h=>by cases h;rw[OT.put_nil];rfl
 | j::π,t0,t,h=>by
  unfold OT.at at h;cases e:t0.kids[j]? with
  | none=>rw[e]at h;cases h
  | some t1=>
   rw[e]at h;have h:t1.at π=some t:=h;cases t0 with
   | leaf d=>simp[OT.kids]at e
   | dic d=>simp[OT.kids]at e
   | lst ts=>
    have e:ts[j]? = some t1:=e
    rw[Ab6,OT.put_lst,OT.put_lst,U2 e,U2 e,aN8 (t1:=t1) h]
   | tup ts=>
    have e:ts[j]? = some t1:=e
    rw[Ab6,OT.put_tup,OT.put_tup,U2 e,U2 e,aN8 (t1:=t1) h]
theorem aM7 {k:Nat}:∀{π:AC} {t0 t:OT},t0.at π=some t->t0.at (π++[k])=t.kids[k]?
 | [],t0,t,h=>by
  cases h
  show(t0.kids[k]?).bind (OT.at [])=_
  cases t0.kids[k]? <;> rfl
 | j::π,t0,t,h=>by
  unfold OT.at at h;rw[Ab6];show(t0.kids[j]?).bind (OT.at (π++[k]))=_;cases e:t0.kids[j]? with
  | none=>rw[e]at h;cases h
  | some y=>
   rw[e]at h;exact aM7 (π := π) (t0:=y) h
theorem Foc.down {v0 v:V}{t0 t t1:OT}{L0:AL}{π:AC}{k:Nat}(f:Foc K Z H v0 t0 L0 π v t)(ha:t0.at π=some t)(h:t.kids[k]? = some t1) :
  ∃a xs u,v=.ref a/\(SqL K H a xs\/SqT K H a xs)/\xs[k]? = some u/\Foc K Z H v0 t0 L0 (π++[k]) u t1:=by
 obtain⟨L,A,C,h1,B,P⟩:=f;rcases dL8 h1 h with⟨a,xs,F,M,rfl,rfl,s,Q,e,rfl⟩ | ⟨a,xs,F,M,rfl,rfl,s,Q,e,rfl⟩
 .obtain⟨u,m,L2,Y,X,U,J,N⟩:=cD2 Q e;refine⟨a,xs,u,rfl,.inr s,X,L2,A++m,Y++C,U,by rw[B,J];simp,λj z D L' c w y R=>?_⟩
  have:=P j z _ _ c w (λb hb=>y b (by rcases hb with hb | hb <;> simp[hb])) (Dp.tup (s.imp (w _ _) id) (N j z D L' c w (λb hb=>y b (by rcases hb with hb | hb <;> simp[hb])) R))
  rw[<- aN8 (t1:=t1) ha,OT.put_tup,U2 e,OT.put_nil];simpa using this
 .obtain⟨u,m,L2,Y,X,U,J,N⟩:=cD2 Q e;refine⟨a,xs,u,rfl,.inl (SqL.of s),X,L2,A++a::m,Y++C,U,by rw[B,J];simp,λj z D L' c w y R=>?_⟩
  have:=P j z _ _ c w (λb hb=>y b (by rcases hb with hb | hb <;> simp[hb])) (Dp.lst (by rw[y a (by simp)];exact s) (N j z D L' c w (λb hb=>y b (by rcases hb with hb | hb <;> simp[hb])) R))
  rw[<- aN8 (t1:=t1) ha,OT.put_lst,U2 e,OT.put_nil];simpa using this
end
section
def EFT (K:Frag)(t:TE)(ρ:List Sl)(u:OT):Prop:=
 ∀(S:Addr->Prop) (B:Hp) (σ:St) (H:Hp) (o:Nat->AL),Env K S B H σ ρ o->∀Q:VK,
  (∀v L H',Same H H'->(∀b∈L,H b=none)->L.Nodup->Dp K (hid (λb=>D6 ρ o S b\/b∈L) H') H' v u L->Q v H')->t σ H Q
def AFT (K:Frag)(t:TA)(ρ:List Sl)(us:List OT):Prop:=
 ∀(S:Addr->Prop) (B:Hp) (σ:St) (H:Hp) (o:Nat->AL),Env K S B H σ ρ o->∀Q:List V->Hp->Prop,
  (∀vs L H',Same H H'->(∀b∈L,H b=none)->L.Nodup->Dps K (hid (λb=>D6 ρ o S b\/b∈L) H') H' vs us L->Q vs H')->t σ H Q
theorem bL5:Same (hid S H) (hid (λb=>S b\/b∈([]:AL)) H):=F4 (L2.Same.rf _) λb z _=>z.elim id λz=>nomatch z
theorem bI5 (h:E K true t ρ d):EFT K t ρ (.leaf d):=λS B σ H o I Q q=>h S B σ H o I _ λv e s r=>
 q v [] e s (λ_ z=>nomatch z) .nil (.leaf (r.mono bL5))
theorem aX6 {Z H:Hp}:∀{us:List OT} {vs:List V} {L:AL},Dps K Z H vs us L->vs.length=us.length
 | [],_,_,r=>by cases r;rfl
 | u::us,_,_,r=>by cases r with | cons a b=>simp[aX6 b]
theorem M1:AFT K W2 ρ []:=λS B σ H o I Q q=>q [] [] H (L2.Same.rf _) (λ_ z=>nomatch z) .nil .nil
theorem Dps.mono (r:Dps K Z H vs us L)(w:Same Z Z')(h:Same H H'):Dps K Z' H' vs us L:=
 t4 w (λ_ _=>l8 h) us (λb y=>by obtain⟨xs,e⟩:=p8 us r b y;rw[e];exact h _ _ e) r
theorem Env.hide {S:Addr->Prop}{B H H1:Hp}{σ:St}{o:Nat->AL}{L:AL}(I:Env K S B H σ ρ o)(s:Same H H1)(n:∀b∈L,H b=none)(l:∀b∈L,∃u:HM,H1 b=some u.ho) :
  Env K (λb=>S b\/b∈L) (hid (cO4 ρ o) H1) H1 σ ρ o:=by
 obtain⟨J,X⟩:=(I.grow s).rebase;have g:Same (hid (D6 ρ o S) H) (hid (D6 ρ o λb=>S b\/b∈L) H1):=F4 s λb z k=>by
  rcases z with (z | z) | z
  .exact .inl z
  .exact absurd (n b z) k
  .exact .inr z
 refine⟨I.len,T5,λb z=>?_,J.new,I.inj,λi ds h=>?_,λi d h=>?_,λi d h=>?_,λi t h=>?_⟩
 .rcases z with z | z
  .exact J.sl b z
  .obtain⟨xs,e⟩:=l b z;refine⟨xs,hid_some.mpr ⟨λY=>?_,e⟩⟩
   obtain⟨i,x,h,m,c⟩:=Y;obtain⟨U,e'⟩:=I.lists b (.inr ⟨i,x,h,m,c⟩);rw[n b z]at e';cases e'
 .obtain⟨p,h1,y,xs,w,j⟩:=I.own i ds h;exact⟨p,h1,y,xs,s _ _ w,j.mono g⟩
 .obtain⟨v,h1,y⟩:=I.val i d h;exact⟨v,h1,y.mono g⟩
 .obtain⟨v,h1,y⟩:=I.bor i d h;exact⟨v,h1,y.mono s⟩
 .obtain⟨nd,v,h1,y⟩:=I.tr i t h;exact⟨nd,v,h1,y.mono g s⟩
theorem dH7 {o:Nat->AL}{S:Addr->Prop}{L:AL}{b:Addr}:D6 ρ o (λb=>S b\/b∈L) b↔D6 ρ o S b\/b∈L:=by
 constructor
 .rintro ((z | z) | z)
  .exact .inl (.inl z)
  .exact .inr z
  .exact .inl (.inr z)
 .rintro ((z | z) | z)
  .exact .inl (.inl z)
  .exact .inr z
  .exact .inl (.inr z)
theorem K4 (y:EFT K ta ρ u)(R:AFT K tr ρ us):AFT K (J9 ta tr) ρ (u::us):=λS B σ H o I Q q=>
 y S B σ H o I _ λx U Y c m M j=>R _ _ σ Y o (I.hide c m (aC4 u j)) _ λxs J X s w N F=>by
  have D:=aC4 u j
  refine q (x::xs) (U++J) X (L2.Same.tr c s) (λb hb=>?_) ?_ (.cons (j.mono ?_ s) (F.mono ?_ (L2.Same.rf _)))
  .rcases Aa0.mp hb with hb | hb
   .exact m b hb
   .exact S8 c (w b hb)
  .refine Aa4.mpr ⟨M,N,λa y b hb e=>?_⟩
   subst e;obtain⟨xs,e⟩:=D a y;rw[w a hb]at e;cases e
  .refine F4 s λb z k=>?_
   rcases z with z | z
   .exact .inl z
   .rcases Aa0.mp z with z | z
    .exact .inr z
    .exact absurd (w b z) k
  .refine F4 (L2.Same.rf _) λb z _=>?_
   rw[dH7];rcases z with z | z
   .exact .inl (.inl z)
   .rcases Aa0.mp z with z | z
    .exact .inl (.inr z)
    .exact .inr z
theorem aW9 {t:TA}(h:AFT K t ρ us)(e:us.length<=sizeLine:=by first | decide | (unfold sizeLine;simp)):EFT K (cB1 t) ρ (.tup us):=λS B σ H o I Q q=>h S B σ H o I _ λxs L w y n d r=>
 ⟨by rw[aX6 r];exact e,λp hp=>by
  have g:=D4 (o:=.tup xs) hp
  exact q _ L _ (L2.Same.tr y g) n d (.tup (SqT.of B6) (r.mono (N5 g) g))⟩
theorem P8 {t:TA}(h:AFT K t ρ us)(w:us.length<=sizeLine:=by first | decide | (unfold sizeLine;simp)):EFT K (eB9 t) ρ (.lst us):=λS B σ H o I Q q=>h S B σ H o I _ λxs L j y n d r=>
 ⟨by rw[aX6 r];exact w,λp hp=>by
  have g:=D4 (o:=.lst xs) hp
  refine q _ (p::L) _ (L2.Same.tr y g) (λb hb=>?_) (Aa5.mpr ⟨λz=>?_,d⟩) (.lst B6 (r.mono ?_ g))
  .rcases Aa1.mp hb with rfl | hb
   .exact S8 y hp
   .exact n b hb
  .obtain⟨c,e⟩:=p8 us r p z;rw[hp]at e;cases e
  .refine F4 g λb z k=>?_
   rcases z with z | z
   .exact .inl z
   .rcases Aa1.mp z with rfl | z
    .exact absurd hp k
    .exact .inr z⟩
theorem cC8 {i:Nat}{R:AE}(h:EFT K t ρ u)(w:R.nx (ρ.set i (.tr u)))(hi:i<ρ.length:=by first | decide | (simp;done) | (simp[LV.sl0];done)):W K (aK1 t (Q3 i)) ρ R:=λS B D σ H o I s=>
 h S B σ H o I _ λv L e k n d r=>s.nx _ _ e _ (I.put i hi (λ_=>False) (λ_ z=>z.elim) (λb y q _=>k b y q) (λb z=>.inr (n b z)) (.inr ⟨u,rfl,d,r⟩) (.inl λ_ z=>z)) w
def AtP (K:Frag)(t:TE)(ρ:List Sl)(i:Nat)(π:AC):Prop:=
 ∀(S:Addr->Prop) (B:Hp) (σ:St) (H:Hp) (o:Nat->AL),Env K S B H σ ρ o->∀(u0 u:OT),ρ[i]? = some (.tr u0)->u0.at π=some u->∀Q:VK,
  (∀v0 v H',Same H H'->σ[i]? = some (some v0)->Foc K (hid (D6 ρ o S) H') H' v0 u0 (o i) π v u->Q v H')->t σ H Q
theorem aI6:AtP K (F0 i) ρ i []:=λS B σ H o I y u h e Q q=>by
 cases e
 obtain⟨_,v,a,b⟩:=I.tr i y h;exact⟨v,a,q v v H (L2.Same.rf _) a (Foc.root b)⟩
theorem Foc.grow {Z Z' H H':Hp}{v0 v:V}{L0:AL}{π:AC}(f:Foc K Z H v0 u0 L0 π v u)(l:∀b∈L0,∃u:HM,H b=some u.ho)(w:Same Z Z')(h:Same H H'):Foc K Z' H' v0 u0 L0 π v u:=
 f.mono w (λ_ _=>l8 h) λb y=>by obtain⟨xs,e⟩:=l b y;rw[e];exact h _ _ e
theorem Env.trL {S:Addr->Prop}{B H:Hp}{σ:St}{o:Nat->AL}{i:Nat}(I:Env K S B H σ ρ o)(h:ρ[i]? = some (.tr u0)):∀b∈o i,∃u:HM,H b=some u.ho:=λb e=>I.lists b (.inr ⟨i,_,h,rfl,e⟩)
theorem aL3 {i:Nat}{π:AC}{k:Int}(n:Nat)(hp:AtP K ta ρ i π)(Y:E K false tb ρ (.int k))(U:k=n)(X:∀u0,ρ[i]? = some (.tr u0)->∃u,u0.at π=some u):AtP K (tOp (rIx K) ta tb) ρ i (π++[n]):=λS B σ H o I u0 M h s Q q=>by
 obtain⟨u,y⟩:=X u0 h;rw[aM7 y]at s;refine hp S B σ H o I u0 u h y _ λv0 v m z a f=>?_
 refine Y S B σ m o (I.grow z) _ λw c j r=>?_
 cases r
 have f2:=f.grow ((I.grow z).trL h) (N5 j) j
 obtain⟨p,xs,x,rfl,hs,J,f3⟩:=f2.down y s;have e:=S1 n U J;rcases hs with hs | hs
 .exact .inl ⟨p,xs,k,x,rfl,rfl,hs,e,q v0 x c (L2.Same.tr z j) a f3⟩
 .exact .inr (.inl ⟨p,xs,k,x,rfl,rfl,hs,e,q v0 x c (L2.Same.tr z j) a f3⟩)
end
section
theorem bC8 (I:Env K S B H σ ρ o)(hi:ρ[i]? = some (.tr u0))(hv:σ[i]? = some (some v0))
  (f:Foc K (hid (D6 ρ o S) H) H v0 u0 (o i) π (.ref p) (.lst us)) (s:Same H H2) (Q:∀b∈Lx,H b=none) (dx:Lx.Nodup) (rx:Dp K (hid (λb=>D6 ρ o S b\/b∈Lx) H2) H2 x u Lx)
  (nb:∀(j:Nat) (d:PyData),ρ[j]?≠some (Sl.bor d)) (m:List V->List V) (k:List OT)
  (hc:∀(xs:List V) (M:AL) (Z' H':Hp),Dps K Z' H' xs us M->Dp K Z' H' x u Lx->∃M',Dps K Z' H' (m xs) k M'/\((M++Lx).Nodup->M'.Nodup)/\∀b∈M',b∈M++Lx) :
  ∃xs,H2 p=some (.lst xs)/\xs.length=us.length/\∃o',Env K S B (upd H2 p (.lst (m xs))) σ (ρ.set i (.tr (u0.put π (.lst k)))) o':=by
 obtain⟨nd,v0',hv',r0⟩:=I.tr i u0 hi;obtain⟨L,A,C,h1,R,h3⟩:=f;cases h1 with
 | @lst _ xs _ M hp r=>
 have P:i<ρ.length:=(Ab0.mp hi).1
 have oi:∀b∈o i,cN1 ρ o i b:=λb hb=>⟨_,hi,rfl,hb⟩
 have os:∀b∈o i,D6 ρ o S b:=λb hb=>.inr ⟨i,_,hi,rfl,hb⟩
 have X:p∈o i:=by rw[R];simp
 have w:∀b,(b∈A\/b∈M\/b∈C)->b∈o i/\b≠p:=λb hb=>by
  rw[R]at nd ⊢;refine⟨by rcases hb with hb | hb | hb <;> simp[hb],λe=>?_⟩
  subst e;simp only[Aa4,Aa5,Ab6,Aa0,Aa1,Ad7]at nd;grind
 have lst:=I.trL hi
 have up:∀b,b∈o i->b≠p->upd H2 p (.lst (m xs)) b=H b:=λb hb hne=>by
  rw[B4 hne];obtain⟨c,e⟩:=lst b hb;rw[e];exact s _ _ e
 have tk:∀a c,Rd H2 a (.tup c)->Rd (upd H2 p (.lst (m xs))) a (.tup c):=λa c q=>by
  have n:a≠p:=λe=>by
   subst e
   have:=s _ _ hp
   rcases q with q | ⟨o,q⟩ <;> rw[this]at q <;> cases q
  rcases q with q | ⟨o,q⟩
  .exact .inl (by rw[B4 n];exact q)
  .exact .inr ⟨o,by rw[B4 n];exact q⟩
 have z1:Same (hid (D6 ρ o S) H) (hid (λb=>D6 ρ o S b\/b∈Lx) (upd H2 p (.lst (m xs)))):=λb y q=>by
  obtain⟨J,N⟩:=hid_some.mp q;refine hid_some.mpr ⟨λz=>z.elim J λz=>(by rw[Q b z]at N;cases N),?_⟩
  rw[B4 (λe=>J (os b (by rw[e];exact X)))]
  exact s _ _ N
 have z2:Same (hid (λb=>D6 ρ o S b\/b∈Lx) H2) (hid (λb=>D6 ρ o S b\/b∈Lx) (upd H2 p (.lst (m xs)))):=λb y q=>by
  obtain⟨J,N⟩:=hid_some.mp q;refine hid_some.mpr ⟨J,?_⟩;rw[B4 (λe=>J (.inl (os b (by rw[e];exact X))))]
  exact N
 have pN:p∉Lx:=λz=>by rw[Q p z]at hp;cases hp
 obtain⟨M',c1,c2,c3⟩:=hc xs M _ _ (t4 z1 (λa c q=>tk a c (l8 s q)) us (λb hb=>up b (w b (.inr (.inl hb))).1 (w b (.inr (.inl hb))).2) r)
  (aF7 z2 tk u (λb hb=>by rw[B4 (λe=>pN (by rw[<- e];exact hb))]) rx)
 have D:=h3 _ _ (.lst k) (p::M') z1 (λa c q=>tk a c (l8 s q)) (λb hb=>up b (w b (by rcases hb with hb | hb <;> simp[hb])).1 (w b (by rcases hb with hb | hb <;> simp[hb])).2) (.lst B6 c1)
 have U:∀b∈Lx,b∉o i:=λb hb F=>by
  obtain⟨c,e⟩:=lst b F;rw[Q b hb]at e;cases e
 have mem:∀b∈A++p::M'++C,b∈o i\/b∈Lx:=λb hb=>by
  rw[R]
  have:=c3 b
  simp only[Aa0,Aa1]at hb this ⊢;grind
 have Y:(A++p::M'++C).Nodup:=by
  rw[R]at nd U;simp only[Aa4,Aa5,Ab6,Aa0,Aa1,Ad7]at nd U c2 c3 ⊢;grind
 refine⟨xs,s _ _ hp,aX6 r,bN4 o i (A++p::M'++C),?_⟩
 have:=I.put (H':=upd H2 p (.lst (m xs))) (v:=v0) (x:=.tr (u0.put π (.lst k))) (L:=A++p::M'++C) i P (λb=>b=p) (λb z=>by rw[z];exact oi p X) (λb y q z=>by rw[B4 z];exact s _ _ q)
  (λb hb=>(mem b hb).imp (oi b) (Q b))
  (.inr ⟨_,rfl,Y,D.mono (F4 (L2.Same.rf _) λb z _=>z.elim .inl λz=>(mem b z).elim (λz=>.inl (os b z)) .inr) (L2.Same.rf _)⟩) (.inr nb)
 rw[bA4 hv]at this;exact this
theorem bD5:∀{us:List OT} {xs:List V} {M:AL},Dps K Z H xs us M->Dp K Z H x u Lx->Dps K Z H (xs++[x]) (us++[u]) (M++Lx)
 | [],_,_,r,h=>by cases r;simpa using Dps.cons h .nil
 | a::us,_,_,r,h=>by
  cases r with
  | @cons v _ vs _ La Lb r1 r2=>
   have:=Dps.cons r1 (bD5 r2 h)
   simpa using this
theorem r9 {i:Nat}{π:AC}{R:AE}(hp:AtP K ta ρ i π)(hi:ρ[i]? = some (.tr u0))(X:u0.at π=some (.lst us))(c:EFT K tb ρ u)(m:us.length<sizeLine)(Y:R.nx (ρ.set i (.tr (u0.put π (.lst (us++[u]))))))(nb:V7 ρ=true:=by rfl) :
  W K (bR3 (tBM K "list" aO8 ta (J9 tb W2))) ρ R:=λS B D σ H o I s=>by
 refine hp S B σ H o I u0 _ hi X _ λv0 v y e a f=>?_
 have ⟨L,A,C,f1,f2,f3⟩:=f
 cases f1 with
 | @lst p xs _ M hpp r=>
 refine⟨.inl ⟨rfl,_,SqL.of hpp⟩,?_⟩;refine c S B σ y o (I.grow e) _ λx w H2 P n d F=>?_
 obtain⟨ys,z,k,U,J⟩:=bC8 (I.grow e) hi a f P n d F (N7 nb) (λxs=>xs++[x]) (us++[u]) λxs M Z' H' N Q=>⟨M++w,bD5 N Q,λh=>h,λb j=>j⟩
 exact⟨p,ys,x,rfl,rfl,z,by rw[k];exact m,s.nx _ σ _ U J Y⟩
theorem cG4 {Z H:Hp}{x:V}:∀{us:List OT} {xs:List V} {M:AL} {n:Nat},Dps K Z H xs us M->Dp K Z H x u []->∃M',Dps K Z H (xs.set n x) (us.set n u) M'/\(M.Nodup->M'.Nodup)/\∀b∈M',b∈M
 | [],_,_,n,r,h=>by cases r;exact⟨[],.nil,id,λ_ z=>z⟩
 | a::us,_,_,0,r,h=>by
  cases r with
  | @cons v _ vs _ La Lb r1 r2=>exact⟨Lb,by simpa using Dps.cons h r2,λz=>(Aa4.mp z).2.1,λb hb=>by simp[hb]⟩
 | a::us,_,_,n+1,r,h=>by
  cases r with
  | @cons v _ vs _ La Lb r1 r2=>
   obtain⟨M',h1,y,e⟩:=cG4 (n:=n) r2 h;refine⟨La++M',Dps.cons r1 h1,λz=>?_,λb hb=>?_⟩
   .obtain⟨k,j,c⟩:=Aa4.mp z;exact Aa4.mpr ⟨k,y j,λa w b hb=>c a w b (e b hb)⟩
   .rcases Aa0.mp hb with hb | hb
    .simp[hb]
    .simp[e b hb]
theorem eA8 {i:Nat}{π:AC}{k:Int}{R:AE}(n:Nat)(he:E K true t ρ d)(hp:AtP K ta ρ i π)(hk:E K false tb ρ (.int k))(e:k=n)(hn':n<us.length)(hi:ρ[i]? = some (.tr u0))(hu:u0.at π=some (.lst us))(hn:R.nx (ρ.set i (.tr (u0.put π (.lst (us.set n (.leaf d)))))))(nb:V7 ρ=true:=by rfl) :
  W K (aK1 t (dX2 ta tb cS1)) ρ R:=λS B D σ H o I s=>by
 refine he S B σ H o I _ λx Y j rx=>?_
 refine hp S B σ Y o (I.grow j) u0 _ hi hu _ λv0 v X c a f=>?_
 have ⟨L,A,C,f1,f2,f3⟩:=f
 cases f1 with
 | @lst p xs _ M hpp r=>
 refine hk S B σ X o ((I.grow j).grow c) _ λw H2 m y=>?_
 cases y
 obtain⟨ys,N,e2,o',J⟩:=bC8 (x:=x) (u:=.leaf d) (Lx:=[]) ((I.grow j).grow c) hi a f m (λb z=>nomatch z) .nil (.leaf (rx.mono (L2.Same.tr (N5 (L2.Same.tr c m)) bL5))) (N7 nb) (λxs=>xs.set n x) (us.set n (.leaf d)) λxs M Z' H' r1 r2=>by
  obtain⟨U,Q,F,P⟩:=cG4 (n:=n) r1 r2;exact⟨U,Q,λh=>F (by simpa using h),λb hb=>by simpa using P b hb⟩
 exact⟨p,ys,k,n,rfl,rfl,N,by unfold ixN;rw[Ae (by lia),Ae (by lia)];simp[e],s.nx _ σ _ o' J hn⟩
def EX (K:Frag)(t:TE)(ρ:List Sl)(j:Nat)(d:PyData)(ρ':List Sl):Prop:=
 ∀(S:Addr->Prop) (B:Hp) (σ:St) (H:Hp) (o:Nat->AL),Env K S B H σ ρ o->∀Q:VK,(∀v H' o',Env K S B H' σ ρ' o'->(∀k,k≠j->o' k=o k)->(∀b y,H b=some y->b∉o j->H' b=some y)->(∀b∈o j,∃u:HM,H b=some u.ho) ->
  Same (hid (D6 ρ o S) H) (hid (D6 ρ' o' S) H')->Rep K (hid (D6 ρ' o' S) H') v d->Q v H')->t σ H Q
theorem cB5 (w:ρ[j]? = some (.own (ds++[d])))(nb:V7 ρ=true:=by rfl):EX K (dW3 K "list" dZ7 (F0 j)) ρ j d (ρ.set j (.own ds)):=λS B σ H o I Q q=>by
 obtain⟨p,hp,a,xs,b,c⟩:=I.own j _ w;have M:=c.length;obtain⟨y,h1,X⟩:=c.get' (i:=ds.length) (d:=d) (by simp)
 refine⟨_,a,.inl ⟨rfl,xs,SqL.of b⟩,_,xs,y,rfl,rfl,b,by rw[M];simpa using h1,?_⟩
 have m:=c.dropLast
 rw[List.dropLast_concat]at m;have Y:=I.upd w hp m (N7 nb);have g:=bO2 (S:=S) (H:=H) (xs:=xs.dropLast) (es:=ds) w hp;exact q y _ _ Y (λk J=>V6 (Ne.symm J)) (λs x e n=>by rw[B4 (λz=>n (by rw[hp,z];simp))];exact e) (λs U=>I.lists s (.inr ⟨j,_,w,rfl,U⟩)) g (X.mono g)
theorem cT9 (n:Nat)(X:ρ[j]? = some (.own ds))(U:E K false tb ρ (.int k))(J:k=n)(hn:ds[n]? = some d)(R:n<2^63)(nb:V7 ρ=true:=by rfl):EX K (tBM K "list" cT5 (F0 j) (J9 tb W2)) ρ j d (ρ.set j (.own (ds.eraseIdx n))):=λS B σ D o Y Q q=>by
 obtain⟨p,hp,a,xs,N,P⟩:=Y.own j _ X;refine⟨_,a,.inl ⟨rfl,xs,SqL.of N⟩,?_⟩;refine U S B σ D o Y _ λw H s r=>?_
 cases r
 have I:=Y.grow s
 have b:=s _ _ N
 have c:=P.mono (N5 s)
 obtain⟨y,h1,h2⟩:=c.get' hn;have hl:=(Ab0.mp h1).1;refine⟨_,xs,k,n,y,rfl,rfl,b,by lia,by lia,(bR0 (by unfold ixN;rw[Ae (by lia),Ae (by lia)];simp[J])).1,h1,?_⟩
 have F:=I.upd X hp (c.eraseIdx n) (N7 nb)
 have g:=bO2 (S:=S) (H:=H) (xs:=xs.eraseIdx n) (es:=ds.eraseIdx n) X hp
 exact q y _ _ F (λk U=>V6 (Ne.symm U)) (λM x e m=>by rw[B4 (λz=>m (by rw[hp,z];simp))];exact s _ _ e) (λM R=>Y.lists M (.inr ⟨j,_,X,rfl,R⟩)) (L2.Same.tr (N5 s) g) (h2.mono g)
theorem aR0 {i j:Nat}{R:AE}(J:EX K t ρ j d ρ')(hi:ρ[i]? = some (.own ds))(e:ρ'[i]? = some (.own ds))(X:ds.length<sizeLine)(U:R.nx (ρ'.set i (.own (ds++[d]))))(nb:V7 ρ'=true:=by rfl) :
  W K (bR3 (tBM K "list" aO8 (F0 i) (J9 t W2))) ρ R:=λS B D σ H o I s=>by
 obtain⟨p,hp,a,xs,b,c⟩:=I.own i ds hi;refine⟨_,a,.inl ⟨rfl,xs,SqL.of b⟩,?_⟩;refine J S B σ H o I _ λv M N z _ _ _ _ r=>?_
 obtain⟨Q,y,k,w,Y,m⟩:=z.own i ds e;rw[a]at k;cases k;refine⟨_,w,v,rfl,rfl,Y,by rw[m.length];exact X,?_⟩
 exact s.nx _ σ _ _ (z.upd e y (m.append (.cons r .nil)) (N7 nb)) U
theorem bZ8 {i j:Nat}{π:AC}{R:AE}(hp:AtP K ta ρ i π)(hx:EX K t ρ j d ρ')(w:i≠j)(hj:∃x,ρ[j]? = some x/\x.os=true)(hi:ρ[i]? = some (.tr u0))(c:ρ'[i]? = some (.tr u0))(hu:u0.at π=some (.lst us))(hl:us.length<sizeLine)(hn:R.nx (ρ'.set i (.tr (u0.put π (.lst (us++[.leaf d]))))))(nb:V7 ρ'=true:=by rfl) :
  W K (bR3 (tBM K "list" aO8 ta (J9 t W2))) ρ R:=λS B D σ H o I s=>by
 refine hp S B σ H o I u0 _ hi hu _ λv0 v P Q a f=>?_
 have ⟨L,A,C,f1,f2,f3⟩:=f
 cases f1 with
 | @lst p xs _ M hpp r=>
 refine⟨.inl ⟨rfl,_,SqL.of hpp⟩,?_⟩;refine hx S B σ P o (I.grow Q) _ λx H2 o' I' ho m Y hz rx=>?_
 obtain⟨y,X,U⟩:=hj;have N:=f.mono hz (H':=H2) (λa F q=>by
  have n:a∉o j:=λz=>by
   obtain⟨zs,e⟩:=Y a z;rcases q with q | ⟨o,q⟩ <;> rw[e]at q <;> replace q:=Ab4 q
   .exact HM.nt q
   .exact HM.nf q
  rcases q with q | ⟨o,q⟩
  .exact .inl (m _ _ q n)
  .exact .inr ⟨o,m _ _ q n⟩) λb k=>by
   obtain⟨zs,e⟩:=(I.grow Q).trL hi b k;rw[e];exact m _ _ e λz=>w (I.inj i j _ y hi X rfl U b k z)
 rw[<- ho i w]at N;obtain⟨F,e1,e2,o2,J⟩:=bC8 (x:=x) (u:=.leaf d) (Lx:=[]) I' c a N (L2.Same.rf _) (λb z=>nomatch z) .nil (.leaf (rx.mono bL5)) (N7 nb) (λxs=>xs++[x]) (us++[.leaf d]) λxs M Z' H' r1 r2=>⟨M++[],bD5 r1 r2,λh=>h,λb k=>k⟩
 exact⟨p,F,x,rfl,rfl,e1,by rw[e2];exact hl,s.nx _ σ _ o2 J hn⟩
theorem Env.frz {S:Addr->Prop}{B H:Hp}{σ:St}{o:Nat->AL}{i:Nat}{x:Sl}(I:Env K S B H σ ρ o)(hi:ρ[i]? = some x)(R:x=.own ds/\d=.list ds\/∃u,x=.tr u/\d=u.data):Env K S B H σ (ρ.set i (.val d)) o:=by
 have s:x.os=true:=by rcases R with⟨rfl,_⟩ | ⟨u,rfl,_⟩ <;> rfl
 have J:i<ρ.length:=(Ab0.mp hi).1
 have at_:∀{j:Nat} {y:Sl},y≠.val d->(ρ.set i (.val d))[j]? = some y->i≠j/\ρ[j]? = some y:=λ{j y} w h=>by
  rw[List.getElem?_set]at h;by_cases c:i=j
  .rw[Ae c,Ae (by lia)]at h
   exact absurd (Ab4 h).symm w
  .rw[Ac c]at h;exact⟨c,h⟩
 have nd:∀{y:Sl},y.os=true->y≠.val d:=λ{y} h e=>by rw[e]at h;cases h
 have g:Same (hid (D6 ρ o S) H) (hid (D6 (ρ.set i (.val d)) o S) H):=F4 (L2.Same.rf _) λb z _=>aQ1 rfl z
 have m:∀b∈o i,hid (D6 (ρ.set i (.val d)) o S) H b=H b:=λb X=>by
  obtain⟨xs,e⟩:=I.lists b (.inr ⟨i,x,hi,s,X⟩);rw[e];refine hid_some.mpr ⟨λz=>?_,e⟩
  rcases z with z | ⟨j,y,h,w,U⟩
  .obtain⟨P,e'⟩:=I.sl b z;rw[I.new i x hi s b X]at e';cases e'
  .obtain⟨c,h⟩:=at_ (nd w) h;exact c (I.inj i j x y hi h s w b X U)
 have lists:∀b,D6 (ρ.set i (.val d)) o S b->∃u:HM,H b=some u.ho:=λb z=>I.lists b (aQ1 rfl z)
 refine⟨by simp[I.len],I.base,I.sl,λj y h w=>I.new j y (at_ (nd w) h).2 w,λj k y z h F w Q=>I.inj j k y z (at_ (nd w) h).2 (at_ (nd Q) F).2 w Q,λj D h=>?_,λj Y h=>?_,λj Y h=>?_,λj t h=>?_⟩
 .obtain⟨c,h⟩:=at_ (nd rfl) h;obtain⟨p,M,a,xs,b,N⟩:=I.own j D h;exact⟨p,M,a,xs,b,N.mono g⟩
 .by_cases c:i=j
  .subst c;rw[As J]at h;cases h;rcases R with⟨rfl,rfl⟩ | ⟨u,rfl,rfl⟩
   .obtain⟨p,M,a,xs,b,N⟩:=I.own i ds hi;exact⟨_,a,.lst (SqL.of (by rw[m p (by rw[M];simp)];exact b)) (N.mono g)⟩
   .obtain⟨_,v,a,b⟩:=I.tr i u hi;exact⟨v,a,cD4 T5 (λ_ _ q=>z7 lists q) g u m b⟩
  .rw[Ad0 c]at h;obtain⟨v,a,b⟩:=I.val j Y h;exact⟨v,a,b.mono g⟩
 .obtain⟨c,h⟩:=at_ (by simp) h
  exact I.bor j Y h
 .obtain⟨c,h⟩:=at_ (nd rfl) h;obtain⟨n,v,a,b⟩:=I.tr j t h;exact⟨n,v,a,b.mono g (L2.Same.rf _)⟩
theorem bU1 {i:Nat}{t:TS}{R:AE}(hi:ρ[i]? = some (.own ds))(h:W K t (ρ.set i (.val (.list ds))) R):W K t ρ R:=λS B D σ H o I s=>h S B D σ H o (I.frz hi (.inl ⟨rfl,rfl⟩)) s
theorem cY5 {i:Nat}{t:TS}{R:AE}(hi:ρ[i]? = some (.tr u))(h:W K t (ρ.set i (.val u.data)) R):W K t ρ R:=λS B D σ H o I s=>h S B D σ H o (I.frz (ds:=[]) hi (.inr ⟨u,rfl,rfl⟩)) s
theorem aG3 {α:Type}{f:α->OT}{g:α->PyData}(h:∀a,(f a).data=g a):∀l:List α,OT.datas (l.map f)=l.map g
 | []=>rfl
 | a::l=>by simp[OT.datas,h a,aG3 h l]
end
end LV
namespace LV
open PySem PySem.Spec PyProof.Rows L2
def dG7 (K:Frag):R2:=λx y H Q=>∃l b xs zs,x=.ref l/\y=.ref b/\SqL K H l xs/\SqL K H b zs/\xs.length+zs.length<=sizeLine/\∀p,H p=none->Q (.ref p) (upd H p (.lst (xs++zs)))
theorem Q1 (K:Frag)(h:X.K=K:=by rfl):OpR X (binaryOp .Add) (dG7 K):=by
 subst h;intro aA s σ H x y v u Q I rx ry h;obtain⟨l,b,xs,zs,rfl,rfl,hH,P,hz,q⟩:=h;cases rx;cases ry;obtain⟨its,r,⟨⟨D,B,data,sl⟩,n,ho,J,hdd,M⟩,_⟩:=I.list hH;obtain⟨w,R,⟨⟨U,m,c,Y⟩,n2,j,z,N,k⟩,_⟩:=I.list P;simp only at J M z k;subst J M z k;have e:its.toArray++w.toArray=(its++w).toArray:=by simp
 have hl:=r.length
 have hl2:=R.length
 refine concat_meets ⟨_,ho,rfl⟩ ⟨_,j,rfl⟩ noFill_list_add seq_list_add PySem.F.slot_list_add PySem.F.entry_list_add (PySem.F.args_list_add_2 _ _) (list_addW l b its.toArray w.toArray n n2 B m sl Y (by simp;lia)) ⟨ho,j,?_⟩
 rw[e];exact⟨.ref _,_,I.lnew (t':=s.toks) (r.append R) (by rw[Ab7];lia),rfl,q _ I.fresh⟩
end LV
namespace LV
open PySem L2
section
theorem aE6:∀{l l':AF},M9 (l++l')=(M9 l&&M9 l')
 | [],l'=>by simp[M9]
 | a::l,l'=>by simp[M9,aE6 (l:=l),Bool.and_assoc]
theorem bW1:∀{l:AF},M9 l=true->∀d∈l,imm d=true
 | [],_,d,hd=>by simp at hd
 | a::l,h,d,hd=>by
  simp[M9]at h
  rcases Aa1.mp hd with rfl | z
  .exact h.1
  .exact bW1 h.2 d z
theorem bP4 (c:E K false ta ρ (.list ds))(s:E K false tb ρ (.list es))(hi:M9 ds=true)(z:M9 es=true)(m:ds.length+es.length<=sizeLine:=by first | decide | (unfold sizeLine;simp;done)):EF K (tOp (dG7 K) ta tb) ρ (ds++es):=λS B σ H o I Q q=>
 c S B σ H o I _ λx j w Y=>s S B σ j o (I.grow w) _ λy U e X=>by
  cases Y with
  | @lst a xs _ sa ra=>
  cases X with
  | @lst b ys _ sb rb=>
  have k:=ra.mono e
  refine⟨a,b,xs,ys,rfl,rfl,P1 e sa,sb,by rw[ra.length,rb.length];exact m,λp hp=>q p _ _ (L2.Same.tr w (L2.Same.tr e (D4 hp))) (S8 (L2.Same.tr w e) hp) B6 (aE8 ((I.grow w).grow e).lists hp (k.append rb) ?_)⟩
  rw[aE6,hi,z];rfl
def O (K:Frag)(t:TO)(ρ:List Sl)(i:Option Int):Prop:=
 ∀(S:Addr->Prop) (B:Hp) (σ:St) (H:Hp) (o:Nat->AL),Env K S B H σ ρ o->∀Q,(∀H',Same H H'->Q i H')->t σ H Q
def aR2 (xs:AF)(lo hi:Option Int):AF:=List.take (HT.sIx xs.length xs.length hi-HT.sIx xs.length 0 lo) (List.drop (HT.sIx xs.length 0 lo) xs)
theorem Reps.cut (r:Reps K H xs ds)(lo hi:Option Int):Reps K H (bO9 xs lo hi) (aR2 ds lo hi):=by
 unfold bO9 aR2;rw[r.length];exact(r.drop _).take _
theorem X5 (lo hi:Option Int)(h:M9 ds=true):M9 (aR2 ds lo hi)=true:=by
 refine bP9 λd e=>?_
 have:d∈ds:=Co (Bg e)
 exact bW1 h d this
theorem aS2:O K aW6 ρ none:=λS B σ H o I Q q=>q H (L2.Same.rf _)
theorem X6 (h:E K false t ρ (.int i)):O K (dS9 t) ρ (some i):=λS B σ H o I Q q=>h S B σ H o I _ λv e s r=>by
 cases r
 exact⟨i,rfl,q e s⟩
theorem aY8 {n:Nat}(h:n<=ds.length):aR2 ds (some (n:Int)) none=ds.drop n:=by
 unfold aR2 HT.sIx;simp only[];rw[Ac (by lia),Ac8,Nat.min_eq_left h]
 exact Cj (by simp)
theorem bP7 {n:Nat}(h:n<=ds.length):aR2 ds none (some (n:Int))=ds.take n:=by
 unfold aR2 HT.sIx;simp only[];rw[Ac (by lia),Ac8,Nat.min_eq_left h]
 simp
theorem cV1 (c:E K false ta ρ (.list ds))(m:O K tl ρ lo)(s:O K th ρ hi)(w:M9 ds=true):EF K (tSl (eA5 K) ta tl th) ρ (aR2 ds lo hi):=λS B σ H o I Q q=>
 c S B σ H o I _ λx k y Y=>m S B σ k o (I.grow y) _ λj z=>s S B σ j o ((I.grow y).grow z) _ λU X=>by
  cases Y with
  | @lst a xs _ sa ra=>
  have e:=L2.Same.tr z X
  exact⟨a,xs,rfl,P1 e sa,λp hp=>q p _ _ (L2.Same.tr y (L2.Same.tr e (D4 hp))) (S8 (L2.Same.tr y e) hp) B6 (aE8 (I.grow (L2.Same.tr y e)).lists hp ((ra.mono e).cut lo hi) (X5 lo hi w))⟩
end
end LV
namespace L2
open PySem
def dU1:Expr->Bool
 | .Starred ..=>false
 | _=>true
theorem bA7 (h:dU1 e=true):starEach (e::es) env=(false,eval e env)::starEach es env:=by
 cases e <;> first | rfl | cases h
theorem A0 (y:PE X e te)(w:PA X es t)(h:dU1 e=true:=by rfl):PA X (e::es) (J9 te t):=dO0 y w (bA7 h)
theorem aY6 {X:Cx}(K:Frag){e:Expr}{te:TE}{p1 p2 pos1 pos2:Pos}(c:X.calm=true)(y:Gl X "list")(z:X.mg "list" = none)(w:Gl X "reversed")(k:X.mg "reversed" = none)(s:PE X e te)(j:X.K=K:=by rfl)(h:dU1 e=true:=by rfl) :
  PE X (.Call (.Name "list" p1) [.Call (.Name "reversed" p2) [e] [] pos2] [] pos1) (LV.cH6 K te):=
 LV.bX6 K c y z w k s j (bA7 h) (bA7 rfl)
end L2
namespace TT
def lin:AC->Nat->Nat->Prop
 | c::d::l,a,b=>(a=c/\b=d)\/lin (d::l) a b
 | _,_,_=>False
theorem cE8 (a b:Nat):lin [] a b↔False:=Iff.rfl
theorem aX8 (c a b:Nat):lin [c] a b↔False:=Iff.rfl
theorem E4 (c d:Nat)(l:AC)(a b:Nat):lin (c::d::l) a b↔(a=c/\b=d)\/lin (d::l) a b:=Iff.rfl
theorem F8 (c:Nat)(w:AC)(a b:Nat):∀u:AC,lin (u++c::w) a b↔lin (u++[c]) a b\/lin (c::w) a b
 | []=>by simp[aX8]
 | [d]=>by simp[E4,aX8]
 | d::e::u=>by
  have y:=F8 c w a b (e::u)
  simp only[Ab6,E4]at y ⊢;rw[y];grind
theorem V2:∀{u:AC},lin (u++[c]) a b->a∈u
 | [],h=>h.elim
 | [d],h=>by
  rcases (E4 ..).mp h with⟨rfl,rfl⟩ | h
  .simp
  .exact h.elim
 | d::e::u,h=>by
  rcases (E4 ..).mp h with⟨rfl,rfl⟩ | h
  .simp
  .exact Ad4 _ (V2 (u:=e::u) h)
theorem aE9 (h:lin (c::u) a b):b∈u:=by
 induction u generalizing c with
 | nil=>exact h.elim
 | cons d u e=>
  rcases (E4 ..).mp h with⟨rfl,rfl⟩ | h
  .simp
  .exact Ad4 _ (e h)
theorem aG1 (h:lin l a b):a∈l/\b∈l:=by
 induction l with
 | nil=>exact h.elim
 | cons c l e=>
  refine⟨?_,Ad4 _ (aE9 h)⟩;cases l with
  | nil=>exact h.elim
  | cons d l=>
   rcases (E4 ..).mp h with⟨rfl,rfl⟩ | h
   .simp
   .exact Ad4 _ (e h).1
def adj (l:AC)(a b:Nat):Prop:=lin (l++l.take 1) a b
structure Edit (row row':Nat->AC)(v x y:Nat)(L C R:AC):Prop where
 nd:∀q,(row q).Nodup
 self:∀q,q∉row q
 tri:∀q a b,adj (row q) a b->adj (row a) b q
 v2:v≠2
 fresh:∀q,v∉row q
 two:row 2=L++x::(C++y::R)
 newv:row' v=x::(C++[y,2])
 oldv:row v=[]
 new2:row' 2=L++x::v::y::R
 rx:∃u z w,row x=u++z::2::w/\row' x=u++z::v::2::w
 ry:∃u w,row y=u++2::w/\row' y=u++2::v::w
 rc:∀c∈C,∃u z w,row c=u++z::2::w/\row' c=u++z::v::w
 rest:∀q,q≠2->q≠v->q≠x->q≠y->q∉C->row' q=row q
section
def EE (x y:Nat)(C:AC)(a b:Nat):Prop:=lin (x::(C++[y])) a b
def W (x y:Nat)(C:AC)(q a b:Nat):Prop:=(q=2/\EE x y C a b)\/(b=2/\EE x y C q a)\/(a=2/\EE x y C b q)
def W' (v x y:Nat)(C:AC)(q a b:Nat):Prop:=(q=v/\EE x y C a b)\/(b=v/\EE x y C q a)\/(a=v/\EE x y C b q) \/
 (q=2/\a=x/\b=v)\/(q=x/\a=v/\b=2)\/(q=v/\a=2/\b=x)\/(q=2/\a=v/\b=y)\/(q=v/\a=y/\b=2)\/(q=y/\a=2/\b=v)
theorem bB1 (h:EE x y C a b):(a=x\/a∈C)/\(b∈C\/b=y):=by
 have h1:=V2 (u:=x::C) h
 have e:=aE9 h
 exact⟨by simpa using h1,by simpa using e⟩
theorem Edit.facts (E:Edit row row' v x y L C R):(x≠y/\x≠2/\y≠2/\x≠v/\y≠v)/\(∀c∈C,c≠x/\c≠y/\c≠2/\c≠v)/\(L++x::(C++y::R)).Nodup:=by
 have h:=E.nd 2
 have e:=E.self 2
 have w:=E.fresh 2
 rw[E.two]at h e w;refine⟨?_,?_,h⟩
 .grind
 .intro c hc;grind
theorem eL8 (E:Edit row row' v x y L C R)(a b:Nat):adj (row' 2) a b↔(adj (row 2) a b/\¬W x y C 2 a b)\/W' v x y C 2 a b:=by
 obtain⟨⟨f1,f2,f3,B,P⟩,fc,nd⟩:=E.facts;unfold adj;rw[E.two,E.new2];have Q:(L++x::(C++y::R)).take 1=(L++[x]).take 1:=by cases L <;> simp
 have D:(L++x::v::y::R).take 1=(L++[x]).take 1:=by cases L <;> simp
 rw[Q,D];generalize s:(L++[x]).take 1=t;have M:∀c∈t,c∈L++[x]:=λc j=>by rw[<- s]at j;exact Bg j
 have Y:L++x::(C++y::R)++t=L++x::(C++y::(R++t)):=by simp
 have X:L++x::v::y::R++t=L++x::v::y::(R++t):=by simp
 have U:x::(C++y::(R++t))=(x::C)++y::(R++t):=by simp
 rw[Y,X,F8 x (v::y::(R++t)) a b L,F8 x (C++y::(R++t)) a b L,U,F8 y _ a b (x::C),E4 x v,E4 v y];have J:lin ((x::C)++[y]) a b↔EE x y C a b:=Iff.rfl;rw[J];have w := @bB1 x y C;have g1:lin (L++[x]) a b->¬EE x y C a b:=λh q=>by
  have:=(aG1 h).2
  have:=(w q).2
  grind
 have g2:lin (y::(R++t)) a b->¬EE x y C a b:=λh q=>by
  have h2:=(w q).1
  have h3:a∈y::R:=by
   match t,s with
   | [],_=>
    rcases Ac5 R with e | ⟨m,z,e⟩
    .subst e;exact h.elim
    .subst e
     have:=V2 (u:=y::m) (by simpa using h)
     simp at this ⊢;try grind
   | [z],_=>exact V2 (u:=y::R) h
   | z::z'::t',e=>
    have:=congrArg List.length e
    simp at this
  grind
 have F:W x y C 2 a b↔EE x y C a b:=by
  unfold W;constructor
  .rintro (⟨_,h⟩ | ⟨_,h⟩ | ⟨_,h⟩)
   .exact h
   .have:=(w h).1;grind
   .have:=(w h).2;grind
  .exact λh=>.inl ⟨rfl,h⟩
 have k:W' v x y C 2 a b↔(a=x/\b=v)\/(a=v/\b=y):=by
  unfold W';have N:=E.v2;constructor
  .rintro (⟨h,_⟩ | ⟨_,h⟩ | ⟨_,h⟩ | h | h | h | h | h | h)
   .exact absurd h.symm N
   .have:=(w h).1;grind
   .have:=(w h).2;grind
   all_goals grind
  .grind
 rw[F,k];grind
theorem tk1 {l:AC}(h:l≠[]):∃c,l.take 1=[c]/\c∈l:=by
 cases l with
 | nil=>exact absurd rfl h
 | cons c l=>exact⟨c,by simp,by simp⟩
theorem bN7 (E:Edit row row' v x y L C R)(a b:Nat):∃t,(∀c∈t,c∈L++[x])/\t.length=1/\(adj (row 2) a b↔lin (L++[x]) a b\/EE x y C a b\/lin (y::(R++t)) a b):=by
 refine⟨(L++[x]).take 1,λc z=>Bg z,by simp,?_⟩
 unfold adj;rw[E.two];have k:(L++x::(C++y::R)).take 1=(L++[x]).take 1:=by cases L <;> simp
 rw[k];generalize (L++[x]).take 1=t;have e:L++x::(C++y::R)++t=L++x::(C++y::(R++t)):=by simp
 have w:x::(C++y::(R++t))=(x::C)++y::(R++t):=by simp
 rw[e,F8 x (C++y::(R++t)) a b L,w,F8 y _ a b (x::C)];exact Iff.rfl
theorem aX0 (E:Edit row row' v x y L C R)(h:EE x y C a b):adj (row 2) a b:=by
 obtain⟨t,_,_,e⟩:=bN7 E a b;exact e.mpr (.inr (.inl h))
theorem cL8 (E:Edit row row' v x y L C R)(h:adj (row 2) a b)(k:a=x\/a∈C):EE x y C a b:=by
 obtain⟨_,_,nd⟩:=E.facts;obtain⟨t,j,w,e⟩:=bN7 E a b;rcases e.mp h with h | h | h
 .have:=V2 h;grind
 .exact h
 .obtain⟨z,rfl⟩:∃z,t=[z]:=List.length_eq_one_iff.mp w
  have:=V2 (u:=y::R) h
  grind
theorem bW8 (E:Edit row row' v x y L C R)(h:adj (row 2) a b)(w:b∈C\/b=y):EE x y C a b:=by
 obtain⟨_,_,nd⟩:=E.facts;obtain⟨t,k,z,e⟩:=bN7 E a b;rcases e.mp h with h | h | h
 .have:=(aG1 h).2;grind
 .exact h
 .have:=aE9 h
  grind
theorem eD4 (E:Edit row row' v x y L C R):adj (row 2) a b↔adj (row a) b 2:=⟨E.tri _ _ _,λh=>E.tri _ _ _ (E.tri _ _ _ h)⟩
theorem dH1 (E:Edit row row' v x y L C R):adj (row 2) a b↔adj (row b) 2 a:=⟨λh=>E.tri _ _ _ (E.tri _ _ _ h),λh=>E.tri _ _ _ h⟩
theorem eL2 (E:Edit row row' v x y L C R)(a b:Nat):adj (row' v) a b↔(adj (row v) a b/\¬W x y C v a b)\/W' v x y C v a b:=by
 obtain⟨⟨f1,f2,f3,j,s⟩,m,nd⟩:=E.facts;have Y:=E.v2;unfold adj;rw[E.newv,E.oldv];have e:x::(C++[y,2])++(x::(C++[y,2])).take 1=(x::C)++y::[2,x]:=by simp
 rw[e,F8 y [2,x] a b (x::C),E4,E4];have z:lin ((x::C)++[y]) a b↔EE x y C a b:=Iff.rfl;rw[z];have w := @bB1 x y C;have h1:∀c,¬EE x y C v c:=λc h=>by have:=(w h).1;grind
 have k:∀c,¬EE x y C c v:=λc h=>by have:=(w h).2;grind
 unfold W'
 simp[cE8,aX8,h1,k]
 grind
theorem eK9 (E:Edit row row' v x y L C R)(a b:Nat):adj (row' x) a b↔(adj (row x) a b/\¬W x y C x a b)\/W' v x y C x a b:=by
 obtain⟨⟨f1,f2,f3,X,f5⟩,fc,nd⟩:=E.facts;have hv:=E.v2;obtain⟨u,z,w,o,n⟩:=E.rx;have j:=E.nd x;have k:∀c,EE x y C x c↔adj (row x) c 2:=λc=>⟨λh=>E.tri _ _ _ (aX0 E h),λh=>cL8 E ((eD4 E).mpr h) (.inl rfl)⟩
 have J := @bB1 x y C
 have s:∀c,¬EE x y C c x:=λc h=>by have:=(J h).2;grind
 have B:W x y C x a b↔(b=2/\adj (row x) a 2):=by unfold W;simp[f2,s,k]
 have P:W' v x y C x a b↔(b=v/\adj (row x) a 2)\/(a=v/\b=2):=by unfold W';simp[f2,X,f1,s,k]
 rw[B,P];unfold adj;rw[o]at j;rw[o,n];have D:(u++z::2::w).take 1=(u++[z]).take 1:=by cases u <;> simp
 have F:(u++z::v::2::w).take 1=(u++[z]).take 1:=by cases u <;> simp
 rw[D,F];have M:∀c∈(u++[z]).take 1,c∈u++[z]:=λc U=>Bg U
 generalize (u++[z]).take 1=t at M;have m:u++z::2::w++t=u++z::2::(w++t):=by simp
 have Y:u++z::v::2::w++t=u++z::v::2::(w++t):=by simp
 rw[m,Y,F8 z (2::(w++t)) a b u,F8 z (v::2::(w++t)) a b u,F8 z (2::(w++t)) a 2 u,E4,E4,E4,E4];have N:¬lin (u++[z]) a 2:=λh=>by have:=(aG1 h).2;grind
 have Q:¬lin (2::(w++t)) a 2:=λh=>by have:=aE9 h;grind
 have n3:lin (u++[z]) a b->b≠2:=λh e=>N (e▸h)
 have n4:lin (2::(w++t)) a b->b≠2:=λh e=>Q (e▸h)
 grind
theorem eL9 (E:Edit row row' v x y L C R)(a b:Nat):adj (row' y) a b↔(adj (row y) a b/\¬W x y C y a b)\/W' v x y C y a b:=by
 obtain⟨⟨f1,f2,f3,f4,N⟩,fc,nd⟩:=E.facts;have hv:=E.v2;obtain⟨u,w,o,n⟩:=E.ry;have s:=E.nd y;have j:∀c,EE x y C c y↔adj (row y) 2 c:=λc=>⟨λh=>(dH1 E).mp (aX0 E h),λh=>bW8 E ((dH1 E).mpr h) (.inr rfl)⟩
 have Q := @bB1 x y C
 have Y:∀c,¬EE x y C y c:=λc h=>by have:=(Q h).1;grind
 have P:W x y C y a b↔(a=2/\adj (row y) 2 b):=by unfold W;simp[f3,Y,j]
 have w2:W' v x y C y a b↔(a=v/\adj (row y) 2 b)\/(a=2/\b=v):=by unfold W';simp[f3,N,Ne.symm f1,Y,j]
 rw[P,w2];unfold adj;rw[o]at s;rw[o,n];have F:(u++2::w).take 1=(u++[2]).take 1:=by cases u <;> simp
 have B:(u++2::v::w).take 1=(u++[2]).take 1:=by cases u <;> simp
 rw[F,B];obtain⟨h,D,hh⟩:=tk1 (l:=u++[2]) (by simp)
 rw[D];have J:u++2::w++[h]=u++2::(w++[h]):=by simp
 have M:u++2::v::w++[h]=u++2::v::(w++[h]):=by simp
 rw[J,M];obtain⟨z,k,m⟩:∃z k,w++[h]=z::k:=by cases w with
  | nil=>exact⟨h,[],rfl⟩
  | cons c w=>exact⟨c,w++[h],rfl⟩
 have U:∀b,¬lin (z::k) 2 b:=λb q=>by rw[<- m]at q;have:=V2 q;grind
 have X:∀b,¬lin (u++[2]) 2 b:=λb q=>by have:=V2 q;grind
 rw[m,F8 2 (z::k) a b u,F8 2 (v::z::k) a b u,F8 2 (z::k) 2 b u,E4,E4,E4,E4];have n3:lin (u++[2]) a b->a≠2:=λh e=>X b (e▸h)
 have n4:lin (z::k) a b->a≠2:=λh e=>U b (e▸h)
 have:=X b
 have:=U b
 grind
theorem eL5 (E:Edit row row' v x y L C R)(m:c∈C)(a b:Nat):adj (row' c) a b↔(adj (row c) a b/\¬W x y C c a b)\/W' v x y C c a b:=by
 obtain⟨⟨f1,f2,f3,f4,f5⟩,F,nd⟩:=E.facts;obtain⟨P,g2,M,g4⟩:=F c m;have hv:=E.v2;obtain⟨u,z,w,o,n⟩:=E.rc c m;have U:=E.nd c;have e:∀d,EE x y C c d↔adj (row c) d 2:=λd=>⟨λh=>E.tri _ _ _ (aX0 E h),λh=>cL8 E ((eD4 E).mpr h) (.inr m)⟩
 have j:∀d,EE x y C d c↔adj (row c) 2 d:=λd=>⟨λh=>(dH1 E).mp (aX0 E h),λh=>bW8 E ((dH1 E).mpr h) (.inl m)⟩
 have w1:W x y C c a b↔(b=2/\adj (row c) a 2)\/(a=2/\adj (row c) 2 b):=by unfold W;simp[M,e,j]
 have w2:W' v x y C c a b↔(b=v/\adj (row c) a 2)\/(a=v/\adj (row c) 2 b):=by unfold W';simp[P,g2,M,g4,e,j]
 rw[w1,w2];have B:v∉row c:=E.fresh c;unfold adj;rw[o]at U B;rw[o,n];have t1:(u++z::2::w).take 1=(u++[z]).take 1:=by cases u <;> simp
 have t2:(u++z::v::w).take 1=(u++[z]).take 1:=by cases u <;> simp
 rw[t1,t2];obtain⟨h,ht,hh⟩:=tk1 (l:=u++[z]) (by simp)
 rw[ht];have N:u++z::2::w++[h]=u++z::2::(w++[h]):=by simp
 have Q:u++z::v::w++[h]=u++z::v::(w++[h]):=by simp
 rw[N,Q];obtain⟨k,s,D⟩:∃k s,w++[h]=k::s:=by cases w with
  | nil=>exact⟨h,[],rfl⟩
  | cons c w=>exact⟨c,w++[h],rfl⟩
 have J:2∉w++[h]:=by grind
 rw[D]at J ⊢;have Y:∀p q,lin (u++[z]) p q->p≠2/\q≠2:=λp q h=>by have:=aG1 h;grind
 have X:∀p q,lin (k::s) p q->p≠2/\q≠2:=λp q h=>by have:=aG1 h;grind
 have fl:∀p q r,lin (u++z::r::k::s) p q↔lin (u++[z]) p q\/(p=z/\q=r)\/(p=r/\q=k)\/lin (k::s) p q:=λp q r=>by
  rw[F8 z (r::k::s) p q u,E4,E4]
 rw[fl,fl,fl,fl]
 have:=Y a b
 have:=X a b
 have:=Y a 2
 have:=X a 2
 have:=Y 2 b
 have:=X 2 b
 grind
theorem eL3 (E:Edit row row' v x y L C R)(e:q≠2)(z:q≠v)(k:q≠x)(j:q≠y)(Y:q∉C)(a b:Nat):adj (row' q) a b↔(adj (row q) a b/\¬W x y C q a b)\/W' v x y C q a b:=by
 rw[E.rest q e z k j Y];have w := @bB1 x y C;have s:∀c,¬EE x y C q c:=λc h=>by have:=(w h).1;grind
 have m:∀c,¬EE x y C c q:=λc h=>by have:=(w h).2;grind
 unfold W W'
 simp[e,z,k,j,s,m]
theorem cV3 (E:Edit row row' v x y L C R)(q a b:Nat):adj (row' q) a b↔(adj (row q) a b/\¬W x y C q a b)\/W' v x y C q a b:=by
 by_cases e:q=2
 .subst e;exact eL8 E a b
 by_cases z:q=v
 .subst z;exact eL2 E a b
 by_cases k:q=x
 .subst k;exact eK9 E a b
 by_cases j:q=y
 .subst j;exact eL9 E a b
 by_cases w:q∈C
 .exact eL5 E w a b
 .exact eL3 E e z k j w a b
theorem Edit.tri' (E:Edit row row' v x y L C R)(q a b:Nat)(h:adj (row' q) a b):adj (row' a) b q:=by
 rw[cV3 E]at h ⊢;rcases h with⟨h,n⟩ | h
 .refine .inl ⟨E.tri _ _ _ h,?_⟩;unfold W at n ⊢;grind
 .right
  unfold W' at h ⊢;rcases h with h | h | h | h | h | h | h | h | h
  all_goals obtain⟨e,h⟩:=h
  all_goals simp[e,h]
theorem Edit.nd' (E:Edit row row' v x y L C R)(q:Nat):(row' q).Nodup:=by
 obtain⟨⟨f1,f2,f3,Y,X⟩,U,nd⟩:=E.facts;have J:=E.v2;by_cases k:q=2
 .subst k;rw[E.new2]
  have:=E.fresh 2
  rw[E.two]at this;grind
 by_cases c:q=v
 .subst c;rw[E.newv];grind
 by_cases s:q=x
 .subst s;obtain⟨u,z,w,o,n⟩:=E.rx;have h1:=E.nd q;have e:=E.fresh q;rw[o]at h1 e;rw[n];grind
 by_cases m:q=y
 .subst m;obtain⟨u,w,o,n⟩:=E.ry;have h1:=E.nd q;have e:=E.fresh q;rw[o]at h1 e;rw[n];grind
 by_cases j:q∈C
 .obtain⟨u,z,w,o,n⟩:=E.rc q j;have h1:=E.nd q;have e:=E.fresh q;rw[o]at h1 e;rw[n];grind
 .rw[E.rest q k c s m j];exact E.nd q
theorem Edit.self' (E:Edit row row' v x y L C R)(q:Nat):q∉row' q:=by
 obtain⟨⟨f1,f2,f3,Y,X⟩,U,nd⟩:=E.facts;have J:=E.v2;have e:=E.self q;by_cases k:q=2
 .subst k;rw[E.two]at e;rw[E.new2];grind
 by_cases c:q=v
 .subst c;rw[E.newv];grind
 by_cases s:q=x
 .subst s;obtain⟨u,z,w,o,n⟩:=E.rx;rw[o]at e;rw[n];grind
 by_cases m:q=y
 .subst m;obtain⟨u,w,o,n⟩:=E.ry;rw[o]at e;rw[n];grind
 by_cases j:q∈C
 .obtain⟨u,z,w,o,n⟩:=E.rc q j;rw[o]at e;rw[n];grind
 .rw[E.rest q k c s m j];exact e
end
structure S where
 k:Nat
 path:AC
 heap:AC
 i0:Nat->AC
 i1:Nat->AC
 i2:Nat->AC
 o0:Nat->Nat
 o1:Nat->Nat
 o2:Nat->Nat
def put {α:Type}(f:Nat->α)(a:Nat)(x:α):Nat->α:=λb=>if b=a then x else f b
theorem E3:put f a x a=x:=by simp[put]
theorem C7 (h:b≠a):put f a x b=f b:=by simp[put,h]
def S.row (s:S)(q:Nat):AC:=
 if q=0 then 1::(s.i0 0++[2]) else if q=1 then 2::((s.i1 1).reverse++[0]) else if q=2 then s.path.reverse++s.heap
 else if q<s.k+3 then s.o0 q::(s.i2 q++s.o1 q::(s.i0 q++s.o2 q::(s.i1 q).reverse)) else []
def S.first:S:={k:=0,path:=[0],heap:=[1],i0:=λ_=>[],i1:=λ_=>[],i2:=λ_=>[],o0:=λ_=>2,o1:=λ_=>2,o2:=λ_=>2}
def S.h1 (s:S)(a:Nat):AC:=(s.path.take a).reverse++s.heap
def S.step (s:S)(a b:Nat):S where
 k:=s.k+1
 path:=(s.k+3)::s.path.drop a
 heap:=(s.h1 a).drop b
 i0:=put s.i0 ((s.path.drop a).headD 0) (s.i0 ((s.path.drop a).headD 0)++[s.k+3])
 i1:=put s.i1 (((s.h1 a).drop b).headD 0) (s.i1 (((s.h1 a).drop b).headD 0)++[s.k+3])
 i2:=put s.i2 (s.k+3) ((s.h1 a).take b)
 o0:=put s.o0 (s.k+3) ((s.path.drop a).headD 0)
 o1:=put s.o1 (s.k+3) (((s.h1 a).drop b).headD 0)
 o2:=λq=>if q=s.k+3 then 2 else if q∈(s.h1 a).take b then s.k+3 else s.o2 q
structure bP0 (s:S):Prop where
 nd:∀q,(s.row q).Nodup
 self:∀q,q∉s.row q
 tri:∀q a b,adj (s.row q) a b->adj (s.row a) b q
 lt:∀q,∀p∈s.row q,p<s.k+3
 pe:∃p,s.path=p++[0]
 he:∃h,s.heap=h++[1]
 bd:∀q,(q∈s.path\/q∈s.heap)->q≠2/\(3<=q->s.o2 q=2)
 emp:∀q,s.k+3<=q->s.i0 q=[]/\s.i1 q=[]
theorem bP5 {s:S}{q:Nat}(h:s.k+3<=q):s.row q=[]:=by
 unfold S.row;rw[Ac (by lia),Ac (by lia),Ac (by lia),Ac (by lia)]
theorem U0 {s:S}{q:Nat}(h:3<=q)(h':q<s.k+3):s.row q=s.o0 q::(s.i2 q++s.o1 q::(s.i0 q++s.o2 q::(s.i1 q).reverse)):=by
 unfold S.row;rw[Ac (by lia),Ac (by lia),Ac (by lia),Ae h']
theorem aP7 {s:S}:s.row 2=s.path.reverse++s.heap:=by simp[S.row]
theorem aL4 {s:S}:s.row 0=1::(s.i0 0++[2]):=by simp[S.row]
theorem bD8 {s:S}:s.row 1=2::((s.i1 1).reverse++[0]):=by simp[S.row]
theorem cA5:bP0 S.first where
 nd:=λq=>by
  unfold S.row S.first;dsimp only
  repeat' split
  all_goals simp
  lia
 self:=λq=>by
  unfold S.row S.first;dsimp only
  repeat' split
  all_goals simp
  all_goals lia
 tri:=λq a b h=>by
  have e:∀q a b,adj (S.first.row q) a b↔(q=0/\((a=1/\b=2)\/(a=2/\b=1)))\/(q=1/\((a=2/\b=0)\/(a=0/\b=2)))\/(q=2/\((a=0/\b=1)\/(a=1/\b=0))):=λq a b=>by
   unfold S.row S.first adj;dsimp only
   repeat' split
   all_goals (simp_all[lin])
   all_goals lia
  rw[e]at h ⊢;rcases h with⟨rfl,⟨rfl,rfl⟩ | ⟨rfl,rfl⟩⟩ | ⟨rfl,⟨rfl,rfl⟩ | ⟨rfl,rfl⟩⟩ | ⟨rfl,⟨rfl,rfl⟩ | ⟨rfl,rfl⟩⟩ <;> decide
 lt:=λq p=>by
  unfold S.row S.first;dsimp only
  repeat' split
  all_goals (simp <;> lia)
 pe:=⟨[],rfl⟩
 he:=⟨[],rfl⟩
 bd:=λq h=>by
  simp only[S.first,Ad8]at h
  lia
 emp:=λq _=>⟨rfl,rfl⟩
theorem cH3 {s:S}(I:bP0 s){a b:Nat}(ha:a<s.path.length)(hb:b<a+s.heap.length) :
  ∃x px y hy,s.path.drop a=x::px/\(s.h1 a).drop b=y::hy/\Edit s.row (s.step a b).row (s.k+3) x y px.reverse ((s.h1 a).take b) hy/\bP0 (s.step a b):=by
 obtain⟨p0,M⟩:=I.pe;obtain⟨h0,F⟩:=I.he;obtain⟨x,px,ex⟩:∃x px,s.path.drop a=x::px:=by
  cases e:s.path.drop a with
  | nil=>have:=List.drop_eq_nil_iff.mp e;lia
  | cons x px=>exact⟨x,px,rfl⟩
 have hl:(s.h1 a).length=a+s.heap.length:=by
  unfold S.h1;simp;lia
 obtain⟨y,hy,j⟩:∃y hy,(s.h1 a).drop b=y::hy:=by
  cases e:(s.h1 a).drop b with
  | nil=>have:=List.drop_eq_nil_iff.mp e;lia
  | cons y hy=>exact⟨y,hy,rfl⟩
 have Y:s.row 2=px.reverse++x::((s.h1 a).take b++y::hy):=by
  rw[aP7,<- j,Ad3]
  have:s.path=s.path.take a++x::px:=by rw[<- ex,Ad3]
  conv=>lhs;rw[this]
  unfold S.h1
  simp
 have nd2:=I.nd 2
 have N:=I.self 2
 have m:=I.lt 2
 rw[Y]at nd2 N m;have pl:∃p1,x::px=p1++[0]:=by
  rw[<- ex,M];rw[M]at ha;simp at ha;rw[List.drop_append_of_le_length (by lia)]
  exact⟨_,rfl⟩
 have B:∃h1,y::hy=h1++[1]:=by
  rw[<- j];unfold S.h1;rw[F,<- Ad7]
  have:(p0.length:Nat)+1=s.path.length:=by rw[M];simp
  have l1:((s.path.take a).reverse++h0).length=a+h0.length:=by simp;lia
  have l2:s.heap.length=h0.length+1:=by rw[F];simp
  rw[List.drop_append_of_le_length (by lia)]
  exact⟨_,rfl⟩
 have one_mem:1∈y::hy:=by obtain⟨h1,e⟩:=B;rw[e];simp
 have Q:0∈x::px:=by obtain⟨h1,e⟩:=pl;rw[e];simp
 generalize R:(s.h1 a).take b=C at *;have D:∀c∈C,c≠0/\c≠1/\c≠2/\c<s.k+3:=by
  intro c U;refine⟨?_,?_,?_,m c (by simp[U])⟩
  .rintro rfl;grind
  .rintro rfl;grind
  .rintro rfl;grind
 have hx:x≠1/\x≠2/\x<s.k+3:=⟨by rintro rfl;grind,by rintro rfl;grind,m x (by simp)⟩
 have hyy:y≠0/\y≠2/\y<s.k+3:=⟨by rintro rfl;grind,by rintro rfl;grind,m y (by simp)⟩
 have J:∀q,q∈s.row 2->3<=q->s.o2 q=2:=λq X h3=>by
  rw[aP7]at X;simp at X;exact(I.bd q X).2 h3
 have P:3<=x->s.o2 x=2:=J x (by rw[Y];simp)
 have o2y:3<=y->s.o2 y=2:=J y (by rw[Y];simp)
 have o2c:∀c∈C,s.o2 c=2:=λc U=>by
  have:=D c U
  exact J c (by rw[Y];simp[U]) (by lia)
 have xy:x≠y:=by rintro rfl;grind
 have xC:x∉C:=by grind
 have yC:y∉C:=by grind
 have E:Edit s.row (s.step a b).row (s.k+3) x y px.reverse C hy:=by
  refine⟨I.nd,I.self,I.tri,by lia,λq X=>?_,Y,?_,bP5 (Aa7 _),?_,?_,?_,?_,?_⟩
  .have:=I.lt q _ X;lia
  .rw[U0 (by lia) (by simp[S.step])]
   have e1:=I.emp (s.k+3) (Aa7 _)
   simp only[S.step,ex,j,R,Br,E3,if_true];rw[C7 (by lia),C7 (by lia),e1.1,e1.2]
   simp
  .rw[aP7];simp only[S.step,ex,j]
   simp
  .by_cases x0:x=0
   .subst x0;rcases Ac5 (1::s.i0 0) with e | ⟨u,z,e⟩
    .cases e
    .refine⟨u,z,[],?_,?_⟩
     .rw[aL4,<- Ab6,e];simp
     .rw[aL4];simp only[S.step,ex,Br,E3];rw[Ad7,<- Ab6,e];simp
   .have x3:3<=x:=by lia
    rcases Ac5 (s.o0 x::(s.i2 x++s.o1 x::s.i0 x)) with e | ⟨u,z,e⟩
    .cases e
    .refine⟨u,z,(s.i1 x).reverse,?_,?_⟩
     .rw[U0 x3 hx.2.2,P x3]
      have:s.o0 x::(s.i2 x++s.o1 x::(s.i0 x++2::(s.i1 x).reverse))=(s.o0 x::(s.i2 x++s.o1 x::s.i0 x))++2::(s.i1 x).reverse:=by simp
      rw[this,e];simp
     .rw[U0 x3 (by simp[S.step];lia)]
      simp only[S.step,ex,j,R,Br,E3];rw[C7 (by lia),C7 (by lia),C7 (by lia),C7 xy,Ac (by lia),Ac xC,P x3]
      have:s.o0 x::(s.i2 x++s.o1 x::(s.i0 x++[s.k+3]++2::(s.i1 x).reverse))=(s.o0 x::(s.i2 x++s.o1 x::s.i0 x))++(s.k+3)::2::(s.i1 x).reverse:=by simp
      rw[this,e];simp
  .by_cases y1:y=1
   .subst y1;refine⟨[],(s.i1 1).reverse++[0],?_,?_⟩
    .rw[bD8];simp
    .rw[bD8];simp only[S.step,j,Br,E3]
     simp
   .have y3:3<=y:=by lia
    refine⟨s.o0 y::(s.i2 y++s.o1 y::s.i0 y),(s.i1 y).reverse,?_,?_⟩
    .rw[U0 y3 hyy.2.2,o2y y3];simp
    .rw[U0 y3 (by simp[S.step];lia)]
     simp only[S.step,ex,j,R,Br,E3];rw[C7 (by lia),C7 (by lia),C7 (by lia),C7 (Ne.symm xy),Ac (by lia),Ac yC,o2y y3]
     simp
  .intro c U;obtain⟨c0,c1,c2,ck⟩:=D c U;have c3:3<=c:=by lia
   have cx:c≠x:=λe=>xC (e▸U)
   have cy:c≠y:=λe=>yC (e▸U)
   rcases Ac5 (s.o0 c::(s.i2 c++s.o1 c::s.i0 c)) with e | ⟨u,z,e⟩
   .cases e
   .refine⟨u,z,(s.i1 c).reverse,?_,?_⟩
    .rw[U0 c3 ck,o2c c U]
     have:s.o0 c::(s.i2 c++s.o1 c::(s.i0 c++2::(s.i1 c).reverse))=(s.o0 c::(s.i2 c++s.o1 c::s.i0 c))++2::(s.i1 c).reverse:=by simp
     rw[this,e];simp
    .rw[U0 c3 (by simp[S.step];lia)]
     simp only[S.step,ex,j,R,Br];rw[C7 (by lia),C7 (by lia),C7 (by lia),C7 cx,C7 cy,Ac (by lia),Ae U]
     have:s.o0 c::(s.i2 c++s.o1 c::(s.i0 c++(s.k+3)::(s.i1 c).reverse))=(s.o0 c::(s.i2 c++s.o1 c::s.i0 c))++(s.k+3)::(s.i1 c).reverse:=by simp
     rw[this,e];simp
  .intro q q2 qv qx qy qC;by_cases q0:q=0
   .subst q0;rw[aL4,aL4];simp only[S.step,ex,Br];rw[C7 qx]
   by_cases q1:q=1
   .subst q1;rw[bD8,bD8];simp only[S.step,j,Br];rw[C7 qy]
   by_cases qk:q<s.k+3
   .rw[U0 (by lia) qk,U0 (by lia) (by simp[S.step];lia)]
    simp only[S.step,ex,j,R,Br];rw[C7 qv,C7 qv,C7 qv,C7 qx,C7 qy,Ac qv,Ac qC]
   .rw[bP5 (s:=s.step a b) (by show s.k+1+3<=q;lia),bP5 (s:=s) (by lia)]
 refine⟨x,px,y,hy,ex,j,E,⟨E.nd',E.self',E.tri',λq p hp=>?_,?_,?_,λq X=>?_,λq X=>?_⟩⟩
 .show p<s.k+1+3
  by_cases h2:q=2
  .subst h2;rw[E.new2]at hp
   have:=m p
   grind
  by_cases hv:q=s.k+3
  .subst hv;rw[E.newv]at hp
   have:=m p
   grind
  by_cases qx:q=x
  .subst qx;obtain⟨u,z,w,o,n⟩:=E.rx
   have:=I.lt q p
   rw[o]at this;rw[n]at hp;grind
  by_cases qy:q=y
  .subst qy;obtain⟨u,w,o,n⟩:=E.ry
   have:=I.lt q p
   rw[o]at this;rw[n]at hp;grind
  by_cases qC:q∈C
  .obtain⟨u,z,w,o,n⟩:=E.rc q qC
   have:=I.lt q p
   rw[o]at this;rw[n]at hp;grind
  .rw[E.rest q h2 hv qx qy qC]at hp
   have:=I.lt q p hp
   lia
 .obtain⟨p1,e⟩:=pl;exact⟨(s.k+3)::p1,by simp only[S.step,ex,e];simp⟩
 .obtain⟨h1,e⟩:=B;exact⟨h1,by simp only[S.step,j,e]⟩
 .have hq':q=s.k+3\/q∈x::px\/q∈y::hy:=by
   simp only[S.step,ex,j]at X;simp at X ⊢;grind
  rcases hq' with rfl | hq'
  .exact⟨by lia,λ_=>by simp[S.step]⟩
  .have hm:q∈s.row 2:=by rw[Y];grind
   have hnC:q∉C:=by grind
   refine⟨by rintro rfl;exact I.self 2 hm,λh3=>?_⟩
   simp only[S.step,R];rw[Ac (by have:=I.lt 2 q hm;lia),Ac hnC]
   exact J q hm h3
 .have X:s.k+1+3<=q:=X
  have:=I.emp q (by lia)
  simp only[S.step,ex,j,Br];rw[C7 (by lia),C7 (by lia)]
  exact this
theorem bR2 (l:AC)(x y:Nat):lin (l.map f) x y↔∃a b,x=f a/\y=f b/\lin l a b:=by
 induction l with
 | nil=>simp[cE8]
 | cons c l e=>
  cases l with
  | nil=>simp[aX8]
  | cons d l=>
   simp only[Ac7,E4];simp only[Ac7]at e;rw[e];constructor
   .rintro (⟨rfl,rfl⟩ | ⟨a,b,e1,e2,h⟩)
    .exact⟨c,d,rfl,rfl,.inl ⟨rfl,rfl⟩⟩
    .exact⟨a,b,e1,e2,.inr h⟩
   .rintro⟨a,b,rfl,rfl,⟨rfl,rfl⟩ | h⟩
    .exact .inl ⟨rfl,rfl⟩
    .exact .inr ⟨a,b,rfl,rfl,h⟩
theorem dI5 (l:AC)(x y:Nat):adj (l.map f) x y↔∃a b,x=f a/\y=f b/\adj l a b:=by
 unfold adj;rw[<- bR2]
 simp
theorem bN6 (u w:AC)(x y:Nat):adj (w++u) x y↔adj (u++w) x y:=by
 cases u with
 | nil=>simp
 | cons a u=>
  cases w with
  | nil=>simp
  | cons b w=>
   unfold adj;have e:b::w++a::u++(b::w++a::u).take 1=(b::w)++a::(u++[b]):=by simp
   have z:a::u++b::w++(a::u++b::w).take 1=(a::u)++b::(w++[a]):=by simp
   rw[e,z,F8 a (u++[b]) x y (b::w),F8 b (w++[a]) x y (a::u)];simp only[Ab6];exact Or.comm
theorem aX7 (h:adj l a b):a∈l/\b∈l:=by
 have:=aG1 h
 simp only[Aa0]at this;exact⟨this.1.elim id Bg,this.2.elim id Bg⟩
theorem dE1 (h:a∈l):∃b,adj l a b:=by
 obtain⟨u,w,rfl⟩:=Ad5 h;obtain⟨b,r,e⟩:∃b r,(w++(u++[a]).take 1)=b::r:=by
  cases w with
  | nil=>cases u with
   | nil=>exact⟨a,[],rfl⟩
   | cons c u=>exact⟨c,[],rfl⟩
  | cons c w=>exact⟨c,_,rfl⟩
 refine⟨b,?_⟩;unfold adj;have t:(u++a::w).take 1=(u++[a]).take 1:=by cases u <;> simp
 rw[t,Ad7,Ab6,e,F8,E4];exact .inr (.inl ⟨rfl,rfl⟩)
theorem dO9 (nd:l.Nodup)(h1:adj l a b)(X:adj l a c):b=c:=by
 have U:=(aX7 h1).1
 obtain⟨u,w,rfl⟩:=Ad5 U;have k:=(bN6 u (a::w) a b).mpr h1;have j:=(bN6 u (a::w) a c).mpr X;have nd':(a::w++u).Nodup:=by grind
 unfold adj at k j;generalize w++u=v at *;have e:a::w++u=a::(w++u):=rfl;cases s:w++u with
 | nil=>
  rw[e,s]at k j
  simp[lin]at k j
  lia
 | cons d y=>
  rw[e,s]at k j nd';have q:∀z,lin (a::d::y++List.take 1 (a::d::y)) a z->z=d:=λz m=>by
   have Y:a::d::y++List.take 1 (a::d::y)=a::d::(y++[a]):=by simp
   rw[Y,E4]at m;rcases m with h | h
   .exact h.2
   .have:=V2 (u:=d::y) (c:=a) (by simpa using h)
    grind
  rw[q b k,q c j]
def mn (l:AC):Nat:=l.min?.getD 0
theorem bM8 (h:l≠[]):mn l∈l/\∀a∈l,mn l<=a:=by
 unfold mn;cases e:l.min? with
 | none=>exact absurd (List.min?_eq_none_iff.mp e) h
 | some m=>exact List.min?_eq_some_iff.mp e
def M5 (l:AC):AC:=l.drop (l.idxOf (mn l))++l.take (l.idxOf (mn l))
theorem aI9 (l:AC):(M5 l).Perm l:=by
 unfold M5;exact(List.perm_append_comm).trans (by rw[Ad3])
theorem cQ1 (l:AC)(a b:Nat):adj (M5 l) a b↔adj l a b:=by
 unfold M5;rw[bN6,Ad3]
theorem aQ8 (l:AC):(M5 l).length=l.length:=(aI9 l).length_eq
theorem cN0:a∈M5 l↔a∈l:=(aI9 l).mem_iff
theorem bS3:(M5 l).Nodup↔l.Nodup:=(aI9 l).nodup_iff
structure Good (n:Nat)(r:Nat->AC):Prop where
 nd:∀q,(r q).Nodup
 self:∀q,q∉r q
 tri:∀q a b,adj (r q) a b->adj (r a) b q
 lt:∀q,∀p∈r q,p<n
 hi:∀q,n<=q->r q=[]
 two:∀q,q<n->2<=(r q).length
 out:adj (r 2) 1 0
 conn:∀R:Nat->Prop,R 0->(∀a b,R a->b∈r a->R b)->∀q,q<n->R q
 sum:((List.range n).map λq=>(r q).length).sum+12=6*n
 three:3<=n
structure bT5 (s:S):Prop where
 two:∀q,q<s.k+3->2<=(s.row q).length
 o0:∀q,3<=q->q<s.k+3->s.o0 q<q/\s.o0 q∈s.row q
 sum:((List.range (s.k+3)).map λq=>(s.row q).length).sum+12=6*(s.k+3)
theorem cA9:bT5 S.first where
 two:=λq h=>by
  have h:q<3:=h
  match q,h with
  | 0,_=>decide
  | 1,_=>decide
  | 2,_=>decide
 o0:=λq h e=>by
  have e:q<3:=e
  lia
 sum:=by decide
theorem cA8 {n:Nat}{f g:Nat->Nat}{l:AC}(nd:l.Nodup)(w:∀q∈l,q<n)(h:∀q,q<n->q∉l->f q=g q) :
  ((List.range n).map f).sum+(l.map g).sum=((List.range n).map g).sum+(l.map f).sum:=by
 induction l generalizing f with
 | nil=>
  have:(List.range n).map f=(List.range n).map g:=Av λq y=>h q (Ab5.mp y) (by simp)
  simp[this]
 | cons c l j=>
  have Y:=w c (by simp)
  have nd':=Aa5.mp nd
  have k:∀(f:Nat->Nat) (x:Nat),((List.range n).map λq=>if q=c then x else f q).sum+f c=((List.range n).map f).sum+x:=by
   intro f x
   clear h j w nd nd'
   induction n with
   | zero=>lia
   | succ n z=>
    rw[Ca,Ad2,Ad2,List.sum_append,List.sum_append];by_cases e:c=n
    .subst e
     have:(List.range c).map (λq=>if q=c then x else f q)=(List.range c).map f:=Av λq y=>by
      have:=Ab5.mp y
      rw[Ac (by lia)]
     rw[this]
     simp
     lia
    .have:=z (by lia)
     simp only[Ac7,Dg,List.sum_cons,List.sum_nil];rw[Ac (Ne.symm e)]
     lia
  have X:=k f (g c)
  have:=j (f:=λq=>if q=c then g c else f q) nd'.2 (λq y=>w q (by simp[y])) (λq y m=>by
   by_cases e:q=c
   .subst e;simp
   .simp only[Ac e];exact h q y (by simp[e,m]))
  have s:(l.map λq=>if q=c then g c else f q)=l.map f:=Av λq y=>by
   rw[Ac (by rintro rfl;exact nd'.1 y)]
  rw[s]at this;simp only[Ac7,List.sum_cons]
  lia
theorem cQ0 {s:S}(I:bP0 s)(M:bT5 s){a b:Nat}(ha:a<s.path.length)(hb:b<a+s.heap.length):bT5 (s.step a b):=by
 obtain⟨x,px,y,Q,ex,ey,E,I'⟩:=cH3 I ha hb;obtain⟨⟨f1,f2,f3,f4,f5⟩,fc,nd⟩:=E.facts;have hx:x<s.k+3:=I.lt 2 x (by rw[E.two];simp)
 have hyl:y<s.k+3:=I.lt 2 y (by rw[E.two];simp)
 have P:((s.step a b).row x).length=(s.row x).length+1:=by
  obtain⟨u,z,w,o,n⟩:=E.rx;rw[o,n];simp;lia
 have ly:((s.step a b).row y).length=(s.row y).length+1:=by
  obtain⟨u,w,o,n⟩:=E.ry;rw[o,n];simp;lia
 have F:∀q,q≠2->q≠s.k+3->q≠x->q≠y->((s.step a b).row q).length=(s.row q).length:=λq U c Y X=>by
  by_cases R:q∈(s.h1 a).take b
  .obtain⟨u,z,w,o,n⟩:=E.rc q R;rw[o,n];simp
  .rw[E.rest q U c Y X R]
 have D:((s.step a b).row 2).length=px.length+3+Q.length:=by rw[E.new2];simp;lia
 have g2:(s.row 2).length=px.length+2+((s.h1 a).take b).length+Q.length:=by rw[E.two];simp only[Ab7,Al,Ae2];lia
 have B:((s.step a b).row (s.k+3)).length=((s.h1 a).take b).length+3:=by rw[E.newv];simp only[Ab7,Al,List.length_nil]
 have J:(s.row (s.k+3)).length=0:=by rw[E.oldv];rfl
 refine⟨λq j=>?_,λq N j=>?_,?_⟩
 .have j:q<s.k+1+3:=j
  by_cases U:q=2
  .rw[U,D];lia
  by_cases c:q=s.k+3
  .rw[c,B];lia
  have:=M.two q (by lia)
  by_cases Y:q=x
  .rw[Y,P];rw[Y]at this;lia
  by_cases X:q=y
  .rw[X,ly];rw[X]at this;lia
  rw[F q U c Y X];exact this
 .have hq':q<s.k+1+3:=j
  refine⟨?_,by rw[U0 N j];simp⟩
  by_cases c:q=s.k+3
  .subst c;simp only[S.step,ex,Br,E3];exact hx
  .simp only[S.step];rw[C7 c];exact(M.o0 q N (by lia)).1
 .show((List.range (s.k+1+3)).map λq=>((s.step a b).row q).length).sum+12=6*(s.k+1+3)
  have sc:=cA8 (n:=s.k+1+3) (f:=λq=>((s.step a b).row q).length) (g:=λq=>(s.row q).length) (l:=[2,s.k+3,x,y]) (by
   have:=E.v2
   simp only[Aa5,Aa1,Ac2,or_false,not_or,List.nodup_nil,not_false_eq_true,and_true];exact⟨⟨by lia,Ne.symm f2,Ne.symm f3⟩,⟨Ne.symm f4,Ne.symm f5⟩,f1⟩) (by
   intro q j;simp only[Aa1,Ac2,or_false]at j
   lia) (by
   intro q j m;simp only[Aa1,Ac2,or_false,not_or]at m;exact F q m.1 m.2.1 m.2.2.1 m.2.2.2)
  simp only[Ac7,Dg,List.sum_cons,List.sum_nil]at sc;have e:((List.range (s.k+1+3)).map λq=>(s.row q).length).sum=((List.range (s.k+3)).map λq=>(s.row q).length).sum:=by
   rw[show s.k+1+3=(s.k+3)+1 by lia,Ca,Ad2,List.sum_append]
   simp only[Ac7,Dg,List.sum_cons,List.sum_nil,J]
   lia
  have:=M.sum
  rw[D,B,P,ly,g2,J,e]at sc
  lia
theorem cT3 {s:S}(I:bP0 s)(M:bT5 s):Good (s.k+3) s.row where
 nd:=I.nd
 self:=I.self
 tri:=I.tri
 lt:=I.lt
 hi:=λq h=>bP5 h
 two:=M.two
 out:=by
  obtain⟨p,m⟩:=I.pe;obtain⟨h,c⟩:=I.he;rw[aP7,m,c];unfold adj
  have:(p++[0]).reverse++(h++[1])++((p++[0]).reverse++(h++[1])).take 1=(0::p.reverse++h)++1::[0]:=by simp
  rw[this,F8,E4];exact .inr (.inl ⟨rfl,rfl⟩)
 conn:=λR w z q U=>by
  have j:∀b∈s.row 0,R b:=λb e=>z 0 b w e
  have N:(1:Nat)∈s.row 0:=by rw[aL4];simp
  have Q:(2:Nat)∈s.row 0:=by rw[aL4];simp
  have y:∀p q,q∈s.row p->p∈s.row q:=λp q h=>by
   obtain⟨b,e⟩:=dE1 h;exact(aX7 (I.tri _ _ _ e)).2
  induction q using Nat.strongRecOn with
  | _ q J=>
   by_cases X:3<=q
   .obtain⟨h1,Y⟩:=M.o0 q X U;exact z _ _ (J _ h1 (by lia)) (y _ _ Y)
   .have:q=0\/q=1\/q=2:=by lia
    rcases this with rfl | rfl | rfl
    .exact w
    .exact j 1 N
    .exact j 2 Q
 sum:=M.sum
 three:=by lia
structure Nm (n:Nat)(f:Nat->Nat):Prop where
 lt:∀v,v<n->f v<n
 inj:∀v w,v<n->w<n->f v=f w->v=w
 c0:f 0=0
 c1:f 1=1
 c2:f 2=2
theorem bH2 {l:AC}(nd:l.Nodup):∀{m:AC},(∀x∈l,x∈m)->l.length<=m.length:=by
 induction l with
 | nil=>intro m _;simp
 | cons a l w=>
  intro m h;have nd':=Aa5.mp nd;have e:a∈m:=h a (by simp)
  have:=w nd'.2 (m:=m.erase a) λx y=>(List.mem_erase_of_ne (by rintro rfl;exact nd'.1 y)).mpr (h x (by simp[y]))
  have z:=Cz e
  have:=Cq e
  simp only[Al]
  lia
theorem Nm.surj (h:Nm n f)(q:Nat)(X:q<n):∃v,v<n/\f v=q:=by
 have nd:((List.range n).map f).Nodup:=by
  rw[Ac6,Ae0];refine Cb ?_ (Ac6.mp Dj);intro a b c s z e;exact z (h.inj a b (Ab5.mp c) (Ab5.mp s) e)
 have j:(List.range n).map f ⊆ List.range n:=λx w=>by
  obtain⟨v,k,rfl⟩:=Aa8.mp w;exact Ab5.mpr (h.lt v (Ab5.mp k))
 have:q∈(List.range n).map f:=Classical.byContradiction λY=>by
  have y:=Ab5.mpr X
  have:=bH2 nd (m:=(List.range n).erase q) λx w=>(List.mem_erase_of_ne (by rintro rfl;exact Y w)).mpr (j w)
  have U:=Cz y
  have:=Cq y
  simp only[Aa3,Bc]at *
  lia
 obtain⟨v,k,e⟩:=Aa8.mp this;exact⟨v,Ab5.mp k,e⟩
theorem Good.named (G:Good n r)(F:Nm n f)(h:∀v,v<n->r' (f v)=M5 ((r v).map f))(J:∀q,n<=q->r' q=[]):Good n r':=by
 have cV3:∀v,v<n->∀x y,adj (r' (f v)) x y↔∃a b,x=f a/\y=f b/\adj (r v) a b:=λv w x y=>by rw[h v w,cQ1,dI5]
 have k:∀v,v<n->∀x,x∈r' (f v)↔∃a,a∈r v/\x=f a:=λv w x=>by
  rw[h v w,cN0,Aa8];exact⟨λ⟨a,h1,N⟩=>⟨a,h1,N.symm⟩,λ⟨a,h1,N⟩=>⟨a,h1,N.symm⟩⟩
 have M:∀q,n<=q\/∃v,v<n/\f v=q:=λq=>by
  by_cases z:n<=q
  .exact .inl z
  .exact .inr (F.surj q (by lia))
 have len:∀v,v<n->(r' (f v)).length=(r v).length:=λv w=>by rw[h v w,aQ8,Aa3]
 refine⟨λq=>?_,λq=>?_,λq a b s=>?_,λq p hp=>?_,J,λq z=>?_,?_,λR B P q z=>?_,?_,G.three⟩
 .rcases M q with z | ⟨v,w,rfl⟩
  .rw[J q z];simp
  .rw[h v w,bS3,Ac6,Ae0];refine Cb ?_ (Ac6.mp (G.nd v));intro a b j m Y e;exact Y (F.inj a b (G.lt v a j) (G.lt v b m) e)
 .rcases M q with z | ⟨v,w,rfl⟩
  .rw[J q z];simp
  .intro hm;obtain⟨a,j,e⟩:=(k v w _).mp hm;exact G.self v (F.inj v a w (G.lt v a j) e▸j)
 .rcases M q with z | ⟨v,w,rfl⟩
  .rw[J q z]at s;exact s.elim
  .obtain⟨c,d,rfl,rfl,U⟩:=(cV3 v w _ _).mp s;exact(cV3 c (G.lt v c (aX7 U).1) _ _).mpr ⟨d,v,rfl,rfl,G.tri _ _ _ U⟩
 .rcases M q with z | ⟨v,w,rfl⟩
  .rw[J q z]at hp;exact absurd hp (by simp)
  .obtain⟨a,j,rfl⟩:=(k v w _).mp hp;exact F.lt a (G.lt v a j)
 .obtain⟨v,w,rfl⟩:=F.surj q z;rw[len v w];exact G.two v w
 .have:=G.three
  have:=(cV3 2 (by lia) 1 0).mpr ⟨1,0,F.c1.symm,F.c0.symm,G.out⟩
  rwa [F.c2]at this
 .obtain⟨v,w,rfl⟩:=F.surj q z
  have:=G.three
  refine G.conn (λv=>v<n->R (f v)) (λ_=>by rw[F.c0];exact B) (λa b j m hbn=>?_) v w w
  by_cases X:a<n
  .exact P _ _ (j X) ((k a X _).mpr ⟨b,m,rfl⟩)
  .rw[G.hi a (by lia)]at m;exact absurd m (by simp)
 .have p:((List.range n).map f).Perm (List.range n):=by
   refine(List.perm_ext_iff_of_nodup ?_ Dj).mpr λq=>?_
   .rw[Ac6,Ae0];refine Cb ?_ (Ac6.mp Dj);intro a b j m Y e;exact Y (F.inj a b (Ab5.mp j) (Ab5.mp m) e)
   .constructor
    .intro z;obtain⟨v,w,rfl⟩:=Aa8.mp z;exact Ab5.mpr (F.lt v (Ab5.mp w))
    .intro z;obtain⟨v,w,rfl⟩:=F.surj q (Ab5.mp z);exact Aa8.mpr ⟨v,Ab5.mpr w,rfl⟩
  have Q:=(p.map λq=>(r' q).length).sum_nat
  have D:((List.range n).map f).map (λq=>(r' q).length)=(List.range n).map λv=>(r v).length:=by
   rw[Ae3];exact Av λv w=>len v (Ab5.mp w)
  rw[D]at Q;rw[<- Q];exact G.sum
def pv (F:Nat->Nat):Nat->Nat
 | 0=>0
 | i+1=>F i
def gst (F G:Nat->Nat):Nat->S
 | 0=>S.first
 | i+1=>(gst F G i).step (F i-pv F i) (G i-pv G i)
structure Rws (F G:Nat->Nat)(m:Nat):Prop where
 f1:∀i,i<m->pv F i<=F i
 f2:∀i,i<m->F i<=i
 g1:∀i,i<m->pv G i<=G i
 g2:∀i,i<m->G i<=F i
structure eL0 (F G:Nat->Nat)(i:Nat):Prop where
 inv:bP0 (gst F G i)
 more:bT5 (gst F G i)
 k:(gst F G i).k=i
 p:(gst F G i).path.length+pv F i=1+i
 h:(gst F G i).heap.length+pv G i=1+pv F i
 le:pv F i<=i
 le2:pv G i<=pv F i
theorem X0 (R:Rws F G m):∀i,i<=m->eL0 F G i
 | 0,_=>⟨cA5,cA9,rfl,rfl,rfl,Aa7 _,Aa7 _⟩
 | i+1,hi=>by
  have I:=X0 R i (by lia)
  have f1:=R.f1 i (by lia)
  have f2:=R.f2 i (by lia)
  have s:=R.g1 i (by lia)
  have j:=R.g2 i (by lia)
  have h1:=I.p
  have Y:=I.h
  have e:F i-pv F i<(gst F G i).path.length:=by lia
  have w:G i-pv G i<(F i-pv F i)+(gst F G i).heap.length:=by lia
  obtain⟨x,U,y,X,ex,c,E,z⟩:=cH3 I.inv e w;refine⟨z,cQ0 I.inv I.more e w,?_,?_,?_,?_,j⟩
  .show(gst F G i).k+1=i+1
   rw[I.k]
  .show(((gst F G i).k+3)::(gst F G i).path.drop (F i-pv F i)).length+F i=1+(i+1)
   rw[Al,Bb]
   lia
  .show(((gst F G i).h1 (F i-pv F i)).drop (G i-pv G i)).length+G i=1+F i
   rw[Bb];unfold S.h1;rw[Ab7,Ae2,Ad1]
   lia
  .show F i<=i+1
   lia
theorem dE7 (R:Rws F G m):Good (m+3) (gst F G m).row:=by
 have I:=X0 R m (Aa7 _)
 have:=cT3 I.inv I.more
 rwa [I.k]at this
theorem dQ3 (F G:Nat->Nat):∀i,(gst F G i).k=i
 | 0=>rfl
 | i+1=>by show(gst F G i).k+1=i+1;rw[dQ3 F G i]
def pa (F G:Nat->Nat)(v:Nat):AC:=(gst F G (v-2)).path.tail
def hp (F G:Nat->Nat)(v:Nat):AC:=(gst F G (v-2)).heap
theorem aF5 (F G:Nat->Nat)(i:Nat):(gst F G (i+1)).path=(i+3)::pa F G (i+3):=by
 show((gst F G i).k+3)::(gst F G i).path.drop (F i-pv F i)=_
 rw[dQ3];rfl
section
structure At (F G:Nat->Nat)(i:Nat):Prop where
 pe:∃p,pa F G (i+3)=p++[0]
 he:∃h,hp F G (i+3)=h++[1]
 nd:((i+3)::(pa F G (i+3)++hp F G (i+3))).Nodup
 lt:∀x,x∈pa F G (i+3)\/x∈hp F G (i+3)->x<i+3/\x≠2
theorem eC7 (R:Rws F G m)(hi:i<m):At F G i:=by
 have I:=X0 R (i+1) (by lia)
 have nd:=I.inv.nd 2
 rw[aP7,aF5]at nd;have lt:=I.inv.lt 2;rw[aP7,aF5,I.k]at lt;have bd:=I.inv.bd;obtain⟨p,e⟩:=I.inv.pe;obtain⟨h,z⟩:=I.inv.he;rw[aF5]at e;have nd':((i+3)::(pa F G (i+3)++hp F G (i+3))).Nodup:=by
  have w:(((i+3)::pa F G (i+3)).reverse++(gst F G (i+1)).heap).Perm ((i+3)::(pa F G (i+3)++hp F G (i+3))):=by
   show(((i+3)::pa F G (i+3)).reverse++(gst F G (i+1)).heap).Perm (((i+3)::pa F G (i+3))++(gst F G (i+1)).heap)
   exact(List.reverse_perm _).append_right _
  exact w.nodup_iff.mp nd
 refine⟨?_,⟨h,z⟩,nd',λx hx=>?_⟩
 .cases p with
  | nil=>simp at e
  | cons y p=>simp only[Ab6,Cc]at e;exact⟨p,e.2⟩
 .have h1:=lt x (by
   rcases hx with hx | hx
   .simp[hx]
   .exact Ac1 _ hx)
  have j:=(bd x (by
   rcases hx with hx | hx
   .left;rw[aF5];simp[hx]
   .right;exact hx)).1
  have c:x≠i+3:=by
   rintro rfl
   have:=(Aa5.mp nd').1
   exact this (Aa0.mpr hx)
  lia
end
structure Bt (F G:Nat->Nat)(m:Nat)(f:Nat->Nat)(d t:AA):Prop where
 R:Rws F G m
 N:Nm (m+3) f
 dl:d.length=m+3
 dr:∀v,v<m+3->d[f v]? = some (M5 (((gst F G m).row v).map f))
 tl:t.length=m
 tr:∀v,3<=v->v<m+3->t[f v-3]? = some [f ((gst F G m).o0 v),f ((gst F G m).o1 v),f ((gst F G m).o2 v)]
theorem Nm.lo (N:Nm n f)(h:3<=n)(y:q<n):f q<3↔q<3:=by
 constructor
 .intro hl;have w:=N.c0;have z:=N.c1;have k:=N.c2;rcases (show f q=0\/f q=1\/f q=2 by lia) with e | e | e
  .have:=N.inj q 0 y (by lia) (by lia);lia
  .have:=N.inj q 1 y (by lia) (by lia);lia
  .have:=N.inj q 2 y (by lia) (by lia);lia
 .intro hl;have w:=N.c0;have z:=N.c1;have k:=N.c2;rcases (show q=0\/q=1\/q=2 by lia) with e | e | e <;> subst e <;> lia
section
def trn (d:AA)(q:Nat):AC:=d[q]?.getD []
theorem Bt.good (B:Bt F G m f d t):Good (m+3) (trn d):=by
 refine Good.named (dE7 B.R) B.N (λv y=>?_) λq e=>?_
 .unfold trn;rw[B.dr v y];rfl
 .unfold trn;rw[Ad6 (by rw[B.dl];exact e)];rfl
end
theorem W1 {a b:AC}(h:(a++b).Nodup):∀x,x∈a->x∈b->False:=λx h1 e=>(Aa4.mp h).2.2 x h1 x e rfl
structure eF3 (F G:Nat->Nat)(i:Nat):Prop where
 k:(gst F G i).k=i
 a:F i-pv F i<(gst F G i).path.length
 b:G i-pv G i<((gst F G i).h1 (F i-pv F i)).length
 pl:(gst F G i).path.length<=i+1
 hl:((gst F G i).h1 (F i-pv F i)).length<=i+2
 lo:∀x∈((gst F G i).h1 (F i-pv F i)).take (G i-pv G i),3<=x/\x<i+3
 px:∃x r,(gst F G i).path.drop (F i-pv F i)=x::r/\x<i+3/\((gst F G i).i0 x).length<=i+3
 hy:∃y r,((gst F G i).h1 (F i-pv F i)).drop (G i-pv G i)=y::r/\y<i+3/\((gst F G i).i1 y).length<=i+3
 e0:(gst F G i).i0 (i+3)=[]
 e1:(gst F G i).i1 (i+3)=[]
theorem cU1 {l:AC}{n:Nat}(nd:l.Nodup)(h:∀x∈l,x<n):l.length<=n:=by
 have:=bH2 nd (m:=List.range n) λx e=>Ab5.mpr (h x e)
 simpa using this
theorem aX3 {s:S}(I:bP0 s)(q:Nat):(s.row q).length<=s.k+3:=cU1 (I.nd q) (I.lt q)
theorem dY9 {s:S}(I:bP0 s){q:Nat}(h:q<s.k+3)(y:q≠2)(h1:q≠1):(s.i0 q).length<=s.k+3:=by
 have:=aX3 I q
 by_cases e:q=0
 .subst e;rw[aL4]at this;simp at this;lia
 .rw[U0 (by lia) h]at this;simp at this;lia
theorem dU2 {s:S}(I:bP0 s){q:Nat}(h:q<s.k+3)(e:q≠2)(h0:q≠0):(s.i1 q).length<=s.k+3:=by
 have:=aX3 I q
 by_cases h1:q=1
 .subst h1;rw[bD8]at this;simp at this;lia
 .rw[U0 (by lia) h]at this;simp at this;lia
theorem eB0 (R:Rws F G m)(hi:i<m):eF3 F G i:=by
 have I:=X0 R i (by lia)
 have A:=eC7 R hi
 have f1:=R.f1 i hi
 have f2:=R.f2 i hi
 have g1:=R.g1 i hi
 have g2:=R.g2 i hi
 have h1:=I.p
 have h2:=I.h
 have nd:=I.inv.nd 2
 have lt:=I.inv.lt 2
 rw[aP7]at nd lt;rw[I.k]at lt;have hx1:((gst F G i).h1 (F i-pv F i)).length=(F i-pv F i)+(gst F G i).heap.length:=by
  unfold S.h1;rw[Ab7,Ae2,Ad1];lia
 obtain⟨p,hp⟩:=A.pe;obtain⟨h,hh⟩:=A.he;have Q:(gst F G i).path.drop (F i-pv F i)=p++[0]:=by rw[<- hp];rfl
 have P:((gst F G i).h1 (F i-pv F i)).drop (G i-pv G i)=h++[1]:=by rw[<- hh];rfl
 have s:∀x,x∈(gst F G i).path\/x∈(gst F G i).heap->x<i+3/\x≠2:=λx hx=>⟨lt x (by rcases hx with hx | hx <;> simp[hx]),(I.inv.bd x hx).1⟩
 have j:∀x∈(gst F G i).h1 (F i-pv F i),x∈(gst F G i).path.take (F i-pv F i)\/x∈(gst F G i).heap:=λx hx=>by
  unfold S.h1 at hx;simpa using hx
 have c:∀x∈(gst F G i).h1 (F i-pv F i),x∈(gst F G i).path\/x∈(gst F G i).heap:=λx hx=>(j x hx).imp Bg id
 have U:((gst F G i).path.take (F i-pv F i)++(gst F G i).path.drop (F i-pv F i)).Nodup:=by
  rw[Ad3]
  have:=(Aa4.mp nd).1
  exact(List.reverse_perm _).nodup_iff.mp this
 have B:((gst F G i).h1 (F i-pv F i)).Nodup:=by
  unfold S.h1;refine Aa4.mpr ⟨?_,(Aa4.mp nd).2.1,λx hx y hy e=>?_⟩
  .exact(List.reverse_perm _).nodup_iff.mpr (Aa4.mp U).1
  .subst e;exact W1 nd x (by simpa using Bg (Dt.mp hx)) hy
 refine⟨I.k,by lia,by lia,by lia,by lia,λx hx=>?_,?_,?_,?_,?_⟩
 .have M:=Bg hx
  obtain⟨X,N⟩:=s x (c x M);refine⟨?_,X⟩;have n1:x≠1:=λe=>by
   subst e;have nd':=B;rw[<- Ad3 (G i-pv G i) ((gst F G i).h1 (F i-pv F i))]at nd';exact W1 nd' 1 hx (by rw[P];simp)
  have n0:x≠0:=λe=>by
   subst e;have z:0∈(gst F G i).path.drop (F i-pv F i):=by rw[Q];simp
   rcases j 0 M with w | w
   .exact W1 U 0 w z
   .exact W1 nd 0 (by simpa using Co z) w
  lia
 .cases Y:(gst F G i).path.drop (F i-pv F i) with
  | nil=>rw[Q]at Y;simp at Y
  | cons x r=>
   have J:x∈(gst F G i).path:=Co (by rw[Y];simp:x∈(gst F G i).path.drop (F i-pv F i))
   obtain⟨X,N⟩:=s x (.inl J);refine⟨x,r,rfl,X,?_⟩;have n1:x≠1:=λe=>by
    subst e;obtain⟨h',D⟩:=I.inv.he;exact W1 nd 1 (by simpa using J) (by rw[D];simp)
   have:=dY9 I.inv (q:=x) (by rw[I.k];exact X) N n1
   rwa [I.k]at this
 .cases Y:((gst F G i).h1 (F i-pv F i)).drop (G i-pv G i) with
  | nil=>rw[P]at Y;simp at Y
  | cons y r=>
   have J:y∈(gst F G i).h1 (F i-pv F i):=Co (by rw[Y];simp:y∈((gst F G i).h1 (F i-pv F i)).drop (G i-pv G i))
   obtain⟨X,N⟩:=s y (c y J);refine⟨y,r,rfl,X,?_⟩;have n0:y≠0:=λe=>by
    subst e;have z:0∈(gst F G i).path.drop (F i-pv F i):=by rw[Q];simp
    rcases j 0 J with w | w
    .exact W1 U 0 w z
    .exact W1 nd 0 (by simpa using Co z) w
   have:=dU2 I.inv (q:=y) (by rw[I.k];exact X) N n0
   rwa [I.k]at this
 .exact(I.inv.emp (i+3) (by rw[I.k];lia)).1
 .exact(I.inv.emp (i+3) (by rw[I.k];lia)).2
theorem dD7 (R:Rws F G m):∀i,i<=m->(gst F G i).i2 2=[]
 | 0,_=>rfl
 | i+1,h=>by
  show put (gst F G i).i2 ((gst F G i).k+3) (((gst F G i).h1 (F i-pv F i)).take (G i-pv G i)) 2=[]
  rw[C7 (by lia)]
  exact dD7 R i (by lia)
end TT
namespace LV
open PySem L2
theorem cF7 {K:Frag}{ρ:List Sl}(y:List Sl){c:TT}{t u:TS}{b:Bool}{R:AE}(h:T K c ρ b)(h1:b=true->W K t ρ {R with nx:=λr=>r=y})(k:b=false->W K u ρ {R with nx:=λr=>r=y})(w:R.nx y):W K (cW1 c t u) ρ R:=
 O8 h (λe=>(h1 e).weak (λr z=>by rw[z];exact w) (λ_ z=>z) (λ_ z=>z) (λ_ z=>z) (λ_ z=>z)) (λe=>(k e).weak (λr z=>by rw[z];exact w) (λ_ z=>z) (λ_ z=>z) (λ_ z=>z) (λ_ z=>z))
def Sl.nb:Sl->Bool
 | .bor _=>false
 | _=>true
theorem t9 {x:Sl}{r:List Sl}:V7 (x::r)=(x.nb&&V7 r):=by cases x <;> rfl
theorem N0 (h:(Y9 0 n)[i]? = some d):d=.int (i:Int)/\i<n:=by
 unfold Y9 at h;have e:=(Ab0.mp h).1;have e:i<n:=by simpa using e
 rw[Aa9,List.getElem?_range e]at h;refine⟨?_,e⟩
 have:=(Ab4 h).symm
 simpa using this
theorem rng_len:(Y9 lo n).length=n:=by simp[Y9]
def nI (l:AC):AF:=l.map λ(x:Nat)=>PyData.int (x:Int)
def lN (l:AC):PyData:=.list (nI l)
def oN (l:AC):OT:=.lst (l.map λ(x:Nat)=>OT.leaf (.int (x:Int)))
def fl (F:Nat->Nat)(m:Nat):AD:=(List.range m).map λi=>(F i:Int)
def O9 (k:Nat)(o0 o1 o2:Nat->Nat):OT:=.lst ((List.range k).map λj=>oN [o0 (j+3),o1 (j+3),o2 (j+3)])
def K0 (n:Nat)(i0 i1 i2:Nat->AC):OT:=.lst ((List.range n).map λq=>.tup [oN (i0 q),oN (i1 q),oN (i2 q)])
theorem G5 (l:AC):(nI l).length=l.length:=by simp[nI]
theorem M0 (l:AC):M9 (nI l)=true:=aC8 (λ_=>rfl) l
theorem aJ1 (l l':AC):nI (l++l')=nI l++nI l':=by simp[nI]
theorem dY7 (l:AC):nI l.reverse=(nI l).reverse:=by simp[nI]
theorem cG3 (l:AC):(oN l).data=lN l:=by
 unfold oN lN nI;simp only[OT.data];rw[aG3 (g:=λx:Nat=>PyData.int (x:Int)) (λ_=>rfl)]
theorem cO6 (k:Nat)(o0 o1 o2:Nat->Nat):(O9 k o0 o1 o2).data=.list ((List.range k).map λj=>lN [o0 (j+3),o1 (j+3),o2 (j+3)]):=by
 unfold O9;simp only[OT.data];rw[aG3 (λj=>cG3 _)]
theorem cQ7 (n:Nat)(i0 i1 i2:Nat->AC):(K0 n i0 i1 i2).data=.list ((List.range n).map λq=>.tuple [lN (i0 q),lN (i1 q),lN (i2 q)]):=by
 unfold K0;simp only[OT.data];rw[aG3 (g:=λq=>PyData.tuple [lN (i0 q),lN (i1 q),lN (i2 q)]) (λq=>by simp only[OT.data,OT.datas,cG3])]
theorem cH8 (h:i<m):atI ((fl F m).map PyData.int) (i:Int)=some (.int (F i:Int)):=S1 i rfl (by simp[fl,h])
theorem S3 (h:q<n):((List.range n).map f)[q]? = some (f q):=by simp[h]
theorem j9 {α:Type}{n q:Nat}{f g:Nat->α}{h:α->α}(w:q<n)(h1:h (f q)=g q)(k:∀j,j≠q->f j=g j):((List.range n).map f).modify q h=(List.range n).map g:=by
 rw[U2 (S3 w),h1];refine List.ext_getElem? λj=>?_
 rw[List.getElem?_set];by_cases e:q=j
 .subst e;simp[w]
 .rw[Ac e];by_cases y:j<n
  .rw[S3 y,S3 y,k j (λz=>e z.symm)]
  .rw[Ad6 (by simp;lia),Ad6 (by simp;lia)]
section
theorem aI7 (h:q<n):(K0 n i0 i1 i2).at [q]=some (.tup [oN (i0 q),oN (i1 q),oN (i2 q)]):=by
 show((K0 n i0 i1 i2).kids[q]?).bind _=_
 unfold K0;simp only[OT.kids];rw[S3 h];rfl
theorem dL5 (h:q<n):(K0 n i0 i1 i2).at ([q]++[0])=some (oN (i0 q)):=by rw[aM7 (aI7 h)];rfl
theorem dM3 (h:q<n):(K0 n i0 i1 i2).at ([q]++[1])=some (oN (i1 q)):=by rw[aM7 (aI7 h)];rfl
theorem cK1 (h:q<n):(K0 n i0 i1 i2).at ([q]++[2])=some (oN (i2 q)):=by rw[aM7 (aI7 h)];rfl
theorem dV4 (h:j<k):(O9 k o0 o1 o2).at [j]=some (oN [o0 (j+3),o1 (j+3),o2 (j+3)]):=by
 show((O9 k o0 o1 o2).kids[j]?).bind _=_
 unfold O9;simp only[OT.kids];rw[S3 h];rfl
theorem cX1 (h:q<n)(l:AC):(K0 n i0 i1 i2).put ([q]++[0]) (oN l)=K0 n (TT.put i0 q l) i1 i2:=by
 unfold K0;rw[List.singleton_append,OT.put_lst]
 congr 1
 refine j9 h ?_ λj e=>by simp only[TT.C7 e]
 rw[OT.put_tup,TT.E3];rfl
theorem cW9 (h:q<n)(l:AC):(K0 n i0 i1 i2).put ([q]++[1]) (oN l)=K0 n i0 (TT.put i1 q l) i2:=by
 unfold K0;rw[List.singleton_append,OT.put_lst]
 congr 1
 refine j9 h ?_ λj e=>by simp only[TT.C7 e]
 rw[OT.put_tup,TT.E3];rfl
theorem cZ3 (h:q<n)(l:AC):(K0 n i0 i1 i2).put ([q]++[2]) (oN l)=K0 n i0 i1 (TT.put i2 q l):=by
 unfold K0;rw[List.singleton_append,OT.put_lst]
 congr 1
 refine j9 h ?_ λj e=>by simp only[TT.C7 e]
 rw[OT.put_tup,TT.E3];rfl
theorem dH0 (h:j<k)(c:Nat):(O9 k o0 o1 o2).put [j] (oN [o0 (j+3),o1 (j+3),c])=O9 k o0 o1 (TT.put o2 (j+3) c):=by
 unfold O9;rw[OT.put_lst]
 congr 1
 refine j9 h ?_ λi hi=>by simp only[TT.C7 (show i+3≠j+3 by lia)]
 rw[OT.put_nil,TT.E3]
theorem bL6 (l:AC)(x:Nat):OT.lst ((l.map λ(x:Nat)=>OT.leaf (.int (x:Int)))++[.leaf (.int (x:Int))])=oN (l++[x]):=by simp[oN]
theorem dE5 (h:q<n)(x:Nat):(K0 n i0 i1 i2).put ([]++[q]++[0]) (.lst (((i0 q).map λ(x:Nat)=>OT.leaf (.int (x:Int)))++[.leaf (.int (x:Int))]))=K0 n (TT.put i0 q (i0 q++[x])) i1 i2:=by
 rw[bL6];exact cX1 h _
theorem dA8 (h:q<n)(x:Nat):(K0 n i0 i1 i2).put ([]++[q]++[1]) (.lst (((i1 q).map λ(x:Nat)=>OT.leaf (.int (x:Int)))++[.leaf (.int (x:Int))]))=K0 n i0 (TT.put i1 q (i1 q++[x])) i2:=by
 rw[bL6];exact cW9 h _
theorem bR8 (h:q<n)(x:Nat):(K0 n i0 i1 i2).put ([]++[q]++[2]) (.lst (((i2 q).map λ(x:Nat)=>OT.leaf (.int (x:Int)))++[.leaf (.int (x:Int))]))=K0 n i0 i1 (TT.put i2 q (i2 q++[x])):=by
 rw[bL6];exact cZ3 h _
theorem cE4:TT.put (TT.put f q a) q b=TT.put f q b:=by
 funext x;by_cases e:x=q
 .rw[e,TT.E3,TT.E3]
 .rw[TT.C7 e,TT.C7 e,TT.C7 e]
theorem dH6:OT.lst (((List.range n).map λq=>OT.tup [oN (i0 q),oN (i1 q),oN (i2 q)])++[.tup [.lst [],.lst [],.lst []]])=K0 (n+1) (TT.put i0 n []) (TT.put i1 n []) (TT.put i2 n []):=by
 unfold K0;rw[Ca,Ad2]
 congr 2
 .refine Av λa e=>?_
  have:=Ab5.mp e
  rw[TT.C7 (by lia),TT.C7 (by lia),TT.C7 (by lia)]
 .simp[TT.E3,oN]
theorem dM4 (a b c:Nat):OT.lst (((List.range k).map λj=>oN [o0 (j+3),o1 (j+3),o2 (j+3)])++[.lst [.leaf (.int (a:Int)),.leaf (.int (b:Int)),.leaf (.int (c:Int))]])=O9 (k+1) (TT.put o0 (k+3) a) (TT.put o1 (k+3) b) (TT.put o2 (k+3) c):=by
 unfold O9;rw[Ca,Ad2]
 congr 2
 .refine Av λx e=>?_
  have:=Ab5.mp e
  rw[TT.C7 (by lia),TT.C7 (by lia),TT.C7 (by lia)]
 .simp[TT.E3,oN]
end
theorem aP3 (h:q<n):atI ((List.range n).map f) (q:Int)=some (f q):=S1 q rfl (S3 h)
theorem dJ6 {p h:AC}{s:TT.S}(e:s.path=p++[0])(y:s.heap=h++[1]):s.row 2=0::(p.reverse++h)++[1]:=by
 rw[TT.aP7,e,y];simp
section
theorem U7 (e:E K false ta ρ (lN l))(y:E K false tb ρ (lN l'))(w:l.length+l'.length<=100000):EF K (tOp (dG7 K) ta tb) ρ (nI (l++l')):=by
 rw[aJ1];exact bP4 e y (M0 l) (M0 l') (by rw[G5,G5];unfold sizeLine;lia)
theorem cG9 (e:E K false ta ρ (lN l)):EF K (cH6 K ta) ρ (nI l.reverse):=by
 rw[dY7];exact dV1 e (M0 l)
theorem EF.toN (h:EF K t ρ (nI l))(e:l=l'):E K m t ρ (lN l'):=by subst e;exact EF.e' h
end
end LV
namespace LV
open PySem PySem.Spec PyProof.Rows L2
theorem bF4 (l:Addr)(items:AJ)(n:Nat)(U:AK)(sl:Array (Option Value))(x:Value)(e:Value->Bool)(j:Nat)(hj:j<items.size)(Q:e items[j]=true)
  (N:∀(m:Nat) (hm:m<items.size),m<j->e items[m]=false) :
  Meets (Builtin.«tuple.index» {pos:=[.ref l,x]}) λA R s=>
   s.heap.get? l=some {cls:=.type "tuple",dict:=U,data:=.seq items n,slots:=sl}/\(∀y∈items,SeqAt.EqAt A.in1 s y x (e y)) /\
    R (.ok (.ret (.int (j:Int) s.toks))) {s with toks:=s.toks+1}:=by
 intro J w A R s ⟨ho,F,B⟩;unfold Builtin.«tuple.index»;have M:selfAndSome "tuple.index" "index" 1 3 {pos:=[.ref l,x]}=pure (.ref l,[x]):=by rfl
 rw[M];refine Aa (Ab ?_);have ht:s.heap.get? l=some {cls:=.type "tuple",dict:=U,data:=.seq items n,slots:=sl}:=ho;show wpAny _ _ (Builtin.Tuple.tupleItemsOf (.ref l) >>= _) _ _ s;refine Aa (wpAny_tupleItemsOf ht rfl ?_);refine Aa (Ab ?_);refine Aa (Ab ?_);refine Aa ?_;rw[Std.Legacy.Range.forIn_eq_forIn_range'];have P:([0:min items.size items.size]:Std.Legacy.Range).size=items.size:=by simp[Std.Legacy.Range.size]
 rw[P];refine wpAny_forIn_list _ (λz b X=>(∃i,i<=j/\z=List.range' i (items.size-i) 1)/\b=(none,())/\X=s) _ ?_ ?_ _ _ ⟨⟨0,Bv _,rfl⟩,rfl,rfl⟩
 .rintro i z b X ⟨⟨i',hi,hrest⟩,rfl,rfl⟩;have c:i'<items.size:=by lia
  obtain⟨k,D⟩:∃k,items.size-i'=k+1:=⟨items.size-i'-1,by lia⟩
  rw[D,List.range'_succ,Cc]at hrest;obtain⟨rfl,rfl⟩:=hrest;dsimp only;rw[Ck c];dsimp only;refine Aa (F _ (Array.getElem_mem c) _ _ _ _ ?_);by_cases Y:i=j
  .subst Y;rw[Ae Q];refine Aa ?_;unfold retInt;refine Aa (wpAny_mkInt ?_);exact Ab (Ab (Ab B))
  .rw[N i c (by lia),Ac (by decide)]
   exact Ab ⟨⟨i+1,by lia,by rw[show items.size-(i+1)=k by lia]⟩,rfl,rfl⟩
 .rintro b X ⟨⟨i,hi,hr'⟩,rfl,rfl⟩
  exfalso
  have:=congrArg List.length hr'
  simp at this
  lia
section
theorem bJ2 (K:Frag)(h:X.K=K:=by rfl):MtR X "tuple.index" (λx xs H Q=>∃(p:Addr) (l:AD) (k:Int),x=.ref p/\xs=[.int k]/\SqT K H p (l.map V.int)/\k∈l/\Q (.int (l.idxOf k)) H):=by
 subst h;intro aA s σ H x xs v us Q I rx rv ⟨p,l,k,R,D,hq,P,q⟩;subst R;subst D;cases rx;obtain⟨u,rfl,t,rfl⟩:=S0 rv;obtain⟨its,r,B,hz⟩:=I.tuple hq;obtain⟨⟨oc,od,J,M⟩,e,c,n,d⟩:=B;dsimp only at c d;subst c;subst d;have Y:=r.length;rw[Aa3]at Y;have w:l.idxOf k<l.length:=Cn.mpr P;have at_:∀(j:Nat) (w:j<its.toArray.size),∃t,its.toArray[j]=Value.int (l[j]'(by simpa[Y]using w)) t:=λj w=>by
  have U:j<l.length:=by simpa[Y]using w
  obtain⟨u,h1,t,rfl⟩:=r.get (i:=j) (x:=.int l[j]) (by rw[Aa9,Aa2 U];rfl)
  have:=(Ab0.mp h1).2
  exact⟨t,by simpa using this⟩
 refine call_meets F.slot_tuple_index ⟨_,e,rfl⟩ F.entry_tuple_index (F.args_tuple_index_2 _ _) (bF4 p its.toArray n od M (.int k t) (λy=>match y with | .int i _=>i==k | _=>false) (l.idxOf k) (by simpa[<- Y]using w) ?_ ?_) ⟨e,λy hy=>?_,?_⟩
 .obtain⟨N,e'⟩:=at_ (l.idxOf k) (by simpa[<- Y]using w)
  rw[e'];simp
 .intro m hm hlt;obtain⟨N,e'⟩:=at_ m hm;rw[e']
  have:l[m]'(by simpa[Y]using hm)≠k:=λz=>by
   have h1:m<l.length:=by simpa[Y]using hm
   exact cE2 h1 hlt z
  simpa using this
 .obtain⟨j,w,rfl⟩:=Array.mem_iff_getElem.mp hy;obtain⟨N,e'⟩:=at_ j w;rw[e'];exact SeqAt.EqAt.int_int _ _ _ _
 .exact⟨.int _,H,I.tok _,⟨_,rfl⟩,q⟩
theorem aG5 {P:Program}{w:World}{A:Around}{E:Dy}{s:Shared}{t sl:Addr}{items:AJ}{vl vu:Value}{lo hi:Option Int}{Q:Dy}(e:IsTup s.heap t items)(c:s.heap.IsSliceOf sl vl vu .none)(pl:IsPart vl lo)(X:IsPart vu hi)
  (m:HT.sIx items.size 0 lo=0/\HT.sIx items.size items.size hi=items.size) (h:Q (.ref t) s):wpAny (model P w) A (getItem (.ref t) (.ref sl)) Q E s:=by
 obtain⟨os,j,k,Y⟩:=id c;have z:s.TypeIs (.ref sl) "slice" := ⟨os,j,k⟩;unfold getItem
 try with_reducible refine Bz ?_
 first | refine Aa (Ab ?_) | skip
 refine Aa (wpAny_sequenceKey e.typeIs (by decide) ?_)
 refine Aa (De (name:=Str.ofString "__getitem__") e.typeIs Bk
  (Dd Bk e.typeIs entry_tuple_getitem ?_ (args_tuple_getitem _ _)))
 show wpAny _ _ (Builtin.Tuple.tupleItemsOf (.ref t) >>= _) _ _ s
 refine Aa (tupleItemsOf_ e ?_);refine Aa (wpAny_typeOf z ?_);rw[Ae (by decide)]
 refine Aa (HT.p5 c pl X ?_);have y:((((HT.sIx items.size 0 lo:Nat):Int)==0&&(1:Int)==1&&(HT.sIx items.size items.size hi-HT.sIx items.size 0 lo)==items.size)=true):=by
  rw[m.1,m.2];simp
 show wpAny _ _ (if(((HT.sIx items.size 0 lo:Nat):Int)==0&&(1:Int)==1&&(HT.sIx items.size items.size hi-HT.sIx items.size 0 lo)==items.size)=true then _ else _) _ _ s
 rw[Ae y];refine Aa ?_;unfold Builtin.Tuple.tupleIsExact;refine Aa (wpAny_typeOf e.typeIs (Ab ?_));rw[Ae (by decide)]
 exact Aa (wpAny_rule (Ab ⟨_,rfl,Ab h⟩))
def eJ0 (K:Frag):V->Option Int->Option Int->Hp->VK->Prop:=λx lo hi H Q=>∃a xs,x=.ref a/\SqT K H a xs /\
 (HT.sIx xs.length 0 lo=0/\HT.sIx xs.length xs.length hi=xs.length->Q (.ref a) H) /\
 (¬(HT.sIx xs.length 0 lo=0/\HT.sIx xs.length xs.length hi=xs.length)->∀p,H p=none->Q (.ref p) (upd H p (.tup (bO9 xs lo hi))))
theorem eF5 (K:Frag)(h:X.K=K:=by rfl):SlR X (eJ0 K):=by
 subst h;intro U s σ H x v R D lo hi N Q I Y z c m h;obtain⟨a,xs,e,j,J,M⟩:=h;by_cases w:HT.sIx xs.length 0 lo=0/\HT.sIx xs.length xs.length hi=xs.length
 .subst e;cases Y;obtain⟨its,r,k,F⟩:=I.tuple j;have y:its.toArray.size=xs.length:=by rw[Ab2];exact r.length.symm
  refine⟨"tuple",_,Bk.lookup,k.typeIs,?_⟩;exact aG5 k z c m (by rw[y];exact w) ⟨.ref a,H,I,rfl,J w⟩
 .exact dZ4 U s σ H x v R D lo hi N Q I Y z c m ⟨a,xs,e,j,w,M w⟩
theorem cT4 (K:Frag)(h:X.K=K:=by rfl):OpR X (binaryOp .Add) (dD1 K):=h▸dO5
end
section
variable {K:Frag}{ρ:List Sl}{m:Bool}{t ta tb:TE}{d:PyData}{ds es:AF}
theorem bK6 (h:M9 ds=true):imm (.tuple ds)=true:=by simp[imm,h]
theorem bG6 {tl th:TO}{lo hi:Option Int}(X:E K false ta ρ (.tuple ds))(J:O K tl ρ lo)(U:O K th ρ hi)(k:M9 ds=true):E K m (tSl (eJ0 K) ta tl th) ρ (.tuple (aR2 ds lo hi)):=
 E.bor (E.imm (m:=false) (λS B σ H o I Q q=>X S B σ H o I _ λx s z M=>J S B σ s o (I.grow z) _ λY c=>U S B σ Y o ((I.grow z).grow c) _ λR N=>by
  cases M with
  | @tup a xs _ sa ra=>
  have y:=L2.Same.tr c N
  have w:=ra.length
  refine⟨a,xs,rfl,F6 y sa,λj=>q _ _ (L2.Same.tr z y) ?_,λ_ p hp=>q _ _ (L2.Same.tr z (L2.Same.tr y (D4 hp))) (.tup (SqT.of B6) (((ra.mono y).cut lo hi).mono (D4 hp)))⟩
  have e:aR2 ds lo hi=ds:=by
   unfold aR2;rw[<- w,j.1,j.2,w]
   simp
  rw[e];exact .tup (F6 y sa) (ra.mono y)) (bK6 (X5 lo hi k)))
theorem dW9 (s:E K false ta ρ (.tuple ds))(Y:E K false tb ρ (.tuple es))(hi:M9 ds=true)(k:M9 es=true)(U:ds≠[])(X:ds.length+es.length<=sizeLine:=by first | decide | (unfold sizeLine;simp;done)):E K m (tOp (dD1 K) ta tb) ρ (.tuple (ds++es)):=
 E.bor (E.imm (m:=false) (λS B σ H o I Q q=>s S B σ H o I _ λx c j J=>Y S B σ c o (I.grow j) _ λy N w M=>by
  cases J with
  | @tup a xs _ sa ra=>
  cases M with
  | @tup b ys _ sb rb=>
  have e:=ra.mono w
  refine⟨a,b,xs,ys,rfl,rfl,F6 w sa,sb,λz=>U (by cases z;cases ra;rfl),by rw[ra.length,rb.length];exact X,λz=>q _ _ (L2.Same.tr j w) ?_,λ_ p hp=>q _ _ (L2.Same.tr j (L2.Same.tr w (D4 hp))) (.tup (SqT.of B6) ((e.append rb).mono (D4 hp)))⟩
  cases z
  cases rb
  rw[Bm];exact .tup (F6 w sa) e) (bK6 (by rw[aE6,hi,k];rfl)))
theorem aW1 {H:Hp}{p:V}{l:AD}(r:Rep K H p (tI l)):∃a,p=.ref a/\SqT K H a (l.map V.int):=by
 cases r with
 | @tup a xs _ s r=>exact⟨a,rfl,by rw[<- r.ints];exact s⟩
theorem bS4 {l:AD}{k:Int}(j:E K false ta ρ (tI l))(c:E K false tb ρ (.int k))(Y:k∈l) :
  E K m (tBM K "tuple" (λx xs H Q=>∃(p:Addr) (l:AD) (k:Int),x=.ref p/\xs=[.int k]/\SqT K H p (l.map V.int)/\k∈l/\Q (.int (l.idxOf k)) H) ta (J9 tb W2)) ρ (.int (l.idxOf k)):=E.bor (E.imm (m:=false) λS B σ H o I Q q=>j S B σ H o I _ λv w e r=>by
 obtain⟨p,rfl,s⟩:=aW1 r;refine⟨.inr (.inl ⟨rfl,_,s⟩),?_⟩;refine c S B σ w o (I.grow e) _ λu z y X=>?_
 cases X
 exact⟨p,l,k,rfl,rfl,F6 y s,Y,q _ z (L2.Same.tr e y) (.int _)⟩)
end
end LV
namespace L2
open PySem PySem.Spec PyProof.Rows
section
theorem Inv.turnedL {t':Nat}{fp:AL}(I:Inv X aA σ H s)(k:∀b o,b∉fp->s.heap.get? b=some o->h'.get? b=some o)(j:∀b∈fp,bD2 X aA H b):Inv X aA σ H {s with heap:=h',toks:=t'}:=by
 have w:∀b u,H b=some u->b∉fp:=λb u e z=>by rw[(j b z).1]at e;cases e
 refine I.step (g':=s.gens) (d':=s.drawn) (ch:=fp) (λb N=>?_) (λb o _ _ y e _=>k b o y e) (λb o _ _ y e _=>⟨o.slots,k b o y e⟩) (λ_ _ _ _ n=>n)
  (λb o y e=>⟨o,k b o y e⟩) (λ_ _ e=>e) (λ_ _ _ e=>e) (λb ps e=>⟨#[],by rw[e];simp⟩) (λm R=>?_) (λb u e=>?_) I.bare
 .obtain⟨_,f1,_,f3,J,M⟩:=j b N;exact⟨f3,f1,J,M⟩
 .obtain⟨o,U,Y,ho,r⟩:=R;exact⟨o,U,Y,k _ o (λz=>(j _ z).2.1 rfl) ho,r⟩
 .refine(I.hok b u e).stay (λc v y q=>k c v ?_ q) (λ_ q=>q) λ_ _ q=>q
  rcases y with z | z
  .rw[z];exact w b u e
  .exact w c _ z
theorem Inv.turnedLaid {t':Nat}{fp:AL}{T:Addr}{ob:HO}(I:Inv X aA σ H s)(k:∀b o,b∉fp->s.heap.get? b=some o->h'.get? b=some o)(J:∀b∈fp,bD2 X aA H b)(N:s.heap.objs.size<=T)
  (M:ObjOk X.prog X.w (upd H T ob) h' T ob):Inv X aA σ (upd H T ob) {s with heap:=h',toks:=t'}:=by
 have Y:∀b u,H b=some u->b∉fp:=λb u e z=>by rw[(J b z).1]at e;cases e
 have R:H T=none:=I.hok.fresh N
 have nT:∀b o,s.heap.get? b=some o->b≠T:=λb o e z=>by have h1:b<s.heap.objs.size:=Ab3 e;rw[z]at h1;exact absurd (Ab8 h1 N) (Ad9 _)
 have j:∀b u,H b=some u->b≠T:=λb u e z=>by rw[z,R]at e;cases e
 refine I.step (g':=s.gens) (d':=s.drawn) (ch:=fp) (λb U=>?_) (λb o _ _ y e _=>k b o y e) (λb o _ _ y e _=>⟨o.slots,k b o y e⟩) (λb o _ e n=>by rw[B4 (nT b o e)];exact n)
  (λb o y e=>⟨o,k b o y e⟩) (λb _ e=>by rw[B4 (j b _ e)];exact e) (λb _ _ e=>by rw[B4 (j b _ e)];exact e) (λb ps e=>⟨#[],by rw[B4 (j b _ e),e];simp⟩) (λm P=>?_) (λb u e=>?_) I.bare
 .obtain⟨_,f1,_,f3,F,B⟩:=J b U;exact⟨f3,f1,F,B⟩
 .obtain⟨o,D,Q,ho,r⟩:=P;exact⟨o,D,Q,k _ o (λz=>(J _ z).2.1 rfl) ho,r⟩
 .by_cases U:b=T
  .subst U;rw[B6]at e;cases e;exact M
  rw[B4 U]at e;refine(I.hok b u e).stay (λc v y q=>k c v ?_ q) (λc q=>by rw[B4 (j c _ q)];exact q) λc _ q=>by rw[B4 (j c _ q)];exact q
  rcases y with z | z
  .rw[z];exact Y b u e
  .exact Y c _ z
end
def Iel (K:Frag)(a:Addr):It:=
 ⟨λi H=>∃xs x,SqL K H a xs/\xs[i]? = some x,λi H x H'=>∃T y,x=.ref T/\H T=none/\H'=upd H T (.tup [.int (i:Int),y])/\∀xs,SqL K H a xs->xs[i]? = some y,λi H=>∃xs,SqL K H a xs/\xs.length<=i⟩
theorem cB6 {P:Program}{w:World}{K:Frag}{elts:AM}{k:_}{pos:Pos}(a e it:Addr)(U:e≠it):bF2 P w K (.Tuple elts k pos) (Iel K a) [e,it] e (λi h=>(∃old,IsEnum h e it (i:Int) old)/\h.IsListIter it a i) where
 mem:=by simp
 obj:=λi h y b hb=>by
  obtain⟨⟨old,j⟩,o,e1,c,d⟩:=y;rcases Aa1.mp hb with rfl | hb
  .exact⟨_,j,λv z=>by cases z⟩
  .have m:b=it:=by simpa using hb
   subst m;exact⟨o,e1,λv z=>by rw[d]at z;cases z⟩
 keep:=λi h N y k=>⟨⟨y.1.choose,k e (by simp) _ y.1.choose_spec⟩,y.2.at λo q=>k it (by simp) o q⟩
 item:=by
  intro X hP hw B hc i aA s σ H E I R y hg;subst hP hw B;obtain⟨⟨old,j⟩,hi⟩:=y;obtain⟨xs,x,Q,hx⟩:=hg;obtain⟨its,rv,p,hz⟩:=I.list Q;obtain⟨u,hu,ru⟩:=rv.get hx;refine wpAny_pyNext_enum_item j hi p.isList (x:=u) (by simpa using hu) U λN ho hi' hT hs kp=>?_
  refine⟨_,rfl,?_⟩;have ea:a≠e:=λz=>by
   obtain⟨o,n,q,c,_⟩:=p;rw[z]at q;rw[show s.heap.get? e=_ from j]at q
   cases q
   injection c with c
   exact absurd c (by decide)
  have Y:a≠it:=λz=>by
   obtain⟨o,n,q,c,_⟩:=p;obtain⟨o',q',c',_⟩:=hi;rw[z,q']at q;cases q;rw[c']at c
   injection c with c
   exact absurd c (by decide)
  have D:s.heap.objs.size≠e:=λz=>by have h1:=Ab3 j;rw[z]at h1;exact Ad9 _ h1
  have F:s.heap.objs.size≠it:=λz=>by
   obtain⟨o',q',_⟩:=hi;have h1:=Ab3 q';rw[z]at h1;exact Ad9 _ h1
  have pl':N.IsList a its.toArray:=by
   obtain⟨o,n,q,c,dd,d⟩:=p;exact⟨o,kp a o ea Y q,c,n,d⟩
  refine(WalksT.enumerate (prog:=X.prog) (w:=X.w) (A:=X.A) (I.ok.hd hc) e it a U ea Y its.toArray).go elts k pos i s.heap.objs.size {s with heap:=N,toks:=s.toks+1} _ _ ⟨⟨u,ho⟩,hi',pl',D,F⟩ λh2 ⟨⟨M,he2⟩,hi2,_⟩ J=>?_
  have hT2:=J s.heap.objs.size _ (by simp[D,F]) hT
  refine⟨.ref s.heap.objs.size,upd H s.heap.objs.size (.tup [.int (i:Int),x]),?_,rfl,⟨_,x,rfl,I.hok.fresh (Aa7 _),rfl,λys hy=>by rw[I.list_inj hy Q];exact hx⟩,⟨⟨M,by simpa using he2⟩,hi2⟩,λb hb=>?_⟩
  .refine I.turnedLaid (t':=s.toks+1) (fp:=[e,it]) (λb o hb q=>J b o hb (kp b o (λz=>hb (by simp[z])) (λz=>hb (by simp[z])) q)) R (Aa7 _) ?_
   exact⟨by show 2<=sizeLine;decide,[.int (i:Int) s.toks,u],.cons ⟨_,rfl⟩ (.cons ru .nil),⟨_,hT2,rfl,⟨_,rfl⟩,rfl⟩⟩
  .rw[B4]
   .exact(R b hb).1
   .rcases Aa1.mp hb with rfl | hb
    .exact Ne.symm D
    .have m:b=it:=by simpa using hb
     subst m;exact Ne.symm F
 done:=by
  intro X hP hw B hc i aA s σ H E I R y hg;subst hP hw B;obtain⟨⟨old,j⟩,hi⟩:=y;obtain⟨xs,Q,hx⟩:=hg;obtain⟨its,rv,p,hz⟩:=I.list Q;have hl:=rv.length;exact wpAny_pyNext_enum_end (I.ok.hd hc) j hi p.isList (by simp;lia) λN m=>⟨rfl,I.turnedL (t':=s.toks) (λb o hb q=>m b o (λz=>hb (by simp[z])) q) R⟩
 self:=λ_ _ _ _ _ y h=>wpAny_pyIter_enum y.1.choose_spec h
section
def cZ6 (K:Frag)(ta:TA):TI:=λσ H R=>ta σ H λvs H1=>∃a xs,vs=[.ref a]/\SqL K H1 a xs/\R (Iel K a) H1
theorem bU7 {l:Expr}{ta:TA}{p pos:Pos}(K:Frag)(J:Gl X "enumerate")(M:X.mg "enumerate" = none)(U:PA X [l] ta)(Y:X.K=K:=by rfl)(j:starEach [l] X.env=[(false,eval l X.env)]:=by rfl):PI X (.Tuple elts k ps) (.Call (.Name "enumerate" p) [l] [] pos) (cZ6 K ta):=by
 subst Y;refine⟨?_⟩;intro m s σ H R I h;refine Call_ (t8 I J M boot_enumerate (Bj (thn (U pos m s σ H _ I h) λus w F=>?_) j rfl))
 obtain⟨vs,c,y,P,B⟩:=F;obtain⟨a,xs,e,N,q⟩:=B;subst e;obtain⟨u,rfl,rx⟩:=S0 P;cases rx;obtain⟨its,rv,D,hz⟩:=y.list N;refine call_enumerate_list D.isList λh' z hi j Q=>?_
 refine wpAny_pyIter_enum z ?_;refine⟨w.heap.objs.size+1,[w.heap.objs.size+1,w.heap.objs.size],_,_,c,rfl,y.kept (t':=w.toks) Q,cB6 a _ _ (by simp),⟨⟨_,z⟩,hi⟩,λb hb=>?_,q⟩
 rcases Aa1.mp hb with rfl | hb
 .exact y.fpOk (Nat.le_succ _) (y.hok.fresh (Nat.le_succ _))
 .have e:b=w.heap.objs.size:=by simpa using hb
  subst e;exact y.fpOk (Aa7 _) (y.hok.fresh (Aa7 _))
end
end L2
namespace LV
open PySem PySem.Spec PyProof.Rows L2
section
variable {K:Frag}{ρ:List Sl}{m:Bool}{t ta tb:TE}{d d':PyData}{ds es:AF}
def enD (ds:AF):AF:=ds.mapIdx λi d=>.tuple [.int (i:Int),d]
theorem aO0:(enD ds).length=ds.length:=by simp[enD]
theorem aJ5 {i:Nat}{d:PyData}(h:(enD ds)[i]? = some d):∃y,ds[i]? = some y/\d=.tuple [.int (i:Int),y]:=by
 unfold enD at h;rw[List.getElem?_mapIdx]at h;obtain⟨y,h1,e⟩:=Ba.mp h;exact⟨y,h1,e.symm⟩
theorem cU5 (s:SqL K Z a xs)(r:Reps K Z xs ds):Wk K Z (Iel K a) (enD ds) where
 stop:=λi H h l=>⟨xs,P1 h s,by rw[r.length,<- aO0];exact l⟩
 go:=λi H d h e=>by
  obtain⟨y,e,_⟩:=aJ5 e;obtain⟨v,h1,_⟩:=r.get' e;exact⟨xs,v,P1 h s,h1⟩
 yld:=λi H d x Y h e y=>by
  obtain⟨z,e',rfl⟩:=aJ5 e;obtain⟨T,v,rfl,k,rfl,y⟩:=y
  have:=y xs (P1 h s)
  obtain⟨d',h1,j⟩:=r.get this;rw[e']at h1;cases h1;have g:=D4 (o:=.tup [.int (i:Int),v]) k;refine⟨g,λS w=>?_⟩
  have c:Same Z (hid S (upd H T (.tup [.int (i:Int),v]))):=λb o q=>hid_some.mpr ⟨(λz=>by rw[(w b z).1]at q;cases q),g b o (h b o q)⟩
  exact .tup (SqT.of (hid_some.mpr ⟨λz=>(w T z).2 k,B6⟩)) (.cons (.int _) (.cons (j.mono c) .nil))
theorem cG6 {t:TA}(h:A K m t ρ [.list ds]):I K m (cZ6 K t) ρ (enD ds):=λS B σ H o J R q=>h S B σ H o J _ λvs e y r=>by
 cases r with
 | cons a b=>
  cases b
  cases a with
  | lst s r=>exact⟨_,_,rfl,P1 aM4 s,q _ e y (cU5 s r)⟩
end
end LV
namespace L2
open PySem PySem.Spec PyProof.Rows
section
theorem bJ4 {a:Addr}{o:Obj}{items:AJ}{n:Nat}{M:Model}{Q:Option (AJ)->Shared->Prop}(e:s.heap.get? a=some o)(d:o.data=.seq items n)(h:Q (some items) s):wpAny M A (seqItems? (.ref a)) Q E s:=by
 unfold seqItems?;refine Aa (wpAny_load e ?_);rw[d];exact Ab h
theorem aK8 (st:s.heap.IsTupleIter it t i)(Y:s.heap.IsTuple t items)(X:items[i]? = some x)
  (h:∀h':Heap,h'.IsTupleIter it t (i+1)->Heap.SameBut it s.heap h'->Q x {s with heap:=h'}):wpAny (model prog w) A (Builtin.SmallTypes.nextOf (.ref it)) Q E s:=by
 unfold Builtin.SmallTypes.nextOf;refine Aa (De st.typeIs slot_tupleiter_next (Dd slot_tupleiter_next st.typeIs entry_tupleiter_next ?_ (args_tupleiter_next _)));obtain⟨o,e,c,d⟩:=id st;obtain⟨R,j,J,n,z⟩:=Y;have k:slotArgs "__next__" 0 {pos:=[.ref it]}=pure (.ref it,[]):=rfl;refine Aa (m:=slotArgs "__next__" 0 {pos:=[.ref it]}) ?_;rw[k];refine Ab ?_;refine Aa (m:=field (.ref it) 0) (wpAny_field e d rfl ?_);refine Aa (m:=field (.ref it) 1) (wpAny_field e d rfl ?_);refine Aa (m:=seqItems? (.ref t)) (bJ4 j z ?_);show wpAny _ _ (match items[(i:Int).toNat]? with | some x=>_ | none=>_) _ _ _
 rw[Ac8,X];refine Aa (m:=setField (.ref it) 1 (rawInt ((i:Int)+1))) (wpAny_setField e d (by simp) ?_)
 obtain⟨M,N,y,U⟩:=o;dsimp only at c d;subst c;subst d;exact Ab ⟨x,rfl,Ab (h _ ⟨_,Bw _ e rfl,rfl,rfl⟩ (Heap.SameBut.update _ _ _))⟩
theorem eI0 (z:A.handled=none)(h:∀(h':Heap) (e:Addr),(∀b o,s.heap.get? b=some o->h'.get? b=some o)->(∃o,h'.get? e=some o/\o.cls=.type "StopIteration")->E (.ref e) {s with heap:=h'}) :
  wpAny M A (Builtin.SmallTypes.stopIteration (α := α)) Q E s:=by
 unfold Builtin.SmallTypes.stopIteration newExc;refine Aa ?_;refine Aa (wpAny_newTuple ?_ (by show 0<=sizeLine;exact Bv _))
 have w:firstArgMember (.type "StopIteration") []=pure .none:=by
  unfold firstArgMember;show(pure _ >>= λy=>pure (if y=true then _ else _))=_
  cases (Manifest.find? "StopIteration").elim false λt=>t.mro.contains "StopIteration" || t.mro.contains "SystemExit" <;> rfl
 rw[w];refine Aa (Ab ?_);refine Cg ?_ (by show(6:Nat)<=sizeLine+2;decide)
 refine wpAny_raiseNew_none z (h _ _ (λb o q=>Aa6 _ (Aa6 _ q)) ⟨_,Ac3 _ rfl,rfl⟩)
theorem r6 (Y:A.handled=none)(st:s.heap.IsTupleIter it t i)(X:s.heap.IsTuple t items)(U:items[i]? = none)
  (h:∀(h':Heap) (e:Addr),Heap.ExtBut it s.heap h'->(∃o,h'.get? e=some o/\o.cls=.type "StopIteration")->E (.ref e) {s with heap:=h'}):wpAny (model prog w) A (Builtin.SmallTypes.nextOf (.ref it)) Q E s:=by
 unfold Builtin.SmallTypes.nextOf;refine Aa (De st.typeIs slot_tupleiter_next (Dd slot_tupleiter_next st.typeIs entry_tupleiter_next ?_ (args_tupleiter_next _)));obtain⟨o,e,c,d⟩:=id st;obtain⟨R,k,M,n,y⟩:=X;have z:slotArgs "__next__" 0 {pos:=[.ref it]}=pure (.ref it,[]):=rfl;refine Aa (m:=slotArgs "__next__" 0 {pos:=[.ref it]}) ?_;rw[z];refine Ab ?_;refine Aa (m:=field (.ref it) 0) (wpAny_field e d rfl ?_);refine Aa (m:=field (.ref it) 1) (wpAny_field e d rfl ?_);refine Aa (m:=seqItems? (.ref t)) (bJ4 k y ?_);show wpAny _ _ (match items[(i:Int).toNat]? with | some x=>_ | none=>_) _ _ _
 rw[Ac8,U];refine Aa (wpAny_rule ?_);refine Aa (m:=setField (.ref it) 0 .none) (wpAny_setField e d (by simp) ?_)
 exact eI0 Y λh' ex J N=>h h' ex (λb o j q=>J b o (by rw[Heap.get?_update_ne _ _ _ _ j];exact q)) N
theorem bR1 (X:A.handled=none)(it t:Addr)(z:t≠it)(items:AJ):Draws prog w A it [it,t] items.size (λi v=>items[i]? = some v) λi h=>h.IsTupleIter it t i/\h.IsTuple t items where
 live:=λi h y=>⟨_,y.1.choose_spec.1⟩
 frame:=λi h c y k=>⟨y.1.at λo e=>k it (by simp) o e,by
  obtain⟨o,e,r⟩:=y.2;exact⟨o,k t (by simp) o e,r⟩⟩
 item:=λi s Q E hi y h=>by
  have m:items[i]? = some items[i]:=Ck hi
  refine aK8 y.1 y.2 m λc j Y=>h _ c s.toks m ⟨j,?_⟩ Y
  obtain⟨o,e,r⟩:=y.2;exact⟨o,by rw[Y.2 t z];exact e,r⟩
 done:=λs Q E y h=>r6 X y.1 y.2 (by simp) h
theorem aS0 (t:Addr)(items:AJ):Meets (Builtin.«enumerate.__new__» {pos:=[.type "enumerate",.ref t]}) λx R s=>
  s.heap.IsTuple t items/\R (.ok (.ret (.ref (s.heap.push {cls:=.type "tuple_iterator",data:=.fields #[.ref t,.int 0 0]}).objs.size)))
   {s with heap:=(s.heap.push {cls:=.type "tuple_iterator",data:=.fields #[.ref t,.int 0 0]}).push {cls:=.type "enumerate",data:=.fields #[.none,.bool false,.ref s.heap.objs.size,rawInt 0,.none,.none]}}:=by
 intro y w A R s ⟨M,J⟩;unfold Builtin.«enumerate.__new__»;have X:Builtin.SmallTypes.newClass "enumerate" {pos:=[.type "enumerate",.ref t]}=pure (.type "enumerate",[.ref t]):=by
  unfold Builtin.SmallTypes.newClass;show(pure true >>= _)=_;rw[pure_bind];show(isSubtype (.type "enumerate") (.type "enumerate") >>= _)=_;rw[F.called_enumerate.sub];rfl
 rw[X];refine Aa (Ab ?_);dsimp only;rw[Ae (by decide)]
 refine Aa ?_;unfold Builtin.SmallTypes.calledThroughType;refine Aa (wpAny_stack λQ _ _ _=>Ab ?_)
 have z:wpAny (model y w) A.in1 (do
   let it <- pyIter (.ref t)
   let r <- Builtin.SmallTypes.newRecord (.type "enumerate") (Builtin.SmallTypes.ownedTupleFields++[it,rawInt 0,.none,.none])
   ret r) (λz k=>match z with | .done f=>R (.ok f) k | .again c=>c.quiet=true/\codeAny (model y w) A c R k) (λe k=>R (.error e) k) s:=by
  refine Aa (wpAny_pyIter_tuple M ?_);refine Aa (m:=Builtin.SmallTypes.newRecord _ _) ?_;unfold Builtin.SmallTypes.newRecord;exact Cg (Ab J) (by show(6:Nat)<=sizeLine+2;decide)
 have Y:∀(j:Bool) (C N:Sem PySem.Fin),wpAny (model y w) A.in1 C (λz k=>match z with | .done f=>R (.ok f) k | .again c=>c.quiet=true/\codeAny (model y w) A c R k) (λe k=>R (.error e) k) s->wpAny (model y w) A.in1 N (λz k=>match z with | .done f=>R (.ok f) k | .again c=>c.quiet=true/\codeAny (model y w) A c R k) (λe k=>R (.error e) k) s->wpAny (model y w) A.in1 (if j=true then C else N) (λz k=>match z with | .done f=>R (.ok f) k | .again c=>c.quiet=true/\codeAny (model y w) A c R k) (λe k=>R (.error e) k) s:=λj C N h1 U=>by
  cases j
  .rw[Ac (by decide)];exact U
  .rw[Ae rfl];exact h1
 refine Y _ _ _ ?_ ?_
 .exact Aa (m:=pure (Value.ref t,none)) (Ab z)
 .exact Aa (m:=pure (Value.ref t,none)) (Ab z)
theorem aB9 (z:s.heap.IsTuple t items)
  (h:∀h':Heap,IsEnum h' (s.heap.objs.size+1) s.heap.objs.size 0 .none->h'.IsTupleIter s.heap.objs.size t 0->(∀b o,s.heap.get? b=some o->h'.get? b=some o)->Q (.ref (s.heap.objs.size+1)) {s with heap:=h'}) :
  wpAny (model prog w) A (call (.type "enumerate") [.ref t]) Q E s:=by
 have e:(s.heap.push {cls:=.type "tuple_iterator",data:=.fields #[.ref t,.int 0 0]}).objs.size=s.heap.objs.size+1:=by simp[Heap.push]
 refine callType_new F.called_enumerate (by decide) (F.typeCall_enumerate_1 _) (F.newCall_enumerate_1 _) (λk=>F.args_object_init_2 _ _) F.entry_enumerate_new (aS0 t items) ⟨z,?_⟩
 show _/\_
 rw[e];have y:((s.heap.push {cls:=.type "tuple_iterator",data:=.fields #[.ref t,.int 0 0]}).push {cls:=.type "enumerate",data:=.fields #[.none,.bool false,.ref s.heap.objs.size,rawInt 0,.none,.none]}).get? (s.heap.objs.size+1)=some {cls:=.type "enumerate",data:=.fields #[.none,.bool false,.ref s.heap.objs.size,rawInt 0,.none,.none]}:=by
  have:=Ac3 (h:=s.heap.push {cls:=.type "tuple_iterator",data:=.fields #[.ref t,.int 0 0]}) (o:={cls:=.type "enumerate",data:=.fields #[.none,.bool false,.ref s.heap.objs.size,rawInt 0,.none,.none]}) rfl
  rw[e]at this;exact this
 exact⟨⟨_,y,rfl⟩,h _ y ⟨_,Aa6 _ (Ac3 _ rfl),rfl,rfl⟩ λb o q=>Aa6 _ (Aa6 _ q)⟩
end
def Iet (K:Frag)(a:Addr):It:=
 ⟨λi H=>∃xs x,SqT K H a xs/\xs[i]? = some x,λi H x H'=>∃T y,x=.ref T/\H T=none/\H'=upd H T (.tup [.int (i:Int),y])/\∀xs,SqT K H a xs->xs[i]? = some y,λi H=>∃xs,SqT K H a xs/\xs.length<=i⟩
theorem tuple_inj (I:Inv X aA σ H s)(h:SqT X.K H a xs)(h':SqT X.K H a ys):xs=ys:=by
 obtain⟨its,r,⟨o,e,_,n,d⟩,_⟩:=I.tuple h;obtain⟨y,k,⟨c,e',_,j,w⟩,_⟩:=I.tuple h';rw[e]at e';cases e';rw[d]at w
 injection w with z _
 have:its=y:=by simpa using congrArg Array.toList z
 subst this;exact r.inj k
theorem cA7 {P:Program}{w:World}{K:Frag}{elts:AM}{k:_}{pos:Pos}(a e it:Addr)(J:e≠it):bF2 P w K (.Tuple elts k pos) (Iet K a) [e,it] e (λi h=>(∃old,IsEnum h e it (i:Int) old)/\h.IsTupleIter it a i) where
 mem:=by simp
 obj:=λi h m b hb=>by
  obtain⟨⟨old,U⟩,o,e1,c,d⟩:=m;rcases Aa1.mp hb with rfl | hb
  .exact⟨_,U,λv z=>by cases z⟩
  .have N:b=it:=by simpa using hb
   subst N;exact⟨o,e1,λv z=>by rw[d]at z;cases z⟩
 keep:=λi h Y m k=>⟨⟨m.1.choose,k e (by simp) _ m.1.choose_spec⟩,m.2.at λo q=>k it (by simp) o q⟩
 item:=by
  intro X hP hw hK hc i aA s σ H E I R m hg;subst hP hw hK;obtain⟨⟨old,U⟩,hi⟩:=m;obtain⟨xs,x,D,hx⟩:=hg;obtain⟨its,rv,p,hz⟩:=I.tuple D;obtain⟨u,hu,ru⟩:=rv.get hx;have ea:a≠e:=λz=>by
   obtain⟨o,q,c,_⟩:=p;rw[z]at q;rw[show s.heap.get? e=_ from U]at q
   cases q
   injection c with c
   exact absurd c (by decide)
  have B:a≠it:=λz=>by
   obtain⟨o,q,c,_⟩:=p;obtain⟨o',q',c',_⟩:=hi;rw[z,q']at q;cases q;rw[c']at c
   injection c with c
   exact absurd c (by decide)
  have hlt:i<its.toArray.size:=by have:=(Ab0.mp hu).1;simpa using this
  refine wpAny_pyNext_enum_itemD (bR1 (A:=X.A.in1) (I.ok.hd hc) it a B its.toArray) U ⟨hi,p⟩ hlt J (by simp[J,Ne.symm ea]) λy Y tk F ho hst hT hs kp=>?_
  have ey:y=u:=by
   have h1:its.toArray[i]? = some u:=by simpa using hu
   rw[h1]at F;exact(Ab4 F).symm
  subst ey;obtain⟨hi',p'⟩:=hst;refine⟨_,rfl,?_⟩;have Te:s.heap.objs.size≠e:=λz=>by have h1:=Ab3 U;rw[z]at h1;exact Ad9 _ h1
  have Ti:s.heap.objs.size≠it:=λz=>by
   obtain⟨o',q',_⟩:=hi;have h1:=Ab3 q';rw[z]at h1;exact Ad9 _ h1
  unfold letOwnedTupleGo;refine Aa (wpAny_load ho ?_);dsimp only;rw[Ae (by simp[rawInt])]
  refine Aa (wpAny_rule ?_);unfold updateField;refine Aa (wpAny_load ho ?_);dsimp only;rw[Ae (by simp)]
  refine wpAny_update ho ?_;have he2:(Y.update e (Obj.mapFields λx=>x.setIfInBounds 0 .none)).get? e=some {cls:=.type "enumerate",data:=.fields #[.none,.bool false,.ref it,rawInt ((i:Int)+1),.none,y]}:=Bw (h:=Y) (o:={cls:=.type "enumerate",data:=.fields #[rawInt (s.heap.objs.size:Int),.bool false,.ref it,rawInt ((i:Int)+1),.none,y]}) (λo=>Obj.mapFields (λx=>x.setIfInBounds 0 .none) o) ho rfl
  have M:∀b o,b≠e->Y.get? b=some o->(Y.update e (Obj.mapFields λx=>x.setIfInBounds 0 .none)).get? b=some o:=λb o hb q=>by rw[Heap.get?_update_ne _ _ _ _ hb];exact q
  have hT2:=M s.heap.objs.size _ Te hT
  refine⟨.ref s.heap.objs.size,upd H s.heap.objs.size (.tup [.int (i:Int),x]),?_,rfl,⟨_,x,rfl,I.hok.fresh (Aa7 _),rfl,λys F=>by rw[tuple_inj I F D];exact hx⟩,⟨⟨y,by rw[show((i+1:Nat):Int)=(i:Int)+1 by lia];exact he2⟩,hi'.at λo q=>M it o (Ne.symm J) q⟩,λb hb=>?_⟩
  .refine I.turnedLaid (t':=tk+1) (fp:=[e,it]) (λb o hb q=>M b o (λz=>hb (by simp[z])) (kp b o (λz=>hb (by simp[z])) (λz=>hb (by simp[z])) q)) R (Aa7 _) ?_
   exact⟨by show 2<=sizeLine;decide,[.int (i:Int) tk,y],.cons ⟨_,rfl⟩ (.cons ru .nil),⟨_,hT2,rfl,⟨_,rfl⟩,rfl⟩⟩
  .rw[B4]
   .exact(R b hb).1
   .rcases Aa1.mp hb with rfl | hb
    .exact Ne.symm Te
    .have N:b=it:=by simpa using hb
     subst N;exact Ne.symm Ti
 done:=by
  intro X hP hw hK hc i aA s σ H E I R m hg;subst hP hw hK;obtain⟨⟨old,U⟩,hi⟩:=m;obtain⟨xs,D,hx⟩:=hg;obtain⟨its,rv,p,hz⟩:=I.tuple D;have hl:=rv.length;have hD:Draws X.prog X.w X.A.in1 it [it,a] i (λ_ _=>False) (λj h=>j=i/\h.IsTupleIter it a i/\h.IsTuple a its.toArray):=⟨λj h m=>⟨_,m.2.1.choose_spec.1⟩,λj h Y m k=>⟨m.1,m.2.1.at λo e=>k it (by simp) o e,by
   obtain⟨o,e,r⟩:=m.2.2;exact⟨o,k a (by simp) o e,r⟩⟩,λj s Q E hj m _=>absurd m.1 (Ab9 hj),λs Q E m h=>r6 (I.ok.hd hc) m.2.1 m.2.2 (by simp;lia) h⟩
  exact wpAny_pyNext_enum_endD hD U ⟨rfl,hi,p⟩ λY N=>⟨rfl,I.turnedL (t':=s.toks) (λb o hb q=>N b o (λz=>hb (by simp[z])) q) R⟩
 self:=λ_ _ _ _ _ m h=>wpAny_pyIter_enum m.1.choose_spec h
section
def cV7 (K:Frag)(ta:TA):TI:=λσ H R=>ta σ H λvs H1=>∃a xs,vs=[.ref a]/\SqT K H1 a xs/\R (Iet K a) H1
theorem dD8 {l:Expr}{ta:TA}{p pos:Pos}(K:Frag)(U:Gl X "enumerate")(J:X.mg "enumerate" = none)(Y:PA X [l] ta)(m:X.K=K:=by rfl)(N:starEach [l] X.env=[(false,eval l X.env)]:=by rfl):PI X (.Tuple elts k ps) (.Call (.Name "enumerate" p) [l] [] pos) (cV7 K ta):=by
 subst m;refine⟨?_⟩;intro c s σ H R I h;refine Call_ (t8 I U J boot_enumerate (Bj (thn (Y pos c s σ H _ I h) λus w F=>?_) N rfl))
 obtain⟨vs,j,y,P,B⟩:=F;obtain⟨a,xs,e,M,q⟩:=B;subst e;obtain⟨u,rfl,rx⟩:=S0 P;cases rx;obtain⟨its,rv,D,hz⟩:=y.tuple M;refine aB9 D λh' z hi Q=>?_
 refine wpAny_pyIter_enum z ?_;refine⟨w.heap.objs.size+1,[w.heap.objs.size+1,w.heap.objs.size],_,_,j,rfl,y.kept (t':=w.toks) Q,cA7 a _ _ (by simp),⟨⟨_,z⟩,hi⟩,λb hb=>?_,q⟩
 rcases Aa1.mp hb with rfl | hb
 .exact y.fpOk (Nat.le_succ _) (y.hok.fresh (Nat.le_succ _))
 .have e:b=w.heap.objs.size:=by simpa using hb
  subst e;exact y.fpOk (Aa7 _) (y.hok.fresh (Aa7 _))
end
end L2
namespace LV
open PySem PySem.Spec PyProof.Rows L2
section
variable {K:Frag}{ρ:List Sl}{m:Bool}{t ta tb:TE}{d d':PyData}{ds es:AF}
theorem dC1 (s:SqT K Z a xs)(r:Reps K Z xs ds):Wk K Z (Iet K a) (enD ds) where
 stop:=λi H h l=>⟨xs,F6 h s,by rw[r.length,<- aO0];exact l⟩
 go:=λi H d h e=>by
  obtain⟨y,e,_⟩:=aJ5 e;obtain⟨v,h1,_⟩:=r.get' e;exact⟨xs,v,F6 h s,h1⟩
 yld:=λi H d x Y h e y=>by
  obtain⟨z,e',rfl⟩:=aJ5 e;obtain⟨T,v,rfl,k,rfl,y⟩:=y
  have:=y xs (F6 h s)
  obtain⟨d',h1,j⟩:=r.get this;rw[e']at h1;cases h1;have g:=D4 (o:=.tup [.int (i:Int),v]) k;refine⟨g,λS w=>?_⟩
  have c:Same Z (hid S (upd H T (.tup [.int (i:Int),v]))):=λb o q=>hid_some.mpr ⟨(λz=>by rw[(w b z).1]at q;cases q),g b o (h b o q)⟩
  exact .tup (SqT.of (hid_some.mpr ⟨λz=>(w T z).2 k,B6⟩)) (.cons (.int _) (.cons (j.mono c) .nil))
theorem dM0 {t:TA}(h:A K m t ρ [.tuple ds]):I K m (cV7 K t) ρ (enD ds):=λS B σ H o J R q=>h S B σ H o J _ λvs e y r=>by
 cases r with
 | cons a b=>
  cases b
  cases a with
  | tup s r=>exact⟨_,_,rfl,F6 aM4 s,q _ e y (dC1 s r)⟩
end
section
variable {K:Frag}{ρ ρ':List Sl}{m:Bool}{t ta tb:TE}{d d':PyData}{ds es:AF}
def spX (K:Frag)(pre:AF->(PyData->Prop)->Prop):Sp:=λvs H Q _=>∃(ds:AF) (S:Addr->Prop) (post:PyData->Prop),(∀b,S b->∃u:HM,H b=some u.ho)/\Reps K (hid S H) vs ds/\pre ds post /\
 ∀d v H',post d->Same H H'->Rep K (hid S H') v d->Q v H'
theorem cD6 {t:TS}{N:AH}{vs:List V}{S:Addr->Prop}{H:Hp}{Q:VK}{post:PyData->Prop}(j:∀b,S b->∃u:HM,H b=some u.ho)(r:Reps K (hid S H) vs ds)(w:W K t (sl0 N.length ds) {nx:=λ_=>post .none,rt:=post})
  (k:∀d v H',post d->Same H H'->Rep K (hid S H') v d->Q v H'):t {nx:=λ_ H'=>Q .non H',rt:=Q} (L2.S5 N vs) H:=
 w S H _ _ H _ (env0 j r) ⟨λρ' X H' Y y z=>k _ _ H' z y.base .non,λv e H' s c z=>k e v H' z s c,λ_ _ _ _ _ _ _ _ z=>z.elim,λ_ _ _ _ _ z=>z.elim,λ_ _ _ _ _ z=>z.elim⟩
theorem bZ0 {i:Nat}{R:AE}{pre:AF->(PyData->Prop)->Prop}{post:PyData->Prop}{t:TA}{X:XK}(k:A K true t ρ ds)(hp:pre ds post)(j:∀d,post d->R.nx (ρ.set i (.val d))):W K (aK1 (aO9 (spX K pre) [] X t) (Q3 i)) ρ R:=λS B D σ H o I s=>
 k S B σ H o I _ λvs U y rs=>⟨ds,D6 ρ o S,post,(I.grow y).lists,by rw[Bm];exact rs,hp,λd v e z c r=>(B9 (K:=K) (m:=true) (i:=i) (ρ := ρ) (d:=d)).2 S B σ e o (I.grow (L2.Same.tr y c)) v r _ λY w=>s.nx _ Y e o w (j d z)⟩
theorem dZ9 {K:Frag}{pre:AF->(PyData->Prop)->Prop}{n:Nat}(h:∀ds d,pre ds d->ds.length=n):∀vs H Q E,spX K pre vs H Q E->vs.length=n:=by
 rintro vs H Q E ⟨ds,S,d,_,r,p,_⟩;have e:=r.length;rw[e];exact h ds d p
theorem dS6 {K:Frag}{ρ:List Sl}(y:List Sl->Prop){c:TT}{t u:TS}{b:Bool}{R:AE}(h:LV.T K c ρ b)(h1:b=true->W K t ρ {R with nx:=y})(k:b=false->W K u ρ {R with nx:=y})(w:∀ρ',y ρ'->R.nx ρ'):W K (cW1 c t u) ρ R:=
 O8 h (λe=>(h1 e).weak w (λ_ z=>z) (λ_ z=>z) (λ_ z=>z) (λ_ z=>z)) (λe=>(k e).weak w (λ_ z=>z) (λ_ z=>z) (λ_ z=>z) (λ_ z=>z))
end
end LV
namespace L2
open PySem PySem.Spec PyProof.Rows
open PySem.Builtin PySem.Builtin.Str
theorem bR7 (c:Nat):∀(n:Nat) (A:Array Nat),(List.replicate n #[c]).foldl (· ++ ·) A=A++(List.replicate n c).toArray
 | 0,A=>by simp
 | n+1,A=>by
  rw[Be,List.foldl_cons,bR7 c n]
  apply Array.ext'
  simp[Be]
section
def dR9:R2:=λx y H Q=>∃c n,x=.str ⟨#[c]⟩/\y=.int n/\(-10000<n/\n<10000)/\Q (.str ⟨(List.replicate n.toNat c).toArray⟩) H
theorem dO3:OpR X (binaryOp .Mult) dR9:=by
 intro Y s σ H x y v u Q I j m ⟨c,n,z,k,U,q⟩;subst z;subst k;obtain⟨t,rfl⟩:=j;obtain⟨J,rfl⟩:=m;refine P.mul_str ?_ ?_ ?_ ?_
 .rw[Aj (by lia),Aj (by lia)];rfl
 .intro h1 _ w;have w:(1:Int)>(2^63-1) / n:=w
  have:1<=(2^63-1:Int) / n:=(Int.le_ediv_iff_mul_le (by lia)).mpr (by lia)
  lia
 .intro _ _;show decide (1*n.toNat>sizeLine)=false;unfold sizeLine;exact Aj (by lia)
 .by_cases h1:n<1
  .rw[Ae h1];have e:n.toNat=0:=by lia
   rw[e]at q;exact⟨by decide,.str _,H,I.tok _,⟨_,rfl⟩,q⟩
  .rw[Ac h1];by_cases w:n=1
   .subst w;rw[Ae (by rfl)]
    exact⟨.str _,H,I,⟨_,rfl⟩,q⟩
   .rw[Ac (by
     have:(n==1)=false:=by simpa using w
     rw[this];show ¬((false||(1==0))=true);decide)]
    rw[bR7 c n.toNat #[],show(#[]:Array Nat)++(List.replicate n.toNat c).toArray=(List.replicate n.toNat c).toArray by simp]
    exact⟨by
     show(List.replicate n.toNat c).toArray.size<=sizeLine
     unfold sizeLine
     simp;lia,.str _,H,I.tok _,⟨_,rfl⟩,q⟩
end
end L2
namespace LV
open PySem PySem.Spec PyProof.Rows L2
end LV
namespace L2
open PySem PySem.Spec PyProof.Rows
def Fly (h0:Heap)(H:Hp)(x:Addr)(cls:Value)(h:Heap):Prop:=
 ∃a0 oe vs T oT ts,h0.get? x=none/\h0.get? T=none/\H x=none/\H T=none/\h.get? x=some oe/\(oe.cls=cls/\vs[0]? = some a0)/\oe.data=.fields vs/\vs[1]? = some (.ref T)/\T≠x/\h.get? T=some oT/\oT.data=.fields ts/\ts[3]? = some .none
section
variable {P:Program}{w:World}{H H':Hp}{h h1 h2:Heap}{fs B:AL}
theorem cV6 (u:Un fs [] H H' h h1)(X:∀b∈B,h.get? b=none)(k:∀b o,h1.get? b=some o->b∉fs->b∉B->h2.get? b=some o)(ks:∀b o,h1.get? b=some o->b∈fs->∃sl,h2.get? b=some {o with slots:=sl}):Un fs [] H H' h h2 where
 keep:=λb o e n y j=>k b o (u.keep b o e n y j) y λz=>by rw[X b z]at e;cases e
 slot:=λb o e n y j=>by
  obtain⟨sl,c⟩:=u.slot b o e n y j;obtain⟨Y,s⟩:=ks b _ c y;exact⟨Y,s⟩
 free:=u.free
 there:=λb o e j=>by
  obtain⟨m,c⟩:=u.there b o e j;by_cases y:b∈fs
  .obtain⟨sl,s⟩:=ks b m c y;exact⟨_,s⟩
  .exact⟨m,k b m c y λz=>by rw[X b z]at e;cases e⟩
 tups:=u.tups
 frzs:=u.frzs
 tbls:=u.tbls
theorem cA6 (s:HOk P w H h1)(c:∀b∈fs,H b=none)(m:∀b∈B,H b=none)(k:∀b o,h1.get? b=some o->b∉fs->b∉B->h2.get? b=some o):HOk P w H h2:=λa o e=>
 (s a o e).stay (λb u hb q=>by
  have Y:∃y,H b=some y:=by
   rcases hb with rfl | hb
   .exact⟨_,e⟩
   .exact⟨_,hb⟩
  obtain⟨y,j⟩:=Y;refine k b u q (λz=>?_) λz=>?_
  .rw[c b z]at j;cases j
  .rw[m b z]at j;cases j) (λ_ q=>q) λ_ _ q=>q
theorem X4 (x:ObjOk P w H h a o):∃ob,h.get? a=some ob:=by
 cases o with
 | lst xs=>obtain⟨_,_,_,_,e⟩:=x;exact⟨_,e⟩
 | tup xs=>obtain⟨_,_,_,o,e,_⟩:=x;exact⟨_,e⟩
 | dK kvs=>obtain⟨_,_,_,_,o,_,_,e,_⟩:=x;exact⟨_,e⟩
 | dT kvs=>obtain⟨_,_,_,_,o,_,_,e,_⟩:=x;exact⟨_,e⟩
 | set S n=>obtain⟨o,_,_,_,e,_⟩:=x;exact⟨_,e⟩
 | ins C dx fs=>obtain⟨_,_,_,e,_⟩:=x;exact⟨_,e⟩
 | own y=>obtain⟨_,e⟩:=x;exact⟨_,e⟩
 | xd fs=>obtain⟨_,⟨_,_,_,e,_⟩,_⟩:=x;exact⟨_,e⟩
 | rng lo hi=>obtain⟨_,_,_,e⟩:=x;exact⟨_,e⟩
 | frz ob u=>obtain⟨e,_⟩:=x;exact⟨_,e⟩
 | tbl ps=>exact⟨_,show h.get? a=some _ from x⟩
 | met f y=>exact⟨_,show h.get? a=some _ from x⟩
 | ext φ=>obtain⟨_,e,_⟩:=x;exact e
theorem Z6:∀{l:List Env},h.FunFrames base l->(∀b∈frs l,b∈D)->h.FunFrames (PySem.W.hideAll h1 D) l
 | [],_,_=>trivial
 | env::rest,⟨hk,⟨L,o,hf,hn,ho,hd⟩,hr⟩,hD=>by
  have hL:L∈frs (env::rest):=by unfold frs;rw[Ay,hf];exact Af ..
  refine⟨hk,⟨L,o,hf,PySem.W.hideAll_none _ (hD L hL),ho,hd⟩,Z6 hr λb hb=>hD b ?_⟩
  unfold frs at hb ⊢;rw[Ay,hf];exact Ad4 _ hb
end
section
variable {P:Program}{w:World}{M:Model}{A:Around}{E:Dy}{s:Shared}{H0 H:Hp}{h0 base:Heap}{env:Env}{outer:List Env}{L x:Addr}{cls:Value}{Q:Unit->Shared->Prop}
theorem cA2 (J:A.frames=some (env::outer))(hf:env.frame=some L)(hl:s.heap.FunFrames base (env::outer))(F:Fly h0 H x cls s.heap)(R:∀b o,h0.get? b=some o->∃o',s.heap.get? b=some o')(N:HOk P w H s.heap)
  (hQ:∀(h2:Heap) (B:AL),(∀b∈B,h0.get? b=none/\H b=none)->(∀b o,s.heap.get? b=some o->b∉frs (env::outer)->b∉B->h2.get? b=some o)->(∀b o,s.heap.get? b=some o->b∈frs (env::outer)->∃sl,h2.get? b=some {o with slots:=sl})->Fly h0 H x cls h2->Q () {s with heap:=h2}) :
  wpAny M A (leaving env (.ref x)) Q E s:=by
 obtain⟨a0,oe,vs,T,oT,ts,n1,n2,n3,n4,hx,hc,hd,h1,Y,hT,X,h3⟩:=F;have y:∀b∈frs (env::outer),∃o,s.heap.get? b=some o/\∀vs,o.data≠.fields vs:=λb hb=>(hl.mem hb).2
 refine wpAny_leaves_onW (base:=PySem.W.hideAll s.heap (x::T::frs (env::outer))) (cls:=cls) (a0:=a0) J hf ⟨λb o e=>PySem.W.of_hideAll _ e,PySem.W.hideAll_none _ (Af ..),Z6 hl λb hb=>Ad4 _ (Ad4 _ hb),oe,vs,T,oT,ts,hx,hc,hd,h1,PySem.W.hideAll_none _ (Ad4 _ (Af ..)),Y,hT,X,h3⟩ λh2 U D=>?_
 obtain⟨k1,_,_,oe',vs',k,oT',c,e1,e2,e3,e4,m,e6,e7,e8,e9⟩:=U;have ks:∀b o,s.heap.get? b=some o->b∈frs (env::outer)->∃sl,h2.get? b=some {o with slots:=sl}:=λb o e hb=>by
  obtain⟨o',e',j⟩:=y b hb;rw[e]at e';cases e';exact D b o e j
 refine hQ h2 [x,T] (λb hb=>?_) (λb o e hb hB=>k1 b o (PySem.W.hideAll_get _ e ?_)) ks ⟨a0,oe',vs',k,oT',c,n1,?_,n3,?_,e1,e2,e3,e4,e6,e7,e8,e9⟩
 .rcases Aa1.mp hb with rfl | hb
  .exact⟨n1,n3⟩
  .rw[Ad8.mp hb];exact⟨n2,n4⟩
 .intro z;rcases Aa1.mp z with z | z
  .exact hB (z▸Af ..)
  .rcases Aa1.mp z with z | z
   .exact hB (z▸Ad4 _ (Af ..))
   .exact hb z
 all_goals
  by_cases hb:k∈x::T::frs (env::outer)
  .rcases Aa1.mp hb with z | z
   .exact absurd z e6
   .rcases Aa1.mp z with z | z
    .first | exact z▸n2 | exact z▸n4
    .exfalso
     obtain⟨o',e',j⟩:=y k z;obtain⟨sl,q⟩:=ks k o' e' z;rw[e7]at q;have q:=Ab4 q;subst q;exact j c e8
  .first
    | (cases q:h0.get? k with
     | none=>rfl
     | some o=>
      obtain⟨o',q'⟩:=R k o q;rw[PySem.W.hideAll_get _ q' hb]at m;cases m)
    | (cases q:H k with
     | none=>rfl
     | some u=>
      obtain⟨o',q'⟩:=X4 (N k u q);rw[PySem.W.hideAll_get _ q' hb]at m;cases m)
end
section
variable {P:Program}{w:World}{K:Frag}{mg:Str->Option Value}{base:Heap}{N:AH}{qual:Str}{scope:Scope}{f:Addr}{cd:Value}{A:Around}{outer:List Env}{s:Shared}{H:Hp}{E:XK}
theorem cT6 {env:Env}{L:Addr}(h:env.frame=some L):frs (env::outer)=L::frs outer:=by unfold frs;rw[Ay,h]
end
abbrev bmV:AG:=[.type "ValueError",.type "Exception",.type "BaseException",.type "object"]
theorem bK7 {K:Frag}{h:Heap}{C:Addr}{bmB:AG}{newId:String}(X:K.In h)(q:PySem.W.excIn K C bmB newId=true) :
  ∃bm N nm qn bs hdct sn sub ab col dd k0 k1 k2 k3 k5 mN,h.get? C=some (excClassObj nm qn C N bs bm hdct sn sub ab col dd k0 k1 k2 k3 k5 newId)/\h.Ns N mN/\mN "__init__" = none/\OwnTail h bmB bm:=by
 unfold PySem.W.excIn at q;split at q
 .rename_i dd cd sl ho;split at q
  .rename_i C' bm k0 k1 k2 k3 n k5 hm hs;simp only[Bu,beq_iff_eq,Bool.not_eq_true']at q;obtain⟨⟨⟨⟨⟨rfl,rfl⟩,e⟩,c⟩,y⟩,w⟩:=q;obtain⟨nm,bs,s,m,qn,j,sn,sub,ab,col,k⟩:=cd;dsimp only at hm e y w;subst hm e;have z:sl = #[k0,k1,k2,k3,some (.builtin n),k5]:=by
    obtain⟨l⟩:=sl;simp only at hs;rw[hs]
   subst z;exact⟨bm,m,nm,qn,bs,j,sn,sub,ab,col,dd,k0,k1,k2,k3,k5,_,X _ _ ho,.of_isNs (PySem.W.isNs_of_in X y),PySem.W.nsMap_none_of_in X y w,PySem.W.tail_of_in X c⟩
  .cases q
 .cases q
section
variable {prog:Program}{w:World}{A:Around}{E:Dy}{s:Shared}{K:Frag}{x C:Addr}{cd:ClassData}{vs:AJ}{sl:Array (Option Value)}{name:Str}{v:Value}
structure dD4 (K:Frag)(C:Addr)(cd:ClassData):Prop where
 cls:PySem.W.clsIn K C=some cd
 mro:∀self:Value,refuseLoop self "__setattr__" cd.mro=pure ()
 obj:PySem.W.mroIn K C (.type "object")=some true
 dict:cd.hasDict=true
 sa:PySem.W.findIn K (.ref C) "__setattr__" = some (some (.builtin "object.__setattr__"))
theorem cW3 (X:K.In s.heap)(c:dD4 K C cd)(U:s.heap.get? x=some ⟨.ref C,none,.fields vs,sl⟩)(ha:PySem.W.findIn K (.ref C) name=some none)
  (h:∀h',h'.get? x=some ⟨.ref C,some s.heap.objs.size,.fields vs,sl⟩->h'.Ns1 s.heap.objs.size (λy=>if y=name then some v else none)->(∀b o,b≠x->s.heap.get? b=some o->h'.get? b=some o)->Q () {s with heap:=h',toks:=s.toks+2}) :
  wpAny (model prog w) A (setAttr (.ref x) name v) Q E s:=by
 have J:PySem.W.InstAt s.heap x ⟨.ref C,none,.fields vs,sl⟩ C none:=⟨U,rfl,rfl,trivial⟩
 refine PySem.W.set_plain X J c.sa ?_;have ty:PySem.W.Looks (model prog w) s.heap (isInstance (.ref x) (.type "object")) true:=J.type.andThen (PySem.W.looks_mroIn X c.obj);have tw:PySem.W.Looks (model prog w) s.heap (mroOf (.ref C)) cd.mro:=(PySem.W.looks_clsIn X c.cls).andThen .now;have j:=PySem.F.store_object;refine codeAny_call_builtin j.slot.plain j.entry ?_;refine @PySem.W.check_slot _ _ _ {s with toks:=s.toks+1} "object.__setattr__" "object" "__setattr__" (.ref x) [.str name s.toks,v] [] _ j.kind j.split ty (j.args _ _ _) ?_
 rw[PySem.W.osa_eq,refuse_eq];refine Aa (Aa (J.type.here (s:={s with toks:=s.toks+1}) (Aa (tw.here (s:={s with toks:=s.toks+1}) ?_))))
 rw[c.mro];refine Ab (Aa (J.type.here (s:={s with toks:=s.toks+1}) (Aa ((PySem.W.looks_findIn X ha).here (s:={s with toks:=s.toks+1}) (Aa (Ab ?_))))))
 refine Aa (Ab (Aa (Aa (wpAny_loadPart U (Aa ((PySem.W.looks_clsIn X c.cls).here (s:={s with toks:=s.toks+1}) ?_))))))
 rw[c.dict];show wpAny _ _ (alloc {cls:=.type "dict",data:=.dict #[]} >>= λR=>update x (λo=>{o with dict:=some R}) >>= λ_=>dictMade (.ref C) x R) _ _ _
 have xs:x≠s.heap.objs.size:=Ab9 (Ab3 U)
 obtain⟨hp,m⟩:∃hp,hp=s.heap.push {cls:=.type "dict",data:=.dict #[]}:=⟨_,rfl⟩;have D:hp.get? x=some ⟨.ref C,none,.fields vs,sl⟩:=by rw[m];exact Aa6 _ U
 have p2:hp.get? s.heap.objs.size=some {cls:=.type "dict",data:=.dict #[]}:=by rw[m];exact Heap.get?_push_at rfl rfl
 have p3:∀b o,s.heap.get? b=some o->hp.get? b=some o:=λb o e=>by rw[m];exact Aa6 _ e
 refine Aa (wpAny_alloc' ?_);rw[<- m];refine Aa (wpAny_update' D ?_);obtain⟨z,Y⟩:∃z,z=hp.update x (λo=>{o with dict:=some s.heap.objs.size}):=⟨_,rfl⟩
 have u1:z.get? x=some ⟨.ref C,some s.heap.objs.size,.fields vs,sl⟩:=by rw[Y];exact Bw _ D rfl
 have u2:z.get? s.heap.objs.size=some {cls:=.type "dict",data:=.dict #[]}:=by rw[Y];exact(Au _ _ xs).trans p2
 have u3:∀b o,b≠x->s.heap.get? b=some o->z.get? b=some o:=λb o N e=>by rw[Y];exact(Au _ _ (Ne.symm N)).trans (p3 b o e)
 rw[<- Y];refine Ab ?_;have M:z.Ns s.heap.objs.size (λ_=>none):=⟨_,#[],_,u2,rfl,λe he=>absurd he (by simp),λ_=>rfl⟩
 show wpAny _ _ (Builtin.ObjectAttr.storeInDict s.heap.objs.size (.str name s.toks) name v) _ _ _
 unfold Builtin.ObjectAttr.storeInDict Builtin.ObjectAttr.newKeyGuard;refine Aa (Ab (Aa (wpAny_nsSet1 (Heap.Ns1.of_empty M) λhn k B=>?_)))
 obtain⟨oD,es,ep,P,g2,g3⟩:=k.count (PySem.Within.cons name v PySem.Within.nil);refine Aa (wpAny_lookBehind P (by rw[g2];exact pastItsLine_dict (Ax g3 (by simp[Dk]))) ?_)
 exact Ab (h hn ((B.2 x xs).trans u1) k λb o N e=>(B.2 b (Ab9 (Ab3 e))).trans (u3 b o N e))
end
section
variable {prog:Program}{w:World}{A:Around}{E:Dy}{s:Shared}{K:Frag}{x C:Addr}{ox:Obj}{od:Option Obj}{name:Str}{v:Value}{expr:Bool}
structure cP9 (K:Frag)(C:Addr):Prop where
 ga:PySem.W.findIn K (.ref C) "__getattribute__" = some (some (.builtin "BaseException.__getattribute__"))
 gt:PySem.W.findIn K (.ref C) "__getattr__" = some none
 up:PySem.W.mroIn K C (.type "BaseException")=some true
theorem cF4 (X:K.In s.heap)(J:PySem.W.InstAt s.heap x ox C od)(c:cP9 K C)(y:PySem.W.findObj K C od name=some (.value v))(z:PySem.W.handedIn v=true)(h:Q v {s with toks:=s.toks+1}) :
  wpAny (model prog w) A (getAttr (.ref x) name expr) Q E s:=by
 have e:=PySem.F.attr_ValueError.ga
 unfold getAttr getAttrBy;refine Aa (wpAny_mkText (Bz (Aa (J.type.here (s:={s with toks:=s.toks+1}) (Aa ((PySem.W.looks_findIn X c.ga).here (s:={s with toks:=s.toks+1}) ?_))))))
 dsimp only
 rw[show(Value.builtin "BaseException.__getattribute__" == Value.builtin "object.__getattribute__")=false from by decide +kernel,Bool.and_false,Ac Ak]
 unfold getAttrByItsOwn;refine Aa ((PySem.W.looks_hook (mc:=.ref C) X (r:=none) (by rw[show onTheHeap (Value.ref C)=true from rfl];exact c.gt)).here (s:={s with toks:=s.toks+1}) (Aa (wpAny_attempt (Bz ?_))))
 unfold callGetattribute;rw[show(expr&&onTheHeap (Value.builtin "BaseException.__getattribute__"))=false from Bool.and_false _,Ac Ak]
 unfold boundAndCalled;rw[e.bind];refine Aa (Ab ?_);have ty:PySem.W.Looks (model prog w) s.heap (isInstance (.ref x) (.type "BaseException")) true:=J.type.andThen (PySem.W.looks_mroIn X c.up);show wpAny _ _ (call (.builtin "BaseException.__getattribute__") [.ref x,.str name s.toks]) _ _ _;refine wpAny_call (codeAny_call_builtin e.plain PySem.F.entry_bexc_ga ?_);refine @PySem.W.check_slot _ _ _ {s with toks:=s.toks+1} "BaseException.__getattribute__" "BaseException" "__getattribute__" (.ref x) [.str name s.toks] [] _ (by decide +kernel) (by decide +kernel) ty (PySem.F.args_bexc_ga _ _) ?_
 unfold Builtin.«object.__getattribute__»;refine Aa (Ab (Aa (Ab (Aa (J.type.here (s:={s with toks:=s.toks+1}) (Aa ((PySem.W.looks_find X J y).here (s:={s with toks:=s.toks+1}) ?_)))))))
 refine Ab ?_;show wpAny _ _ (handedOut v) _ _ _;exact PySem.W.handed_on z h
end
def dK4 (C T:Addr):Obj:={cls:=.ref C,data:=.fields #[.ref T,.none,.none,.none,.bool false,.none]}
section
variable {prog:Program}{w:World}{A:Around}{E:Dy}{h:Heap}{g:Array GenState}{d:Drawn}{t:Nat}{os:OsState}
variable {nm q:Str}{C N fI:Addr}{bs bm bmB:AG}{hdct:Bool}{sn:AH}{sub:AG}{ab:Bool}{col:Option Bool}{dd:AK}{k0 k1 k2 k3 k5:Option Value}{B Bn newId nid initId inN:String}{bmN:AG}{mN:Str->Option Value}{oI:Obj}{rest:AG}
theorem bG5 (Y:ExcBaseFacts Bn newId inN bmN)(s:bmB.contains (.type Bn)=true)(F:ExcBaseFacts B nid initId bmB)(T:OwnTail h bmB bm)
  (k:h.get? C=some (excClassObj nm q C N bs bm hdct sn sub ab col dd k0 k1 k2 k3 k5 newId)) (hn:h.Ns N mN) (hi:mN "__init__" = some (.ref fI)) (P:h.get? fI=some oI) (U:oI.cls=.type "function") (hl:rest.length<=sizeLine)
  (hq:∀h':Heap,(∀b o,h.get? b=some o->h'.get? b=some o)->h'.get? h.objs.size=some {cls:=.type "tuple",data:=.seq rest.toArray}->h'.get? (h.objs.size+1)=some (dK4 C h.objs.size)->h'.objs.size=h.objs.size+2 ->
   wpAny (model prog w) (A.under (.builtin "type.__call__" ⟨.ref C::rest,[]⟩)) (call (.ref fI) (.ref (h.objs.size+1)::rest)) (λr s'=>r=.none/\Q (.ref (h.objs.size+1)) s') E ⟨h',g,d,t,os⟩) :
  wpAny (model prog w) A (call (.ref C) rest) Q E ⟨h,g,d,t,os⟩:=by
 obtain⟨y,c⟩:∃y,y=(h.push {cls:=.type "tuple",data:=.seq rest.toArray}).push (dK4 C h.objs.size):=⟨_,rfl⟩;have m:∀b o,h.get? b=some o->y.get? b=some o:=λb o e=>by rw[c];exact Aa6 _ (Aa6 _ e)
 have X:y.get? h.objs.size=some {cls:=.type "tuple",data:=.seq rest.toArray}:=by rw[c];exact Aa6 _ (Heap.get?_push_at rfl rfl)
 have j:y.get? (h.objs.size+1)=some (dK4 C h.objs.size):=by rw[c];exact Heap.get?_push_at (By _ _).symm rfl
 have sz:y.objs.size=h.objs.size+2:=by rw[c,By,By]
 have n2:y.Ns N mN:=by obtain⟨o,D,R,e,z⟩:=hn;exact⟨o,D,R,m _ _ e,z⟩
 have J:=m _ _ k
 have M:=T.keeps m
 have own:(Value.ref C::bm).contains (.ref C)=true:=by simp
 have l1:=tc_lookup
 have l2:=tc_bind (.ref C)
 have ty:(⟨h,g,d,t,os⟩:Shared).TypeIs (.ref C) "type" := ⟨_,k,rfl⟩
 refine wpAny_call (codeAny_of_tree ?_);show wpAny _ _ (callAny (.ref C) _) _ _ _
 repeat (any_goals (first | assumption | wp_step | with_reducible refine wpAny_loadPart_at k ?_))
 refine⟨rfl,codeAny_call_builtin_at (Code.quiet_builtin _ (by decide +kernel)) entry_typeCall (wpAny_check_type_call_sub k ?_)⟩
 repeat (first | wp_step | with_reducible refine wpAny_madeBy_exc k ?_ | with_reducible refine wpAny_loadPart_at k ?_)
 refine codeAny_call_builtin_code (Code.quiet_builtin _ Y.quiet) (wpAny_check_new_subU Y s T k (codeAny_exc_new_subU Y s F T k ?_ hl));show wpAny _ _ _ _ _ ⟨(h.push {cls:=.type "tuple",data:=.seq rest.toArray}).push (dK4 C h.objs.size),g,d,t,os⟩;rw[<- c];unfold isInstance
 repeat (first | wp_step | with_reducible refine wpAny_loadPart_at j ?_)
 show wpAny _ _ (isSubtype (.ref C) (.ref C)) _ _ _
 refine wpAny_isSubtype_exc J ?_;rw[own]
 repeat wp_step
 show wpAny _ _ (typeLookup (.ref C) "__init__") _ _ _
 refine wpAny_typeLookup_tail J n2 M F.mroIs F.init.lookup ?_;rw[hi];refine Bz (Aa ?_);unfold bindSpecial;refine Aa (wpAny_typeOf (T := "function") ⟨_,m _ _ P,U⟩ ?_);rw[Ae (by decide)]
 refine Ab (Aa (wpAny_mono (hq y m X j sz) (λr s' z=>?_) λ_ _ z=>z))
 obtain⟨rfl,z⟩:=z
 wp_walk
 exact z
end
section
variable {prog:Program}{w:World}{A:Around}{E:Dy}{h:Heap}{g:Array GenState}{d:Drawn}{t:Nat}{os:OsState}
variable {nm q:Str}{C N:Addr}{bs bm bmB:AG}{hdct:Bool}{sn:AH}{sub:AG}{ab:Bool}{col:Option Bool}{dd:AK}{k0 k1 k2 k3 k5:Option Value}{B newId nid initId:String}{rest:AG}
theorem dB5 (F:ExcBaseFacts B nid initId bmB)(T:OwnTail h bmB bm)
  (k:h.get? C=some (excClassObj nm q C N bs bm hdct sn sub ab col dd k0 k1 k2 k3 k5 newId)) (y:h.get? e=some ⟨.ref C,od,.fields #[.ref t0,v1,v2,v3,v4,v5],sl⟩) (m:rest.length<=sizeLine)
  (c:∀h':Heap,(∀b o,b≠e->h.get? b=some o->h'.get? b=some o)->h'.get? e=some ⟨.ref C,od,.fields #[.ref h.objs.size,v1,v2,v3,v4,v5],sl⟩->h'.get? h.objs.size=some {cls:=.type "tuple",data:=.seq rest.toArray}->h'.objs.size=h.objs.size+1->Q .none ⟨h',g,d,t,os⟩) :
  wpAny (model prog w) A (call (.builtin initId) (.ref e::rest)) Q E ⟨h,g,d,t,os⟩:=by
 refine wpAny_call (codeAny_call_builtin F.init.plain F.initEntry (wpAny_check_init_subU F T k y rfl ?_))
 wp_walk
 have s:e≠h.objs.size:=Ab9 (Ab3 y)
 refine c _ (λb o j z=>?_) ?_ ?_ ?_
 .exact(Au _ _ (Ne.symm j)).trans (Aa6 _ z)
 .exact(Bw _ (Aa6 _ y) rfl).trans rfl
 .exact(Au _ _ s).trans (Heap.get?_push_at rfl rfl)
 .rw[Heap.size_update,By]
end
section
variable {prog:Program}{w:World}{A:Around}{E:Dy}{s:Shared}{K:Frag}{C:Addr}{initId:String}{pl:Sem Bool}
structure dB9 (K:Frag)(C:Addr)(initId:String):Prop where
 sp:PySem.W.specialIn K (.ref C) "__getattribute__" = some (some (.builtin "type.__getattribute__"))
 rd:PySem.W.readsIn K C (.type "type")=true
 fc:PySem.W.findCls K (.ref C) (.type "type") "__init__" = some (.val (.builtin initId))
 hd:PySem.W.handedIn (.builtin initId)=true
theorem cR3 (X:K.In s.heap)(c:dB9 K C initId)(h:Q (.builtin initId,[]) {s with toks:=s.toks+1}):wpAny (model prog w) A (getMethod (.ref C) "__init__" pl) Q E s:=
 PySem.W.method_cls X c.sp (PySem.W.cls_value X c.rd c.fc c.hd h)
end
open Sem (wp)
def Tame {α:Type}:Sem α->Prop
 | .pure _=>True
 | .raise _=>True
 | .unsupported _=>True
 | .finish _=>True
 | .rule _ k=>Tame (k ())
 | .at _ k=>Tame (k ())
 | .load _ _ k=>∀o,Tame (k o)
 | .update _ _ f k=>(∀o:Obj,(f o).dict=o.dict)/\Tame (k ())
 | .alloc _ k=>∀a,Tame (k a)
 | .loadIfAlive _ k=>∀o,Tame (k o)
 | .point _ k=>Tame (k ())
 | .fresh k=>∀t,Tame (k t)
 | .ask k=>∀x,Tame (k x)
 | .handled _ k=>∀x,Tame (k x)
 | .stack k=>∀x,Tame (k x)
 | .thread k=>∀x,Tame (k x)
 | .genState _ k=>∀x,Tame (k x)
 | _=>False
def Kd (h h':Heap):Prop:=∀(b:Nat) (o:Obj),h.objs[b]? = some o->∃o':Obj,h'.objs[b]? = some o'/\o'.dict=o.dict
theorem Kd.rf (h:Heap):Kd h h:=λb o e=>⟨o,e,rfl⟩
theorem Kd.tr {h h1 h2:Heap}(a:Kd h h1)(b:Kd h1 h2):Kd h h2:=λc o e=>by
 obtain⟨j,z,y⟩:=a c o e;obtain⟨s,k,w⟩:=b c j z;exact⟨s,k,w.trans y⟩
theorem cG7 (h:Heap)(o:Obj):Kd h (h.push o):=λb w e=>⟨w,by
 have y:=(Array.getElem?_eq_some_iff.mp e).1
 show(h.objs.push o)[b]? = some w
 rw[Array.getElem?_push_lt y];rw[Ck y]at e;exact e,rfl⟩
theorem bK1 (h:Heap)(a:Addr)(f:Obj->Obj)(y:∀o,(f o).dict=o.dict):Kd h (h.update a f):=λb o e=>by
 by_cases c:b=a
 .subst c;refine⟨f o,?_,y o⟩;show(h.objs.modify b f)[b]? = _;rw[Array.getElem?_modify,Ae rfl,e];rfl
 .refine⟨o,?_,rfl⟩;show(h.objs.modify a f)[b]? = _;rw[Array.getElem?_modify,Ac (λz=>c z.symm),e]
section
variable {α β:Type}{M:Model}{Γ : PySem.Ctx}
theorem dI3:∀(t:Sem α) (Q:α->Pos->Shared->Prop) (E:Value->Pos->Shared->Prop) (p:Pos) (s:Shared),Tame t->wp M Γ t Q E p s->wp M Γ t (λa p' s'=>Q a p' s'/\Kd s.heap s'.heap) (λe p' s'=>E e p' s'/\Kd s.heap s'.heap) p s:=by
 intro t;induction t with
 | pure a=>intro Q E p s _ h;rw[wp]at h ⊢;exact⟨h,Kd.rf _⟩
 | raise e=>intro Q E p s _ h;rw[wp]at h ⊢;exact⟨h,Kd.rf _⟩
 | unsupported w=>intro Q E p s _ h;rw[wp]at h;exact h.elim
 | finish e=>intro Q E p s _ h;rw[wp]at h;exact h.elim
 | rule tag k ih=>intro Q E p s c h;rw[wp]at h ⊢;exact ih () Q E p s c h
 | «at» pos k ih=>intro Q E p s c h;rw[wp]at h ⊢;exact ih () Q E pos s c h
 | load a part k ih=>intro Q E p s c h;rw[wp]at h ⊢;obtain⟨o,e,h⟩:=h;exact⟨o,e,ih o Q E p s (c o) h⟩
 | update a part f k ih=>
  intro Q E p s c h;rw[wp]at h ⊢;refine⟨h.1,Sem.wp_mono M Γ _ (λ_ p' s' z=>⟨z.1,(bK1 s.heap a f c.1).tr z.2⟩) (λ_ p' s' z=>⟨z.1,(bK1 s.heap a f c.1).tr z.2⟩) _ _ (ih () Q E p _ c.2 h.2)⟩
 | alloc o k ih=>
  intro Q E p s c h;rw[wp]at h ⊢;exact Sem.wp_mono M Γ _ (λa p' s' z=>⟨z.1,(cG7 s.heap o).tr z.2⟩) (λe p' s' z=>⟨z.1,(cG7 s.heap o).tr z.2⟩) _ _ (ih _ Q E p _ (c _) h)
 | loadIfAlive a k ih=>intro Q E p s c h;rw[wp]at h ⊢;exact ih _ Q E p s (c _) h
 | point l k ih=>intro Q E p s c h;rw[wp]at h ⊢;exact ih () Q E p s c h
 | register a k ih=>intro Q E p s c h;exact c.elim
 | fresh k ih=>intro Q E p s c h;rw[wp]at h ⊢;exact ih _ Q E p _ (c _) h
 | ask k ih=>intro Q E p s c h;rw[wp]at h ⊢;exact ih _ Q E p s (c _) h
 | choose src n k ih=>intro Q E p s c h;exact c.elim
 | os q l k ih=>intro Q E p s c h;exact c.elim
 | call c' h' g l k ih=>intro Q E p s c h;exact c.elim
 | handled own k ih=>intro Q E p s c h;rw[wp]at h ⊢;exact ih _ Q E p s (c _) h
 | newGen c' k ih=>intro Q E p s c h;exact c.elim
 | genState g k ih=>intro Q E p s c h;rw[wp]at h ⊢;obtain⟨st,e,h⟩:=h;exact⟨st,e,ih _ Q E p s (c _) h⟩
 | resume g r l k ih=>intro Q E p s c h;exact c.elim
 | yield v g l k ih=>intro Q E p s c h;exact c.elim
 | stack k ih=>intro Q E p s c h;rw[wp]at h ⊢;exact ih _ Q E p s (c _) h
 | fork c' k ih=>intro Q E p s c h;exact c.elim
 | thread k ih=>intro Q E p s c h;rw[wp]at h ⊢;exact ih _ Q E p s (c _) h
 | await a tk ti l k ih=>intro Q E p s c h;exact c.elim
theorem aC9 {A:Around}{t:Sem α}{Q:α->Shared->Prop}{E:Dy}{s:Shared}(c:Tame t)(h:wpAny M A t Q E s):wpAny M A t (λa s'=>Q a s'/\Kd s.heap s'.heap) (λe s'=>E e s'/\Kd s.heap s'.heap) s:=λ Γ p y=>dI3 t _ _ p s c (h Γ p y)
theorem Tame.bind (h:Tame t)(c:∀a,Tame (f a)):Tame (t >>= f):=by
 show Tame (t.bind f)
 induction t with
 | pure a=>exact c a
 | raise e=>trivial
 | unsupported w=>trivial
 | finish e=>trivial
 | rule m k y=>exact y () h
 | «at» pos k y=>exact y () h
 | load a z k y=>exact λo=>y o (h o)
 | update a z g k y=>exact⟨h.1,y () h.2⟩
 | alloc o k y=>exact λa=>y a (h a)
 | loadIfAlive a k y=>exact λo=>y o (h o)
 | point l k y=>exact y () h
 | fresh k y=>exact λa=>y a (h a)
 | ask k y=>exact λa=>y a (h a)
 | handled own k y=>exact λa=>y a (h a)
 | stack k y=>exact λa=>y a (h a)
 | thread k y=>exact λa=>y a (h a)
 | genState g k y=>exact λa=>y a (h a)
 | register a k y=>exact h.elim
 | choose s n k y=>exact h.elim
 | os q l k y=>exact h.elim
 | call j Y g l k y=>exact h.elim
 | newGen j k y=>exact h.elim
 | resume g r l k y=>exact h.elim
 | yield v g l k y=>exact h.elim
 | fork j k y=>exact h.elim
 | await a U X l k y=>exact h.elim
end
end L2
namespace L2
open PySem PySem.Spec PyProof.Rows
theorem bE3 (v:Value):Tame (fieldsOf v):=by
 unfold fieldsOf;split
 .refine Tame.bind (λo=>trivial) λo=>?_
  split <;> trivial
 .trivial
theorem aB1 (v:Value)(i:Nat):Tame (field v i):=by
 unfold field;refine Tame.bind (bE3 v) λvs=>?_
 split <;> trivial
theorem m6 (v:Value)(i:Nat)(x:Value):Tame (setField v i x):=by
 unfold setField;split
 .unfold updateField;refine Tame.bind (λo=>trivial) λo=>?_
  split
  .split
   .exact⟨λo=>by unfold Obj.mapFields;split <;> rfl,trivial⟩
   .trivial
  .trivial
 .trivial
theorem Z8 (e:Value)(f:AK):Tame (setFlight e f):=by
 unfold setFlight;refine Tame.bind (aB1 e 1) λy=>?_
 split
 .exact m6 _ _ _
 .trivial
theorem bA9 (ty:String)(vs:AG):Tame (newFields ty vs):=by
 have h:Tame (newObjAsIs (.type ty) (.fields vs.toArray)):=by
  unfold newObjAsIs;exact Tame.bind (λa=>trivial) λa=>trivial
 unfold newFields newObj;dsimp only;split
 .exact Tame.bind trivial λ_=>h
 .exact h
theorem bF5 (a b c d e:Value)(p:AG):Tame (EntryCells.newEntry a b c d e p):=bA9 _ _
theorem aJ8:Tame stack:=λ_=>trivial
theorem cC3 (f:Addr)(b:Bool):Tame (entryPlaceOf f b):=by
 unfold entryPlaceOf;refine Tame.bind aJ8 λe=>?_
 split <;> trivial
theorem aY7:Tame frameEnvs:=by
 unfold frameEnvs;exact Tame.bind aJ8 λ_=>trivial
theorem bF1 (env:Env)(b:Bool)(l:List Env):Tame (keptBack env b l):=by
 unfold keptBack;split
 .split
  .trivial
  .unfold underTheClaimsCaller;exact Tame.bind (Tame.bind aJ8 λ_=>trivial) λ_=>trivial
 .trivial
theorem bW5 (env:Env)(l:List Env):Tame (behindIsImport env l):=by
 unfold behindIsImport;split
 .trivial
 .split
  .trivial
  .exact Tame.bind (aB1 _ _) λ_=>trivial
theorem bB3:∀l:List Env,Tame (readyFrames l)
 | []=>trivial
 | env::outer=>by
  unfold readyFrames;split
  .refine Tame.bind (λo=>trivial) λo=>?_
   split
   .trivial
   .exact Tame.bind (bW5 env outer) λi=>Tame.bind (bF1 env i outer) λb=>Tame.bind ⟨λo=>rfl,trivial⟩ λ_=>bB3 outer
  .trivial
theorem aS1 (l:List Env):Tame (frameObject l):=by
 unfold frameObject;split
 .trivial
 .exact Tame.bind (bB3 _) λ_=>trivial
theorem bM4 (env:Env):Tame (PySem.frameOf env):=by
 unfold PySem.frameOf;refine Tame.bind aY7 λl=>Tame.bind (aS1 _) λo=>?_
 split <;> trivial
theorem bH7 (env:Env)(e:Value):Tame (noteFrame e env):=by
 unfold noteFrame;split
 .refine Tame.bind (aB1 e 1) λy=>?_
  have w:∀f:Addr,Tame (do setField e 1 (<- EntryCells.newEntry y (<- PySem.frameOf env) .none (rawInt f) .none (<- entryPlaceOf f (y != .none)))):=λf=>Tame.bind (bM4 env) λa=>Tame.bind (cC3 f _) λp=>Tame.bind (bF5 _ _ _ _ _ _) λb=>m6 _ _ _
  dsimp only
  split
  .refine Tame.bind (aB1 y 3) λz=>?_
   split
   .trivial
   .exact Tame.bind (m6 _ _ _) λ_=>w _
  .exact w _
 .trivial
theorem aO3 (env:Env)(e:Value):Tame (leaving env e):=Tame.bind (bH7 env e) λ_=>Z8 e none
structure Mv (fs B:AL)(h h':Heap):Prop where
 k:∀b o,h.get? b=some o->b∉fs->b∉B->h'.get? b=some o
 s:∀b o,h.get? b=some o->b∈fs->∃sl,h'.get? b=some {o with slots:=sl}
section
variable {P:Program}{w:World}{H:Hp}{h h0 h2 base:Heap}{l:List Env}{x T:Addr}{cls a0:Value}
theorem bX5 (hl:h.FunFrames base l)(X:∀b o,h0.get? b=some o->∃o',h.get? b=some o')(Y:HOk P w H h)(n1:h0.get? x=none)(n2:h0.get? T=none)(n3:H x=none)(n4:H T=none)
  (k1:(PySem.W.hideAll h (x::T::frs l)).StaysIn h2) (tr:h2.TracedW (PySem.W.hideAll h (x::T::frs l)) x cls a0) (U:h.UpToSlots h2):Mv (frs l) [x,T] h h2/\Fly h0 H x cls h2:=by
 obtain⟨M,R,j,J,s,e1,e2,e3,e4,m,Q,D,F,e9⟩:=tr;have y:∀b∈frs l,∃o,h.get? b=some o/\∀vs,o.data≠.fields vs:=λb k=>(hl.mem k).2
 have ks:∀b o,h.get? b=some o->b∈frs l->∃sl,h2.get? b=some {o with slots:=sl}:=λb o e k=>by
  obtain⟨o',e',c⟩:=y b k;rw[e]at e';cases e';exact U b o e c
 refine⟨⟨λb o e k B=>k1 b o (PySem.W.hideAll_get _ e ?_),ks⟩,a0,M,R,j,J,s,n1,?_,n3,?_,e1,e2,e3,e4,Q,D,F,e9⟩
 .intro z;rcases Aa1.mp z with z | z
  .exact B (z▸Af ..)
  .rcases Aa1.mp z with z | z
   .exact B (z▸Ad4 _ (Af ..))
   .exact k z
 all_goals
  by_cases k:j∈x::T::frs l
  .rcases Aa1.mp k with z | z
   .exact absurd z Q
   .rcases Aa1.mp z with z | z
    .first | exact z▸n2 | exact z▸n4
    .exfalso
     obtain⟨o',e',c⟩:=y j z;obtain⟨sl,q⟩:=ks j o' e' z;rw[D]at q;have q:=Ab4 q;subst q;exact c s F
  .first
    | (cases q:h0.get? j with
     | none=>rfl
     | some o=>
      obtain⟨o',N⟩:=X j o q;rw[PySem.W.hideAll_get _ N k]at m;cases m)
    | (cases q:H j with
     | none=>rfl
     | some u=>
      obtain⟨o',N⟩:=X4 (Y j u q);rw[PySem.W.hideAll_get _ N k]at m;cases m)
end
section
variable {P:Program}{w:World}{M:Model}{A A':Around}{E E':Dy}{s:Shared}{H:Hp}{h0 base:Heap}{env:Env}{outer:List Env}{L x:Addr}{cls:Value}{Q:Unit->Shared->Prop}
theorem cQ5 (m:A.frames=some (env::outer))(hf:env.frame=some L)(U:s.heap.FunFrames base (env::outer))(F:Fly h0 H x cls s.heap)(X:∀b o,h0.get? b=some o->∃o',s.heap.get? b=some o')(Y:HOk P w H s.heap)
  (hQ:∀(h2:Heap) (B:AL),(∀b∈B,h0.get? b=none/\H b=none)->Mv (frs (env::outer)) B s.heap h2->Fly h0 H x cls h2->Q () {s with heap:=h2}) :
  wpAny M A (noteFrame (.ref x) env) (λ_ s2=>wpAny M A (setFlight (.ref x) none) Q E s2) E s:=by
 obtain⟨a0,oe,vs,T,oT,ts,J,N,R,D,hx,hc,hd,h1,j,hT,c,h3⟩:=F;refine wpAny_looks_onW (base:=PySem.W.hideAll s.heap (x::T::frs (env::outer))) (cls:=cls) (a0:=a0) m hf ⟨λb o e=>PySem.W.of_hideAll _ e,PySem.W.hideAll_none _ (Af ..),Z6 U λb hb=>Ad4 _ (Ad4 _ hb),oe,vs,T,oT,ts,hx,hc,hd,h1,PySem.W.hideAll_none _ (Ad4 _ (Af ..)),j,hT,c,h3⟩ λh4 hh z=>?_
 refine wpAny_landsW hh λh5 y k=>?_
 obtain⟨mv,F2⟩:=bX5 (P:=P) (w:=w) U X Y J N R D y.1 y.2.2.2 (z.trans k);refine hQ h5 [x,T] (λb hb=>?_) mv F2
 rcases Aa1.mp hb with rfl | hb
 .exact⟨J,R⟩
 .rw[Ad8.mp hb];exact⟨N,D⟩
theorem cP6 (Y:s.heap.FunFrames base (env::outer))(F:Fly h0 H x cls s.heap)(c:∀b o,h0.get? b=some o->∃o',s.heap.get? b=some o')(j:HOk P w H s.heap)
  (hQ:∀(h2:Heap) (B:AL),(∀b∈B,h0.get? b=none/\H b=none)->Mv (frs (env::outer)) B s.heap h2->Fly h0 H x cls h2->Q () {s with heap:=h2}) :
  wpAny M A (setFlight (.ref x) none) Q E s:=by
 obtain⟨a0,oe,vs,T,oT,ts,X,U,J,N,hx,hc,hd,h1,z,hT,k,D⟩:=F;refine lands_againW (base:=PySem.W.hideAll s.heap (x::T::frs (env::outer))) (l:=env::outer) (cls:=cls) (a0:=a0) ⟨λb o e=>PySem.W.of_hideAll _ e,PySem.W.hideAll_none _ (Af ..),Z6 Y λb hb=>Ad4 _ (Ad4 _ hb),oe,vs,T,oT,ts,hx,hc,hd,h1,PySem.W.hideAll_none _ (Ad4 _ (Af ..)),z,hT,k,D⟩ λh5 y m=>?_
 obtain⟨mv,R⟩:=bX5 (P:=P) (w:=w) Y c j X U J N y.1 y.2.2.2 m;refine hQ h5 [x,T] (λb hb=>?_) mv R
 rcases Aa1.mp hb with rfl | hb
 .exact⟨X,J⟩
 .rw[Ad8.mp hb];exact⟨U,N⟩
end
def Dx (h:Heap)(x:Addr)(d:AK):Prop:=∃o,h.get? x=some o/\o.dict=d
theorem cL4 {h:Heap}{x:Addr}{o:Obj}(e:h.get? x=some o):h.objs[x]? = some o:=by
 unfold Heap.get? at e;split at e
 .cases e
 .exact e
theorem Dx.keep {h h':Heap}{x:Addr}{d:AK}(D:Dx h x d)(k:Kd h h')(t:∃o,h'.get? x=some o):Dx h' x d:=by
 obtain⟨o,e,rfl⟩:=D;obtain⟨z,e'⟩:=t;obtain⟨j,y,w⟩:=k x o (cL4 e);rw[cL4 e']at y;cases y;exact⟨z,e',w⟩
theorem Fly.there {h0 h:Heap}{H:Hp}{x:Addr}{cls:Value}(F:Fly h0 H x cls h):∃o,h.get? x=some o:=by
 obtain⟨w,y,vs,T,s,ts,z,k,j,c,e,_⟩:=F;exact⟨y,e⟩
section
variable {P:Program}{w:World}{M:Model}{A:Around}{E:Dy}{s:Shared}{H:Hp}{h0 base:Heap}{env:Env}{outer:List Env}{L x:Addr}{cls:Value}{d:AK}{Q:Unit->Shared->Prop}
theorem bY4 (y:A.frames=some (env::outer))(U:env.frame=some L)(J:s.heap.FunFrames base (env::outer))(F:Fly h0 H x cls s.heap)(D:Dx s.heap x d)(m:∀b o,h0.get? b=some o->∃o',s.heap.get? b=some o')(j:HOk P w H s.heap)
  (X:∀(h2:Heap) (B:AL),(∀b∈B,h0.get? b=none/\H b=none)->(∀b o,s.heap.get? b=some o->b∉frs (env::outer)->b∉B->h2.get? b=some o)->(∀b o,s.heap.get? b=some o->b∈frs (env::outer)->∃sl,h2.get? b=some {o with slots:=sl})->Fly h0 H x cls h2->Dx h2 x d->Q () {s with heap:=h2}) :
  wpAny M A (leaving env (.ref x)) Q E s:=by
 have f:=cA2 (M:=M) (E:=E) (P:=P) (w:=w) (Q:=λ_ Y=>∃h2 B,Y={s with heap:=h2}/\(∀b∈B,h0.get? b=none/\H b=none)/\(∀b o,s.heap.get? b=some o->b∉frs (env::outer)->b∉B->h2.get? b=some o)/\(∀b o,s.heap.get? b=some o->b∈frs (env::outer)->∃sl,h2.get? b=some {o with slots:=sl})/\Fly h0 H x cls h2) y U J F m j λh2 B a b c e=>⟨h2,B,rfl,a,b,c,e⟩
 refine wpAny_mono (aC9 (aO3 env (.ref x)) f) (λ_ Y z=>?_) λ_ _ z=>z.1
 obtain⟨⟨h2,B,rfl,a,b,c,e⟩,k⟩:=z;exact X h2 B a b c e (D.keep k e.there)
theorem cD9 (Y:s.heap.FunFrames base (env::outer))(F:Fly h0 H x cls s.heap)(D:Dx s.heap x d)(y:∀b o,h0.get? b=some o->∃o',s.heap.get? b=some o')(e:HOk P w H s.heap)
  (m:∀(h2:Heap) (B:AL),(∀b∈B,h0.get? b=none/\H b=none)->Mv (frs (env::outer)) B s.heap h2->Fly h0 H x cls h2->Dx h2 x d->Q () {s with heap:=h2}) :
  wpAny M A (setFlight (.ref x) none) Q E s:=by
 have f:=cP6 (M:=M) (E:=E) (A:=A) (P:=P) (w:=w) (Q:=λ_ j=>∃h2 B,j={s with heap:=h2}/\(∀b∈B,h0.get? b=none/\H b=none)/\Mv (frs (env::outer)) B s.heap h2/\Fly h0 H x cls h2) Y F y e λh2 B a b c=>⟨h2,B,rfl,a,b,c⟩
 refine wpAny_mono (aC9 (Z8 (.ref x) none) f) (λ_ j z=>?_) λ_ _ z=>z.1
 obtain⟨⟨h2,B,rfl,a,b,c⟩,k⟩:=z;exact m h2 B a b c (D.keep k c.there)
theorem cA3 (e:A.frames=some (env::outer))(U:env.frame=some L)(J:s.heap.FunFrames base (env::outer))(F:Fly h0 H x cls s.heap)(D:Dx s.heap x d)(m:∀b o,h0.get? b=some o->∃o',s.heap.get? b=some o')(j:HOk P w H s.heap)
  (X:∀(h2:Heap) (B:AL),(∀b∈B,h0.get? b=none/\H b=none)->Mv (frs (env::outer)) B s.heap h2->Fly h0 H x cls h2->Dx h2 x d->Q () {s with heap:=h2}) :
  wpAny M A (noteFrame (.ref x) env) (λ_ s2=>wpAny M A (setFlight (.ref x) none) Q E s2) E s:=by
 have f:=cQ5 (M:=M) (E:=E) (P:=P) (w:=w) (Q:=λ_ Y=>∃h2 B,Y={s with heap:=h2}/\(∀b∈B,h0.get? b=none/\H b=none)/\Mv (frs (env::outer)) B s.heap h2/\Fly h0 H x cls h2) e U J F m j λh2 B a b c=>⟨h2,B,rfl,a,b,c⟩
 refine wpAny_mono (aC9 (bH7 env (.ref x)) f) (λ_ s2 z=>?_) λ_ _ z=>z.1
 refine wpAny_mono (aC9 (Z8 (.ref x) none) z.1) (λ_ Y y=>?_) λ_ _ y=>y.1
 obtain⟨⟨h2,B,rfl,a,b,c⟩,k⟩:=y;exact X h2 B a b c (D.keep (z.2.tr k) c.there)
end
def CXd (P:Program)(w:World):CXT:=λouter H s E e s'=>
 ∃x cls H' d,e=.ref x/\s'.os=s.os/\AllBare s'.gens/\Un (frs outer) [] H H' s.heap s'.heap/\HOk P w H' s'.heap/\Fly s.heap H' x cls s'.heap/\Dx s'.heap x d/\E cls d H'
section
variable {P:Program}{w:World}{K:Frag}{mg:Str->Option Value}{base:Heap}{N:AH}{qual:Str}{scope:Scope}{f:Addr}{cd:Value}{A:Around}{outer:List Env}{s:Shared}{H:Hp}{E:XK}
theorem dE8 {aA:Dz}{σ:St}{H1:Hp}{s1:Shared}{h2:Heap}{g:Array GenState}{dr:Drawn}{tk:Nat}{B:AL}{x:Addr}{cls:Value}(I:Inv (aV4 (CXd P w) P w K mg base N qual scope f cd A outer s H E) aA σ H1 s1)(j:∀b∈B,s.heap.get? b=none/\H1 b=none)
  (k:∀b o,s1.heap.get? b=some o->b∉frs (envOfC qual scope s.heap.objs.size f cd::outer)->b∉B->h2.get? b=some o) (ks:∀b o,s1.heap.get? b=some o->b∈frs (envOfC qual scope s.heap.objs.size f cd::outer)->∃sl,h2.get? b=some {o with slots:=sl})
  (F:Fly s.heap H1 x cls h2) {dx:AK} (D:Dx h2 x dx) (q:E cls dx H1) (Y:AllBare g):CXd P w outer H s E (.ref x) {s1 with heap:=h2,gens:=g,drawn:=dr,toks:=tk}:=by
 have y:frs (envOfC qual scope s.heap.objs.size f cd::outer)=s.heap.objs.size::frs outer:=cT6 rfl
 have c:s.heap.get? s.heap.objs.size=none:=Heap.get?_none_of_le (Aa7 _)
 have m:Un (frs outer) [] H H1 s.heap s1.heap:=I.base
 rw[y]at k ks;refine⟨x,cls,H1,dx,rfl,I.os,Y,cV6 (B:=s.heap.objs.size::B) m (λb hm=>?_) (λb o e h1 h2=>?_) (λb o e h1=>ks b o e (Ad4 _ h1)),cA6 (fs:=s.heap.objs.size::frs outer) (B:=B) I.hok (λb hm=>?_) (λb hm=>(j b hm).2) k,F,D,q⟩
 .rcases Aa1.mp hm with rfl | hm
  .exact c
  .exact(j b hm).1
 .refine k b o e (λz=>?_) λz=>h2 (Ad4 _ z)
  rcases Aa1.mp z with rfl | z
  .exact h2 (Af ..)
  .exact h1 z
 .exact I.stkFree b (by show b∈frs (envOfC qual scope s.heap.objs.size f cd::outer);rw[y];exact hm)
theorem eD6:n5 (CXd P w) (aV4 (CXd P w) P w K mg base N qual scope f cd A outer s H E) E:=by
 intro aA σ H1 s1 e s' I hc;obtain⟨x,X,R,dx,rfl,os,y,un,j,F,D,q⟩:=hc;obtain⟨m,g,d,t,M⟩:=s';obtain rfl:M=s1.os:=os;have J:=I.call (h':=m) (g':=g) (d':=d) (t':=t) (ch:=[]) un j y (λb z=>absurd z (by simp))
 have U:∀b o,s.heap.get? b=some o->∃Y,s1.heap.get? b=some Y:=λb o e=>I.base.there b o e (by exact λz=>absurd (show b∈([]:AL) from z) (by simp))
 have c:∀b o,s.heap.get? b=some o->∃Y,m.get? b=some Y:=λb o e=>J.base.there b o e (by exact λz=>absurd (show b∈([]:AL) from z) (by simp))
 have no:∀b,s1.heap.get? b=none->s.heap.get? b=none:=λb e=>by
  cases q:s.heap.get? b with
  | none=>rfl
  | some o=>obtain⟨Y,Q⟩:=U b o q;rw[e]at Q;cases Q
 have F':Fly s.heap R x X m:=by
  obtain⟨a0,oe,vs,T,oT,ts,n1,n2,r⟩:=F;exact⟨a0,oe,vs,T,oT,ts,no _ n1,no _ n2,r⟩
 exact bY4 (P:=P) (w:=w) (H:=R) (h0:=s.heap) (base:=base) J.ok.frames rfl J.stack F' D c j λh2 B hB k ks F2 D2=>dE8 (s1:=⟨m,g,d,t,s1.os⟩) J hB k ks F2 D2 q y
theorem Fun.okD {x qual:Str}{st:Stmt}{f:Addr}{fd:FuncData}{N ps:AH}{k:Nat}{sp:Sp}(F:Fun K x qual st f fd)(S:C3 N ps (B1 st))(len:∀vs H Q E,sp vs H Q E->vs.length=ps.length)
  (e:∀(cdv:Value) (A:Around) (outer:List Env) (s:Shared) (H:Hp) (vs:List V) (Q:VK) (E:XK),Room k (A.deeper (envOfC qual (B1 st) s.heap.objs.size f cdv))->sp vs H Q E ->
   ∃t,PSs (aV4 (CXd P w) P w K mg base N qual (B1 st) f cdv A outer s H E) (T4 st) t/\t {nx:=λ_ H'=>Q .non H',rt:=Q} (S5 N vs) H):J0 P w K mg base (CXd P w) (k+1) f fd ps sp:=by
 obtain⟨U,J,kV,j,M,an,cdv,X,Y,rfl,m,y⟩:=F.ex;exact dQ7 m y S len λA outer s H vs Q E c z=>e cdv A outer s H vs Q E c z
end
abbrev Cx.markd (X:Cx)(e:Value):Cx:={X with A:=X.A.mark (some e),calm:=false,xe:=λ_ _=>False}
theorem Inv.markd {X:Cx}{aA:Dz}{σ:St}{H:Hp}{s:Shared}(I:Inv X aA σ H s)(e:Value):Inv (X.markd e) aA σ H s:=
 ⟨⟨I.ok.mod,I.ok.kind,I.ok.glob,I.ok.blt,I.ok.above,I.ok.inj,I.ok.has,I.ok.cab,(λz=>nomatch z),I.ok.frames,I.ok.stk,I.ok.exf,I.ok.bs,I.ok.bsz,I.ok.noex,I.ok.exfs,I.ok.funs,I.ok.frf⟩,I.os,I.bare,I.base,I.loc,I.cell,I.free,I.freeC,I.pin,I.hok,I.len⟩
theorem Inv.unmark {X:Cx}{aA:Dz}{σ:St}{H:Hp}{s:Shared}{e:Value}(ok:X.Ok)(I:Inv (X.markd e) aA σ H s):Inv X aA σ H s:=
 ⟨ok,I.os,I.bare,I.base,I.loc,I.cell,I.free,I.freeC,I.pin,I.hok,I.len⟩
def aR1 (sp:Sp)(dvs:List V)(t:TA)(EX:XK):TE:=λσ H Q=>t σ H λvs H1=>sp (vs++dvs) H1 Q EX
section
variable {X:Cx}{aA:Dz}{σ:St}{H:Hp}{s:Shared}{h':Heap}
theorem Inv.unbind (I:Inv X aA σ H s)(hN:X.N.Nodup)(hj:X.N[j]? = some y)(hn:s.heap.Ns X.env.locals m)(hl:∀(i:Nat) (x:Str) (v:V),X.N[i]? = some x->σ[i]? = some (some v)->Vis X.env.scope x->∃u,RelV v u/\eH7 X.env s.heap m x u)
  (B:h'.Ns X.env.locals λx=>if x=y then v else m x) (J:Heap.SameBut X.env.locals s.heap h'):Inv X aA (σ.set j none) H {s with heap:=h',toks:=t'}:=by
 have cne:=I.cne
 obtain⟨oL,_,_,hoL,_⟩:=id hn;have Y:HOk X.prog X.w H h':=λb ob e=>by
  refine(I.hok b ob e).stay (λc w' hc q=>(J.2 c ?_).trans q) (λ_ q=>q) λ_ _ q=>q
  rintro rfl;rcases hc with rfl | hc
  .rw[I.free]at e;cases e
  .rw[I.free]at hc;cases hc
 refine⟨I.ok,I.os,I.bare,⟨λb o e n D Q=>?_,λb o e n D Q=>?_,I.base.free,λb o e Q=>?_,I.base.tups,I.base.frzs,I.base.tbls⟩,⟨_,B,λi x v' U M e3=>?_⟩,λy c e=>?_,I.free,I.freeC,λp hp=>?_,Y,by simpa using I.len⟩
 .exact(J.2 b (Ab9 (Ab8 (Ab3 e) I.ok.above))).trans (I.base.keep b o e n D Q)
 .obtain⟨sl,U⟩:=I.base.slot b o e n D Q;exact⟨sl,(J.2 b (Ab9 (Ab8 (Ab3 e) I.ok.above))).trans U⟩
 .obtain⟨o',U⟩:=I.base.there b o e Q;exact⟨o',(J.2 b (Ab9 (Ab8 (Ab3 e) I.ok.above))).trans U⟩
 .have R:i≠j:=λz=>by
   subst z;by_cases hi:i<σ.length
   .rw[As hi]at M;cases M
   .rw[Ad6 (by simpa using hi)]at M;cases M
  rw[Ad0 (Ne.symm R)]at M;obtain⟨u',r',q⟩:=hl i x v' U M e3;refine⟨u',r',?_⟩;rcases q with⟨k,e⟩ | ⟨k,c,e,z⟩
  .refine .inl ⟨k,?_⟩
   have:x≠y:=λz=>R (by
    subst z;exact(List.getElem?_inj (Ab0.mp U).1 hN).mp (U.trans hj.symm))
   show(if x=y then v else m x)=some u'
   rw[Ac this];exact e
  .refine .inr ⟨k,c,e,?_⟩;obtain⟨o,ho,F⟩:=z;exact⟨o,(J.2 c (cne x c e)).trans ho,F⟩
 .obtain⟨v,o,ho,F⟩:=I.cell y c e;exact⟨v,o,(J.2 c (cne y c e)).trans ho,F⟩
 .obtain⟨q1,q2,P,q4⟩:=I.pin p hp;exact⟨(J.2 p.1 P).trans q1,q2,P,q4⟩
end
def subIn (K:Frag)(C:Addr)(v:Value):Bool:=match K.lookup C with
 | some ⟨_,_,.cls cd,_⟩=>cd.mro.contains v
 | _=>false
section
variable {M:Model}{A:Around}{E:Dy}
variable {nm q nm' q':Str}{C N T N':Addr}{bs bm bs' bm':AG}{hdct hdct':Bool}{sn sn':AH}{sub sub':AG}{ab ab':Bool}{col col':Option Bool}{dd dd':AK}{k0 k1 k2 k3 k5 j0 j1 j2 j3 j5:Option Value}{newId newId':String}
theorem aV9 {h:Heap}{g:Array GenState}{d:Drawn}{t:Nat}{os:OsState}{e:Addr}{oe:Obj}{Q:Bool->Shared->Prop}
  (c:h.get? C=some (excClassObj nm q C N bs bm hdct sn sub ab col dd k0 k1 k2 k3 k5 newId)) (j:h.get? T=some (excClassObj nm' q' T N' bs' bm' hdct' sn' sub' ab' col' dd' j0 j1 j2 j3 j5 newId')) (s:h.get? e=some oe) (w:oe.cls=.ref C) (y:bm'.contains (.type "BaseException")=true)
  (k:(Value.ref C::bm).contains (.ref T)=true) (m:Q true ⟨h,g,d,t,os⟩):wpAny M A (excMatches (.ref e) (.ref T)) Q E ⟨h,g,d,t,os⟩:=by
 have z:(Value.ref T::bm').contains (.type "BaseException")=true:=by rw[List.contains_cons,y,Bool.or_true]
 have f:=tc_notTuple
 unfold excMatches
 repeat (first | (with_reducible refine wpAny_loadPart_at s ?_;rw[w]) | with_reducible refine wpAny_loadPart_at j ?_ | (with_reducible refine wpAny_isSubtype_exc j ?_;rw[z]) | (with_reducible refine wpAny_isSubtype_exc c ?_;rw[k]) | wp_step)
 exact m
end
theorem cN4 {K:Frag}{h:Heap}{C:Addr}{v:Value}{bm:AG}{nm qn:Str}{N:Addr}{bs:AG}{hdct:Bool}{sn:AH}{sub:AG}{ab:Bool}{col:Option Bool}{dd:AK}{k0 k1 k2 k3 k5:Option Value}{newId:String}(X:K.In h)(e:h.get? C=some (excClassObj nm qn C N bs bm hdct sn sub ab col dd k0 k1 k2 k3 k5 newId))(q:subIn K C v=true):(Value.ref C::bm).contains v=true:=by
 unfold subIn at q;split at q
 .rename_i ho
  have:=X _ _ ho
  rw[e]at this;cases this;exact q
 .cases q
theorem dN5 {P:Program}{w:World}{H:Hp}{h:Heap}{x C:Addr}{d:AK}{o:Obj}{vs:AJ}(e:h.get? x=some o)(m:o.cls=.ref C)(Y:o.data=.fields vs)(X:o.dict=d):ObjOk P w H h x (excD x C d):=
 ⟨⟨o,vs,e,m,Y,X⟩,⟨o,e⟩,λh1 J ⟨U,y,z,j,c,s⟩ k=>⟨U,y,k _ z,j,c,s⟩⟩
def bO5 (K:Frag)(C:Addr):Prop:=∀h:Heap,K.In h->∃bm N nm qn bs hdct sn sub ab col dd k0 k1 k2 k3 k5,h.get? C=some (excClassObj nm qn C N bs bm hdct sn sub ab col dd k0 k1 k2 k3 k5 "ValueError.__new__")/\OwnTail h bmV bm
def cQ9 (X:Cx)(aA:Dz)(σ:St)(EX:XK)(e:Value)(s':Shared):Prop:=∃s0 H0,Inv X aA σ H0 s0/\CXd X.prog X.w X.stack H0 s0 EX e s'
structure PBd (X:Cx)(body:List Stmt)(t:XK->TS):Prop where
 run:∀(aA:Dz) (s:Shared) (σ:St) (H:Hp) (D:aZ5) (EX:XK),Inv X aA σ H s->t EX D σ H->wpAny (model X.prog X.w) X.A (execs body X.env) (SP X aA D) (cQ9 X aA σ EX) s
section
variable {X:Cx}{k:Nat}{f:Addr}{fd:FuncData}{ps:AH}{sp:Sp}{dvs:List V}{ds:AG}{x:Str}{p pos:Pos}{e:Expr}{es:AM}{t:TA}
theorem cM7 (F:J0 X.prog X.w X.K X.mg X.base (CXd X.prog X.w) k f fd ps sp)(hr:Room k X.A)(P:Gl X x)(hm:X.mg x=some (.ref f))(hk:PySem.W.keepIn X.K (.ref f)=true)(R:Binds X.K fd ps ds)(D:Vals dvs ds)
  (N:PA X.nox (e::es) t) (m:(x==("__debug__" : Str))=false:=by decide) (B:starEach (e::es) X.env=(false,eval e X.env)::starEach es X.env:=by rfl) (Y:(backTo pos (starEach es X.env)).any (·.1)=false:=by rfl)
 (I:Inv X aA σ H s) (h:aR1 sp dvs t EX σ H Q):wpAny (model X.prog X.w) X.A (eval (.Call (.Name x p) (e::es) [] pos) X.env) (EP X aA σ Q) (cQ9 X aA σ EX) s:=by
 refine wpAny_Call_Name_kw (j7 I P hm ?_ m);refine PySem.W.callWith_K (h₀:=X.base) I.ok.mod.kin hk (wpAny_mono (N pos aA s σ H _ (I.wish _) h) (λc U ⟨vs,J,y,r,q⟩=>⟨y.kIn,?_⟩) λ_ _ z=>False.elim z) B Y
 have y:=y.unwish
 have M:Vals (vs++dvs) (c++ds):=r.append D
 have hl:(c++ds).length=ps.length:=by rw[<- M.length];exact F.len _ _ _ _ q
 refine wpAny_call (codeAny_mono (F.run X.A X.stack U J ⟨c,[]⟩ (c++ds) (vs++dvs) Q EX hr y.env0 (R U c y.kIn hl) M q) λr s' j=>?_)
 cases r with
 | error e=>exact⟨U,J,y,j⟩
 | ok fl=>
  cases fl with
  | ret u=>exact y.after j
  | next=>exact False.elim j
  | brk=>exact False.elim j
  | cont=>exact False.elim j
theorem dJ7 (M:X.N.Nodup)(hi:X.N[i]? = some y)(hy:Loc X.env.scope y)(F:J0 X.prog X.w X.K X.mg X.base (CXd X.prog X.w) k f fd ps sp)(hr:Room k X.A)(hg:Gl X x)(hm:X.mg x=some (.ref f))(hk:PySem.W.keepIn X.K (.ref f)=true)(B:Binds X.K fd ps ds)(P:Vals dvs ds)
  (R:PA X.nox (e::es) t) (j:(x==("__debug__" : Str))=false:=by decide) (he:starEach (e::es) X.env=(false,eval e X.env)::starEach es X.env:=by rfl) (c:(backTo pos (starEach es X.env)).any (·.1)=false:=by rfl)
  (hs:swapsWith (.Call (.Name x p) (e::es) [] pos) (some (.Name y pos')) apos.line X.env=pure false:=by rfl) (hf:X.fn y=true\/X.env.scope.names.lookup y=some .local:=by first | exact .inl rfl | exact .inr rfl | assumption) :
  PBd X [.Assign [.Name y pos'] (.Call (.Name x p) (e::es) [] pos) apos] λEX=>aK1 (aR1 sp dvs t EX) (Q3 i):=by
 refine⟨λJ s σ H D EX I h=>?_⟩
 refine wpAny_execs_cons (wpAny_mono (wpAny_Assign_Name (Q:=λfl s'=>fl=.next/\SP X J D .next s') (wpAny_mono (cM7 F hr hg hm hk B P R j he c I h) (λv s1 ⟨z,m,Y,r1,q1⟩=>?_) λ_ _ z=>z) hs) (λfl s1 q=>?_) λ_ _ z=>z)
 .exact aE4 Y M hi hy r1 (λs2 U=>⟨rfl,_,m,U,q1⟩) hf
 .obtain⟨rfl,q⟩:=q;exact wpAny_execs_nil q
end
def cS6 (K:Frag)(TE:Addr)(tb:XK->TS)(j:Nat)(th:TS):TS:=λD σ H=>
 tb (λcls d H1=>∃C,cls=.ref C/\bO5 K C/\subIn K C (.ref TE)=true/\∀x,H1 x=none->th {nx:=λσ' H'=>D.nx (σ'.set j none) H',rt:=λ_ _=>False} (σ.set j (some (.ref x))) (upd H1 x (excD x C d))) D σ H
section
theorem dM6 {body:List Stmt}{tb:XK->TS}{cn en:Str}{TE:Addr}{b0:Stmt}{suite:List Stmt}{j:Nat}{th:TS}{np hpos pos:Pos}(Y:PBd X body tb)(hg:Gl X cn)(hm:X.mg cn=some (.ref TE))(hTE:bO5 X.K TE)
  (hN:X.N.Nodup) (hj:X.N[j]? = some en) (hen:X.env.scope.names.lookup en=some .local) (U:X.stack=X.env::X.outer) (hfr:X.env.frame=some X.env.locals) (hh:∀e,PSs (X.markd e) (b0::suite) th) (hdb:(cn==("__debug__" : Str))=false:=by decide) :
  PS X (.Try body [.ExceptHandler (some (.Name cn np)) (some en) (b0::suite) hpos] [] [] pos) (cS6 X.K TE tb j th):=by
 refine⟨?_⟩;intro aA s σ H D I h;refine wpAny_Try_except (wpAny_mono (Y.run aA s σ H D _ I h) (λf s1 q=>?_) (λe s1 hx=>?_))
 .cases f with
  | next=>exact wpAny_execs_nil q
  | ret v=>exact q
  | brk=>exact q
  | cont=>exact q
 obtain⟨s0,H0,I0,x,cls,H1,dd0,rfl,os,R,un,hok,F,D0,C,rfl,hC,hsub,hth⟩:=hx;have ex:H1 x=none:=by obtain⟨_,_,_,_,_,_,_,_,n3,_⟩:=F;exact n3
 have n0:s0.heap.get? x=none:=by obtain⟨_,_,_,_,_,_,n1,_⟩:=F;exact n1
 have J1:Inv X aA σ H1 s1:=I0.call' os un hok R (λb z=>absurd z (by simp))
 have fr:X.A.frames=some (X.env::X.outer):=by rw[<- U];exact I0.ok.frames
 have stk:∀{s':Shared} {σ':St} {H':Hp},Inv X aA σ' H' s'->s'.heap.FunFrames X.base (X.env::X.outer):=λJ=>by rw[<- U];exact J.stack
 rw[U]at un;have fsn:∀b∈frs (X.env::X.outer),H1 b=none:=λb Y=>J1.stkFree b (by rw[U];exact Y)
 refine cA3 (P:=X.prog) (w:=X.w) fr hfr (stk J1) F D0 (λb o e=>un.there b o e (by simp)) hok λh2 B hB mv F2 D2=>?_
 have un2:=cV6 un (λb Y=>(hB b Y).1) mv.k mv.s
 have Q:=cA6 hok fsn (λb Y=>(hB b Y).2) mv.k
 have J2:Inv X aA σ H1 {s1 with heap:=h2}:=I0.call' (s':={s1 with heap:=h2}) os (by rw[U];exact un2) Q R (λb z=>absurd z (by simp))
 refine wpAny_handleBy_cons (codeAny_handlers_test (j7 (X:=X.markd (.ref x)) (J2.markd (.ref x)) hg hm ?_ hdb)) (by intro q;cases q)
 obtain⟨bm,N,nm,qn,bs,hdct,sn,sub,ab,col,dd,k0,k1,k2,k3,k5,o1,o4⟩:=hC _ J2.kIn;obtain⟨bm',N',nm',qn',bs',hdct',sn',sub',ab',col',dd',j0,j1,j2,j3,j5,o1',o4'⟩:=hTE _ J2.kIn;have hox:∃M vs,h2.get? x=some M/\M.cls=.ref C/\M.data=.fields vs:=by
  obtain⟨_,M,vs,_,_,_,_,_,_,_,e1,e2,e3,_⟩:=F2;exact⟨M,vs,e1,e2.1,e3⟩
 obtain⟨M,vse,eo,eoc,eod⟩:=hox;refine aV9 o1 o1' eo eoc (o4'.hasType PySem.F.excBase_ValueError.hasBase) (cN4 J2.kIn o1 hsub) ?_;refine codeAny_handlers_suite_as ?_;refine cD9 (P:=X.prog) (w:=X.w) (stk J2) F2 D2 (λb o e=>un2.there b o e (by simp)) Q λh3 B3 hB3 mv3 F3 D3=>?_
 have y:=cV6 un2 (λb Y=>(hB3 b Y).1) mv3.k mv3.s
 have hok3:=cA6 Q fsn (λb Y=>(hB3 b Y).2) mv3.k
 obtain⟨oe',vse',eo',eoc',eod',edd'⟩:∃M vs,h3.get? x=some M/\M.cls=.ref C/\M.data=.fields vs/\M.dict=dd0:=by
  obtain⟨_,M,vs,_,_,_,_,_,_,_,e1,e2,e3,_⟩:=F3;obtain⟨o',q1,q2⟩:=D3;rw[e1]at q1;cases q1;exact⟨M,vs,e1,e2.1,e3,q2⟩
 have un4:Un (frs (X.env::X.outer)) [] H0 (upd H1 x (excD x C dd0)) s0.heap h3:=⟨y.keep,y.slot,λb o e n hx=>by
  rw[B4 (λz=>by rw[z,n0]at e;cases e)];exact y.free b o e n hx,y.there,λb xs e=>by
  rw[B4 (λz=>by have:=y.tups b xs e;rw[z,ex]at this;cases this)];exact y.tups b xs e,λb o u e=>by
  rw[B4 (λz=>by have:=y.frzs b o u e;rw[z,ex]at this;cases this)];exact y.frzs b o u e,λb ps e=>by
  obtain⟨more,q⟩:=y.tbls b ps e;exact⟨more,by rw[B4 (λz=>by rw[z,ex]at q;cases q)];exact q⟩⟩
 have hok4:HOk X.prog X.w (upd H1 x (excD x C dd0)) h3:=λb u e=>by
  by_cases Y:b=x
  .subst Y;rw[B6]at e;cases e;exact dN5 eo' eoc' eod' edd'
  .rw[B4 Y]at e;exact(hok3 b u e).stay (λ_ _ _ q=>q) (λc q=>by rw[B4 (E7 q ex)];exact q) λc xs q=>by rw[B4 (E7 q ex)];exact q
 have J4:Inv X aA σ (upd H1 x (excD x C dd0)) {s1 with heap:=h3}:=I0.call' (s':={s1 with heap:=h3}) os (by rw[U];exact un4) hok4 R (λb z=>absurd z (by simp))
 refine aE4 (X:=X.markd (.ref x)) (v:=.ref x) (J4.markd (.ref x)) hN hj (.inl hen) rfl (λs4 J5=>?_) (.inr hen)
 refine wpAny_mono (hh (.ref x) aA s4 _ _ _ J5 (hth x ex)) (λf s5 q=>?_) λ_ _ z=>False.elim z
 cases f with
 | ret v=>obtain⟨_,_,_,_,_,z⟩:=q;exact False.elim z
 | brk=>obtain⟨_,_,_,z⟩:=q;exact False.elim z
 | cont=>obtain⟨_,_,_,z⟩:=q;exact False.elim z
 | next=>
  obtain⟨σ',H',J6,q⟩:=q;have J7:Inv X aA σ' H' s5:=J6.unmark I.ok;obtain⟨m,hn,hl⟩:=id J7.loc;exact wpAny_nameGoes_keeps hen hn (by rw[I.ok.kind];rfl) λh' v hns hsb=>⟨_,H',J7.unbind hN hj hn hl hns hsb,q⟩
end
def m8 (x C:Addr)(d:AK):HO:=.ext λh=>∃t0 sl,h.get? x=some ⟨.ref C,d,.fields #[.ref t0,.none,.none,.none,.bool false,.none],sl⟩
theorem aX4 {P:Program}{w:World}{H:Hp}{h:Heap}{x C t0:Addr}{d:AK}{sl:Array (Option Value)}(e:h.get? x=some ⟨.ref C,d,.fields #[.ref t0,.none,.none,.none,.bool false,.none],sl⟩):ObjOk P w H h x (m8 x C d):=
 ⟨⟨t0,sl,e⟩,⟨_,e⟩,λh1 z ⟨a,b,y⟩ k=>⟨a,b,k _ y⟩⟩
theorem dY5 (e:H x=some o):upd H x o=H:=by
 funext b
 by_cases c:b=x
 .subst c;rw[B6,e]
 .rw[B4 c]
section
variable {X:Cx}{initId:String}
def rXb (K:Frag)(xs:List V)(H:Hp)(Q:VK):Prop:=∃x C d vs,xs=.ref x::vs/\H x=some (m8 x C d)/\bO5 K C/\vs.length<=1000/\Q .non H
theorem cA4 (F:ExcBaseFacts "ValueError" "ValueError.__new__" initId bmV)(K:Frag)(c:X.K=K:=by rfl):R4 X (.builtin initId) (rXb K):=by
 subst c;intro aA s σ H xs us Q I r h;obtain⟨x,C,d,vs,rfl,ex,j,hl,q⟩:=h;cases r with
 | cons R D=>
  cases R
  obtain⟨t0,sl,Y⟩:=(I.hok x _ ex).1;obtain⟨bm,N,nm,qn,bs,z,sn,B,ab,k,dd,k0,k1,k2,k3,k5,J,M⟩:=j _ I.kIn;obtain⟨hp,g,dr,P,os⟩:=s;refine dB5 F M J Y (by have:=D.length;unfold sizeLine;lia) λh' U y e2 _=>⟨.non,H,?_,rfl,q⟩
  have w:=I.write (x:=x) (e:=x) (o:=m8 x C d) (t':=P) (h':=h') (by rw[ex];trivial) (.inl rfl) (λb u m e=>U b u m e) ⟨_,y⟩ (aX4 y)
  rw[dY5 ex]at w;exact w
end
section
variable {X:Cx}{initId:String}{x:Str}{Tb:Addr}{e:Expr}{es:AM}{t:TA}{np apos pos:Pos}{pl:Sem Bool}
theorem bB8 (F:ExcBaseFacts "ValueError" "ValueError.__new__" initId bmV)(K:Frag)(M:Gl X x)(N:X.mg x=some (.ref Tb))(c:dB9 X.K Tb initId)(J:PA X (e::es) t)(U:X.K=K:=by rfl)(w:(x==("__debug__" : Str))=false:=by decide)
  (k:starEach (e::es) X.env=(false,eval e X.env)::starEach es X.env:=by rfl) (z:(backTo pos (starEach es X.env)).any (·.1)=false:=by rfl)
  (R:eval (.Call (.Attribute (.Name x np) "__init__" apos) (e::es) [] pos) X.env=(do
   let ov <- eval (.Name x np) X.env
   standAt apos.atName
   let (f,first) <- holding [ov] (getMethod ov "__init__" pl)
   callWith pos f first (backTo pos (starEach (e::es) X.env)) (backToKw pos (keywordEach [] X.env))):=by rfl) :
  PE X (.Call (.Attribute (.Name x np) "__init__" apos) (e::es) [] pos) (tCB (rXb K) t):=by
 subst U;refine⟨?_⟩;intro y s σ H Q I h;refine PySem.W.methodCall_KW (pl:=pl) (j7 I M N ?_ w) R;refine cR3 I.kIn c ?_;have m:Inv X y σ H {s with toks:=s.toks+1}:=I.tok _
 exact PyProof.Rows.callWith_builtin1 (thn (J pos y _ σ H _ m h) λus P ⟨vs,j,Y,B,D⟩=>cA4 F X.K rfl y P σ j vs us Q Y B D) k z
def sXf (K:Frag)(ta tv:TE)(f:Str):TS:=λD σ H=>tv σ H λy H1=>ta σ H1 λx H2=>∃a C cd,x=.ref a/\H2 a=some (m8 a C none)/\dD4 K C cd/\PySem.W.findIn K (.ref C) f=some none /\
 ∀dx,H2 dx=none->dx≠a->D.nx σ (upd (upd H2 dx (.xd [(f,y)])) a (m8 a C (some dx)))
theorem cE7 (ha:PE X o ta)(hv:PE X value tv)(hs:swapsWith value (some (.Attribute o f pos')) pos.line X.env=pure false:=by rfl):PS X (.Assign [.Attribute o f pos'] value pos) (sXf X.K ta tv f):=by
 refine⟨?_⟩;intro Y s σ H D I h;refine plainObj_wpAny_Assign_Attribute (thn (hv Y s σ H _ I h) λu s1 ⟨y,H1,I1,ry,q⟩=>thn (ha Y s1 σ H1 _ I1 q) λov w pz=>?_) hs
 obtain⟨z,N,m,rx,a,C,cd,ez,F,c,n,q2⟩:=pz;subst ez;obtain rfl:ov=Value.ref a:=rx;obtain⟨t0,sl,B⟩:=(m.hok a _ F).1;have P:w.heap.objs.size≠a:=λz=>absurd (Ab3 B) (by rw[z];exact Ad9 _)
 have hn:N w.heap.objs.size=none:=m.hok.fresh (Aa7 _)
 refine cW3 m.kIn c B n λh' R ns kp=>⟨σ,_,?_,q2 w.heap.objs.size hn P⟩
 obtain⟨k,J,U,Q,rD⟩:=id ns;have hl:∀b u,w.heap.get? b=some u->(w.heap.push k).get? b=some u:=λb u e=>Aa6 _ e
 have nf:(w.heap.push k).get? w.heap.objs.size=some k:=by
  refine Heap.get?_push_at rfl ?_;exact(Heap.get?_some_iff.mp Q).2
 have M:(w.heap.push k).Ns1 w.heap.objs.size (λz=>if z=f then some u else none):=⟨k,J,U,nf,rD⟩
 have J1:Inv X Y σ (upd N w.heap.objs.size (.xd [(f,y)])) {w with heap:=w.heap.push k,toks:=w.toks}:=m.laid hl (Aa7 _) ⟨_,M,λg=>by
  show RelO (List.lookup g [(f,y)]) (if g=f then some u else none)
  by_cases q:g=f
  .subst q;rw[Ae rfl];simp only[List.lookup_cons,beq_self_eq_true];exact ry
  .rw[Ac q]
   have:(g==f)=false:=by simpa using q
   simp only[List.lookup_cons,this,List.lookup_nil];trivial⟩
 refine J1.write (x:=a) (e:=a) (h':=h') (t':=w.toks+2) (by rw[B4 (Ne.symm P),F];trivial) (.inl rfl) (λb v hb e=>?_) ⟨_,R⟩ (aX4 R)
 by_cases j:b=w.heap.objs.size
 .subst j;rw[nf]at e;cases e;exact Q
 .have:w.heap.get? b=some v:=by
   exact(Heap.get?_push_ne _ _ _ j).symm.trans e
  exact kp b v hb this
end
def XMk (K:Frag)(C f:Addr):Prop:=∀h:Heap,K.In h->∃bm N nm qn bs hdct sn sub ab col dd k0 k1 k2 k3 k5 mN oI,h.get? C=some (excClassObj nm qn C N bs bm hdct sn sub ab col dd k0 k1 k2 k3 k5 "ValueError.__new__")/\OwnTail h bmV bm/\h.Ns N mN/\mN "__init__" = some (.ref f)/\h.get? f=some oI/\oI.cls=.type "function"
def dR0 (C:Addr)(sp:Sp)(dvs:List V)(E:XK)(t:TA):TE:=λσ H Q=>t σ H λvs H1=>vs.length<=1000/\∀x,H1 x=none->sp (.ref x::(vs++dvs)) (upd H1 x (m8 x C none)) (λv H2=>v=.non/\Q (.ref x) H2) E
section
variable {X:Cx}{CX:CXT}{C f:Addr}{k:Nat}{fd:FuncData}{ps:AH}{sp:Sp}{dvs:List V}{ds:AG}{E:XK}{x:Str}{p pos:Pos}{e:Expr}{es:AM}{t:TA}
theorem dO7 {aA:Dz}{σ:St}{H:Hp}{s:Shared}{Q:VK}{us:AG}{vs:List V}(M:XMk X.K C f)(F:J0 X.prog X.w X.K X.mg X.base CX k f fd ps sp)(hr:Room (k+1) X.A)(hb:Binds X.K fd ps ds)(hd:Vals dvs ds)
  (hx:n5 CX X E) (I:Inv X aA σ H s) (r:Vals vs us) (hv:vs.length<=1000) (h:∀x,H x=none->sp (.ref x::(vs++dvs)) (upd H x (m8 x C none)) (λv H2=>v=.non/\Q (.ref x) H2) E) :
  wpAny (model X.prog X.w) X.A (call (.ref C) us) (EP X aA σ Q) X.xe s:=by
 obtain⟨bm,N,nm,qn,bs,c,sn,sub,ab,P,dd,k0,k1,k2,k3,k5,mN,oI,o1,o2,o3,o4,o5,o6⟩:=M _ I.kIn;obtain⟨hp,g,d,J,os⟩:=s;have m:=r.length;refine bG5 PySem.F.excBase_ValueError (by decide) PySem.F.excBase_ValueError o2 o1 o3 o4 o5 o6 (by unfold sizeLine;lia) λh' up B j sz=>?_
 have Y:=h (hp.objs.size+1) (I.hok.fresh (Nat.le_succ _))
 have z:Inv X aA σ (upd H (hp.objs.size+1) (m8 (hp.objs.size+1) C none)) ⟨h',g,d,J,os⟩:=I.laid (a:=hp.objs.size+1) (t':=J) (h':=h') up (Nat.le_succ _) (aX4 (sl := #[]) j)
 have U:Vals (V.ref (hp.objs.size+1)::(vs++dvs)) (Value.ref (hp.objs.size+1)::(us++ds)):=.cons rfl (r.append hd)
 have hl:(Value.ref (hp.objs.size+1)::us++ds).length=ps.length:=by
  have e:=U.length
  rw[F.len _ _ _ _ Y]at e;exact e.symm
 refine wpAny_call (codeAny_mono (F.run _ X.stack _ _ ⟨Value.ref (hp.objs.size+1)::us,[]⟩ (Value.ref (hp.objs.size+1)::(us++ds)) _ _ E (hr.make C us []) (z.env0.make C us []) (hb _ (Value.ref (hp.objs.size+1)::us) z.kIn hl) U Y) λr s' y=>?_)
 cases r with
 | error e=>exact hx aA σ _ _ e s' z y
 | ok fl=>
  cases fl with
  | ret u=>
   obtain⟨v,R,D,rv,ev,q3⟩:=z.after y;subst ev;exact⟨rv,⟨V.ref (hp.objs.size+1),R,D,rfl,q3⟩⟩
  | next=>exact False.elim y
  | brk=>exact False.elim y
  | cont=>exact False.elim y
theorem dM9 (M:XMk X.K C f)(kp:PySem.W.keepIn X.K (.ref C)=true)(F:J0 X.prog X.w X.K X.mg X.base CX k f fd ps sp)(D:Room (k+1) X.A)(N:Gl X x)(R:X.mg x=some (.ref C))(Y:Binds X.K fd ps ds)(U:Vals dvs ds)(P:n5 CX X E)
  (m:PA X (e::es) t) (y:(x==("__debug__" : Str))=false:=by decide) (J:starEach (e::es) X.env=(false,eval e X.env)::starEach es X.env:=by rfl) (z:(backTo pos (starEach es X.env)).any (·.1)=false:=by rfl) :
  PE X (.Call (.Name x p) (e::es) [] pos) (dR0 C sp dvs E t):=by
 refine⟨?_⟩;intro c s σ H Q I h;refine wpAny_Call_Name_kw (j7 I N R ?_ y);refine PySem.W.callWith_K (h₀:=X.base) I.ok.mod.kin kp (thn (m pos c s σ H _ I h) λus s1 ⟨vs,H1,j,r,B,q⟩=>⟨j.kIn,?_⟩) J z
 exact dO7 M F D Y U P j r B q
end
section
variable {M:Model}{A:Around}{E:Dy}{s:Shared}{env:Env}
variable {nm q:Str}{C N:Addr}{bs bm:AG}{hdct:Bool}{sn:AH}{sub:AG}{ab:Bool}{col:Option Bool}{dd:AK}{k0 k1 k2 k3 k5:Option Value}{newId:String}
theorem cQ8 (c:A.handled=none)
  (h:wpAny M A x (λv s1=>∃(nm q:Str) (C N:Addr) (bs bm:AG) (hdct:Bool) (sn:AH) (sub:AG) (ab:Bool) (col:Option Bool) (dd:AK) (k0 k1 k2 k3 k5:Option Value) (newId:String) (e t:Addr) (od:AK) (sl:Array (Option Value)),v=.ref e/\bm.contains (.type "BaseException")=true/\s1.heap.get? C=some (excClassObj nm q C N bs bm hdct sn sub ab col dd k0 k1 k2 k3 k5 newId)/\s1.heap.get? e=some ⟨.ref C,od,.fields #[.ref t,.none,.none,.none,.bool false,.none],sl⟩/\E (.ref e) s1) E s) :
  wpAny M A (raiseStmt env (some x) none) Q E s:=by
 unfold raiseStmt;refine Aa (wpAny_mono h (λv s1 z=>?_) λ_ _ z=>z)
 obtain⟨nm,q,C,N,bs,bm,hdct,sn,sub,ab,col,dd,k0,k1,k2,k3,k5,newId,e,t,od,sl,rfl,k,y,j,w⟩:=z;have m:(Value.ref C::bm).contains (.type "BaseException")=true:=by rw[List.contains_cons,k,Bool.or_true]
 obtain⟨hp,g,d,Y,os⟩:=s1
 repeat (first | wp_step | (with_reducible refine wpAny_isSubtype_exc y ?_;rw[m]) | with_reducible refine wpAny_loadPart_at y ?_ | with_reducible refine wpAny_loadPart_at j ?_)
 exact wpAny_raiseNew_none c w
end
def drp (H:Hp)(x:Addr):Hp:=λb=>if b=x then none else H b
theorem bB0:drp H x x=none:=Ae rfl
theorem bE0 (h:b≠x):drp H x b=H b:=Ac h
section
variable {P:Program}{w:World}{fs ex:AL}{H H1:Hp}{h h1:Heap}{x C:Addr}{d:AK}
theorem Un.drp (u:Un fs ex H H1 h h1)(e:H1 x=some (m8 x C d)):Un fs ex H (drp H1 x) h h1:=by
 have y:∀b o,H1 b=some o->(∀φ,o≠.ext φ)->L2.drp H1 x b=some o:=λb o q n=>by
  rw[bE0];exact q;rintro rfl;rw[e]at q;exact n _ (Ab4 q).symm
 refine⟨u.keep,u.slot,λb o q n z=>?_,u.there,λb xs q=>y b _ (u.tups b xs q) (λφ z=>by cases z),λb o v q=>y b _ (u.frzs b o v q) (λφ z=>by cases z),λb ps q=>?_⟩
 .have:=u.free b o q n z
  unfold L2.drp;by_cases c:b=x
  .rw[Ae c]
  .rw[Ac c];exact this
 .obtain⟨k,q⟩:=u.tbls b ps q;exact⟨k,y b _ q (λφ z=>by cases z)⟩
theorem HOk.drp (k:HOk P w H1 h)(e:H1 x=some (m8 x C d)):HOk P w (drp H1 x) h:=λb o q=>by
 by_cases c:b=x
 .subst c;rw[bB0]at q;cases q
 .rw[bE0 c]at q;have y:∀b o,H1 b=some o->(∀φ,o≠.ext φ)->L2.drp H1 x b=some o:=λb o q n=>by
   rw[bE0];exact q;rintro rfl;rw[e]at q;exact n _ (Ab4 q).symm
  exact(k b o q).stay (λ_ _ _ z=>z) (λj z=>y j _ z (λφ z=>by cases z)) λj xs z=>y j _ z (λφ z=>by cases z)
end
section
variable {P:Program}{w:World}{M:Model}{A:Around}{E:Dy}{s:Shared}{H:Hp}{h0 base:Heap}{env:Env}{outer:List Env}{L x t0:Addr}{cls:Value}{d:AK}{sl0:Array (Option Value)}{Q:Unit->Shared->Prop}
theorem cO7 (X:A.frames=some (env::outer))(hf:env.frame=some L)(hl:s.heap.FunFrames base (env::outer))(n1:h0.get? x=none)(n3:H x=none)(hx:s.heap.get? x=some ⟨cls,d,.fields #[.ref t0,.none,.none,.none,.bool false,.none],sl0⟩)
  (J:∀b o,h0.get? b=some o->∃o',s.heap.get? b=some o') (U:HOk P w H s.heap)
  (hQ:∀h2:Heap,(∀b o,s.heap.get? b=some o->b∉frs (env::outer)->b∉[x]->h2.get? b=some o)->(∀b o,s.heap.get? b=some o->b∈frs (env::outer)->∃sl,h2.get? b=some {o with slots:=sl})->Fly h0 H x cls h2->Dx h2 x d->Q () {s with heap:=h2}) :
  wpAny M A (leaving env (.ref x)) Q E s:=by
 have y:∀b∈frs (env::outer),∃o,s.heap.get? b=some o/\∀vs,o.data≠.fields vs:=λb j=>(hl.mem j).2
 have D:Dx s.heap x d:=⟨_,hx,rfl⟩
 have st:wpAny M A (leaving env (.ref x)) (λ_ s'=>∃h2,s'={s with heap:=h2}/\Heap.LeftW (PySem.W.hideAll s.heap (x::frs (env::outer))) (env::outer) x cls (.ref t0) s.heap h2) E s:=
  wpAny_leaving_firstW (oe:=⟨cls,d,.fields #[.ref t0,.none,.none,.none,.bool false,.none],sl0⟩) X (Z6 hl λb j=>Ad4 _ j) hf hx (λb o e=>PySem.W.of_hideAll _ e) (PySem.W.hideAll_none _ (Af ..)) rfl rfl rfl λh' z=>⟨h',rfl,z⟩
 refine wpAny_mono (aC9 (aO3 env (.ref x)) st) (λ_ s' z=>?_) λ_ _ z=>z.1
 obtain⟨⟨h2,rfl,⟨k1,_,⟨B,vs',k,R,Y,e1,e2,e3,e4,e5,e6,e7,e8,e9⟩,N⟩⟩,kd⟩:=z;have ks:∀b o,s.heap.get? b=some o->b∈frs (env::outer)->∃sl,h2.get? b=some {o with slots:=sl}:=λb o e j=>by
  obtain⟨o',e',c⟩:=y b j;rw[e]at e';cases e';exact N b o e c
 have nT:s.heap.get? k=none:=by
  cases q:s.heap.get? k with
  | none=>rfl
  | some o=>
   exfalso
   by_cases j:k∈x::frs (env::outer)
   .rcases Aa1.mp j with z | z
    .exact e6 z
    .obtain⟨o',e',c⟩:=y k z;obtain⟨sl,q⟩:=ks k o' e' z;rw[e7]at q;have q:=Ab4 q;subst q;exact c Y e8
   .rw[PySem.W.hideAll_get _ q j]at e5;cases e5
 have F:Fly h0 H x cls h2:=by
  refine⟨_,B,vs',k,R,Y,n1,?_,n3,?_,e1,e2,e3,e4,e6,e7,e8,e9⟩
  .cases q:h0.get? k with
   | none=>rfl
   | some o=>obtain⟨o',m⟩:=J k o q;rw[nT]at m;cases m
  .cases q:H k with
   | none=>rfl
   | some u=>obtain⟨o',m⟩:=X4 (U k u q);rw[nT]at m;cases m
 refine hQ h2 (λb o e j hB=>k1 b o (PySem.W.hideAll_get _ e λz=>?_)) ks F (D.keep kd F.there)
 rcases Aa1.mp z with z | z
 .exact hB (by rw[z];simp)
 .exact j z
end
section
variable {P:Program}{w:World}{K:Frag}{mg:Str->Option Value}{base:Heap}{N:AH}{qual:Str}{scope:Scope}{f:Addr}{cd:Value}{A:Around}{outer:List Env}{s:Shared}{H:Hp}{E:XK}
theorem cF3 (I:Inv (aV4 (CXd P w) P w K mg base N qual scope f cd A outer s H E) aA σ H1 s1)(X:s.heap.objs.size<=y)(e:H1 y=some (m8 y C (some dx)))(q:E (.ref C) (some dx) (drp H1 y)) :
  (aV4 (CXd P w) P w K mg base N qual scope f cd A outer s H E).xe (.ref y) s1:=by
 have j:∀b o,s.heap.get? b=some o->∃M,s1.heap.get? b=some M:=λb o e=>I.base.there b o e (by exact λz=>absurd (show b∈([]:AL) from z) (by simp))
 obtain⟨t0,Q,Y⟩:=(I.hok y _ e).1;have J:=I.un (h':=s1.heap) (t':=s1.toks) (Un.refl.drp e) (I.hok.drp e);have c:s.heap.get? y=none:=Heap.get?_none_of_le X;exact cO7 (P:=P) (w:=w) (H:=drp H1 y) (h0:=s.heap) (base:=base) I.ok.frames rfl I.stack c bB0 Y j (I.hok.drp e) λR k U F D=>dE8 (B:=[y]) (s1:=s1) J (λb m=>by rw[Ad8.mp m];exact⟨c,bB0⟩) k U F D q I.bare
end
section
variable {X:Cx}{CX:CXT}{C f:Addr}{k:Nat}{fd:FuncData}{ps:AH}{sp:Sp}{dvs:List V}{ds:AG}{E:XK}{x:Str}{p pos:Pos}{e:Expr}{es:AM}{t:TA}
theorem cY0 {aA:Dz}{σ:St}{H:Hp}{s:Shared}{Q:VK}{us:AG}{vs:List V}(M:XMk X.K C f)(F:J0 X.prog X.w X.K X.mg X.base CX k f fd ps sp)(hr:Room (k+1) X.A)(P:Binds X.K fd ps ds)(hd:Vals dvs ds)
  (hx:n5 CX X E) (I:Inv X aA σ H s) (r:Vals vs us) (hv:vs.length<=1000) (h:∀x,H x=none->sp (.ref x::(vs++dvs)) (upd H x (m8 x C none)) (λv H2=>v=.non/\Q (.ref x) H2) E) :
  wpAny (model X.prog X.w) X.A (call (.ref C) us) (λu s'=>u=.ref (s.heap.objs.size+1)/\∃H',Inv X aA σ H' s'/\Q (.ref (s.heap.objs.size+1)) H') X.xe s:=by
 obtain⟨bm,N,nm,qn,bs,c,sn,sub,ab,B,dd,k0,k1,k2,k3,k5,mN,oI,o1,o2,o3,o4,o5,o6⟩:=M _ I.kIn;obtain⟨hp,g,d,J,os⟩:=s;have m:=r.length;refine bG5 PySem.F.excBase_ValueError (by decide) PySem.F.excBase_ValueError o2 o1 o3 o4 o5 o6 (by unfold sizeLine;lia) λh' up D j sz=>?_
 have Y:=h (hp.objs.size+1) (I.hok.fresh (Nat.le_succ _))
 have z:Inv X aA σ (upd H (hp.objs.size+1) (m8 (hp.objs.size+1) C none)) ⟨h',g,d,J,os⟩:=I.laid (a:=hp.objs.size+1) (t':=J) (h':=h') up (Nat.le_succ _) (aX4 (sl := #[]) j)
 have U:Vals (V.ref (hp.objs.size+1)::(vs++dvs)) (Value.ref (hp.objs.size+1)::(us++ds)):=.cons rfl (r.append hd)
 have hl:(Value.ref (hp.objs.size+1)::us++ds).length=ps.length:=by
  have e:=U.length
  rw[F.len _ _ _ _ Y]at e;exact e.symm
 refine wpAny_call (codeAny_mono (F.run _ X.stack _ _ ⟨Value.ref (hp.objs.size+1)::us,[]⟩ (Value.ref (hp.objs.size+1)::(us++ds)) _ _ E (hr.make C us []) (z.env0.make C us []) (P _ (Value.ref (hp.objs.size+1)::us) z.kIn hl) U Y) λr s' y=>?_)
 cases r with
 | error e=>exact hx aA σ _ _ e s' z y
 | ok fl=>
  cases fl with
  | ret u=>
   obtain⟨v,H',R,rv,ev,q3⟩:=z.after y;subst ev;exact⟨rv,rfl,H',R,q3⟩
  | next=>exact False.elim y
  | brk=>exact False.elim y
  | cont=>exact False.elim y
def cL1 (C:Addr)(sp:Sp)(dvs:List V)(E:XK)(EX:Addr->Hp->Prop)(t:TA):TS:=λ_ σ H=>t σ H λvs H1=>vs.length<=1000/\∀x,H1 x=none->sp (.ref x::(vs++dvs)) (upd H1 x (m8 x C none)) (λv H2=>v=.non/\∃y dx,V.ref x=.ref y/\H2 y=some (m8 y C (some dx))/\EX dx (drp H2 y)) E
theorem bJ1 {EX:Addr->Hp->Prop}{np cpos:Pos}(M:XMk X.K C f)(kp:PySem.W.keepIn X.K (.ref C)=true)(F:J0 X.prog X.w X.K X.mg X.base CX k f fd ps sp)(hr:Room (k+1) X.A)(hg:Gl X x)(hm:X.mg x=some (.ref C))(hb:Binds X.K fd ps ds)(hd:Vals dvs ds)(hx:n5 CX X E)(hc:X.calm=true)
  (ha:PA X (e::es) t) (hX:∀(aA:Dz) (σ:St) (H:Hp) (s:Shared) (y dx:Addr),Inv X aA σ H s->X.s₀.heap.objs.size<=y->H y=some (m8 y C (some dx))->EX dx (drp H y)->X.xe (.ref y) s)
  (c:(x==("__debug__" : Str))=false:=by decide) (he:starEach (e::es) X.env=(false,eval e X.env)::starEach es X.env:=by rfl) (m:(backTo cpos (starEach es X.env)).any (·.1)=false:=by rfl) :
  PS X (.Raise (some (.Call (.Name x np) (e::es) [] cpos)) none pos) (cL1 C sp dvs E EX t):=by
 refine⟨?_⟩;intro aA s σ H D I h;rw[arm_exec_Raise];refine Aa (wpAny_standAt (cQ8 (I.ok.hd hc) ?_));refine Aa ?_;refine wpAny_Call_Name_kw (j7 I hg hm ?_ c);refine PySem.W.callWith_K (h₀:=X.base) I.ok.mod.kin kp (thn (ha cpos aA s σ H _ I h) λus s1 ⟨vs,H1,j,r,hv,q⟩=>⟨j.kIn,?_⟩) he m
 refine wpAny_mono (cY0 (Q:=λv R=>∃y dx,v=.ref y/\R y=some (m8 y C (some dx))/\EX dx (drp R y)) M F hr hb hd hx j r hv λx U=>?_) (λu s2 z=>?_) λ_ _ z=>z
 .exact q x U
 .obtain⟨rfl,H',J,y,dx,ey,B,q1⟩:=z;cases ey;obtain⟨t0,sl,Y⟩:=(J.hok _ _ B).1;obtain⟨bm,N,nm,qn,bs,P,sn,sub,ab,col,dd,k0,k1,k2,k3,k5,mN,oI,o1,o2,o3,o4,o5,o6⟩:=M _ J.kIn;refine Aa (wpAny_standAt (Ab ?_));exact⟨_,_,_,_,_,_,_,_,_,_,_,_,_,_,_,_,_,_,_,t0,some dx,sl,rfl,o2.hasType PySem.F.excBase_ValueError.hasBase,o1,Y,hX aA σ H' s2 _ dx J (Ax j.sz (Nat.le_succ _)) B q1⟩
end
section
variable {X:Cx}{e:Expr}{f:Str}{ta:TE}{pos:Pos}
def tXf (K:Frag)(ta:TE)(f:Str):TE:=λσ H Q=>ta σ H λx H1=>∃a C dx fs v,x=.ref a/\H1 a=some (excD a C (some dx))/\H1 dx=some (.xd fs)/\cP9 K C/\PySem.W.hasDictIn K C=true/\PySem.W.findIn K (.ref C) f=some none/\fs.lookup f=some v/\Q v H1
theorem bX8 (K:Frag)(he:PE X e ta)(P:attributeBase e f X.env (eval e X.env)=eval e X.env)(B:X.K=K:=by rfl):PE X (.Attribute e f pos) (tXf K ta f):=by
 subst B;refine⟨?_⟩;intro Y s σ H Q I h;refine cK5 P (thn (he Y s σ H _ I h) λu j pz=>?_)
 obtain⟨x,m,y,rx,a,C,dx,fs,v,ex,U,M,c,hd,n,l,q⟩:=pz;subst ex;obtain rfl:u=Value.ref a:=rx;obtain⟨o,vs,N,R,D,F⟩:=(y.hok a _ U).1;obtain⟨w,ns,z⟩:∃w,j.heap.Ns1 dx w/\∀f,RelO (fs.lookup f) (w f):=y.hok dx _ M;obtain⟨od,ho,hl⟩:=aR6 ns;obtain⟨u,hu,k⟩:=RelO.some_of (v:=v) (o:=w f) (by rw[<- l];exact z f)
 have J:PySem.W.InstAt j.heap a o C (some od):=⟨N,R,by
  obtain⟨oc,odi,oda,osl⟩:=o;cases D;rfl,by rw[F];exact ho⟩
 exact cF4 y.kIn J c (PySem.W.findObj_own hd n rfl (by rw[hl,hu])) (bI6 k) ⟨v,m,y.tok _,k,q⟩
end
section
variable {K:Frag}{C TB f N:Addr}{nm qn:Str}{bs:AG}{hdct:Bool}{sn:AH}{sub:AG}{ab:Bool}{col:Option Bool}{dd:AK}{k0 k1 k2 k3 k5:Option Value}
theorem bX4 {h:Heap}(X:K.In h)(e:PySem.W.excIn K TB bmV "ValueError.__new__" = true):OwnTail h bmV (.ref TB::bmV):=by
 obtain⟨k,N,nm,qn,bs,hdct,sn,sub,ab,col,dd,k0,k1,k2,k3,k5,j,y,w,z,c⟩:=bK7 X e;exact .own y w z .base
theorem cP7 (y:PySem.W.excIn K C bmV "ValueError.__new__" = true):bO5 K C:=λh X=>by
 obtain⟨e,N,nm,qn,bs,hdct,sn,sub,ab,col,dd,k0,k1,k2,k3,k5,k,w,j,c,z⟩:=bK7 X y;exact⟨e,N,nm,qn,bs,hdct,sn,sub,ab,col,dd,k0,k1,k2,k3,k5,w,z⟩
theorem eC0 (ho:K.lookup C=some (excClassObj nm qn C N bs (.ref TB::bmV) hdct sn sub ab col dd k0 k1 k2 k3 k5 "ValueError.__new__"))(e:PySem.W.excIn K TB bmV "ValueError.__new__" = true):bO5 K C:=λh X=>
 ⟨_,N,nm,qn,bs,hdct,sn,sub,ab,col,dd,k0,k1,k2,k3,k5,X _ _ ho,bX4 X e⟩
theorem eD3 (X:K.In h)(G:h.Ns N mN)(e:PySem.W.nsIn K N x=some (some v)):mN x=some v:=by
 cases y:K.lookup N with
 | none=>unfold PySem.W.nsIn at e;rw[y]at e;cases e
 | some Y=>
  obtain⟨c,d,U,R⟩:=Y;obtain⟨o,j,M,s,z,_,m⟩:=G;have k:=(X _ _ y).symm.trans s;cases k;unfold PySem.W.nsIn at e;rw[y]at e;dsimp only at z;subst z;dsimp only at e;cases w:j.toList.find? (·.key.isStr x) with
  | none=>
   rw[w]at e;dsimp only at e;split at e <;> cases e
  | some J=>
   rw[w]at e;cases e;rw[<- m];unfold nsFind findBy;rw[<- Array.find?_toList,w];rfl
theorem eA3 {oI:Obj}(ho:K.lookup C=some (excClassObj nm qn C N bs (.ref TB::bmV) hdct sn sub ab col dd k0 k1 k2 k3 k5 "ValueError.__new__"))(w:PySem.W.excIn K TB bmV "ValueError.__new__" = true)(y:PySem.W.nsOkIn K N=true)(hi:PySem.W.nsIn K N "__init__" = some (some (.ref f)))
  (z:K.lookup f=some oI) (e:oI.cls=.type "function"):XMk K C f:=λh X=>
 ⟨_,N,nm,qn,bs,hdct,sn,sub,ab,col,dd,k0,k1,k2,k3,k5,_,oI,X _ _ ho,bX4 X w,.of_isNs (PySem.W.isNs_of_in X y),eD3 X (.of_isNs (PySem.W.isNs_of_in X y)) hi,X _ _ z,e⟩
theorem cE3 (e:Value):refuseLoop e "__setattr__" (.ref C :: .ref TB::bmV)=pure ():=by
 rw[refuseLoop_ref,refuseLoop_ref];exact PySem.F.store_ValueError.passes e
end
structure RoomU (k:Nat)(A:Around):Prop where
 dp:A.depth+3*k+5<recursionLimit
 un:A.units+16*k+200<cLine
theorem Room.u (r:Room k A):RoomU k A:=⟨r.dp,r.un⟩
theorem RoomU.mark {k:Nat}{A:Around}{e:Option Value}(r:RoomU k A):RoomU k (A.mark e):=⟨r.dp,r.un⟩
theorem RoomU.mono (r:RoomU k A)(h:j<=k):RoomU j A:=⟨by have:=r.dp;lia,by have:=r.un;lia⟩
theorem RoomU.deeper {k:Nat}{A:Around}(r:RoomU (k+1) A)(env:Env):RoomU k (A.deeper env):=
 ⟨by have:=r.dp;show A.depth+1+3*k+5<_;lia,by have:=r.un;show A.units+3+16*k+200<_;lia⟩
structure bG8 (P:Program)(w:World)(K:Frag)(mg:Str->Option Value)(base:Heap)(k:Nat)(f:Addr)(fd:FuncData)(ps:AH)(sp:Sp):Prop where
 len:∀vs H Q E,sp vs H Q E->vs.length=ps.length
 run:∀(A:Around) (outer:List Env) (s:Shared) (H:Hp) (args:Args) (us:AG) (vs:List V) (Q:VK) (E:XK),RoomU k A->Env0 P w K mg base A outer s H->BindsTo s fd args (ps.zip us)->Vals vs us->sp vs H Q E ->
  codeAny (model P w) A (.call (.ref f) args) (CR CX0 outer P w H s Q E) s
abbrev cxU (P:Program)(w:World)(K:Frag)(mg:Str->Option Value)(base:Heap)(N:AH)(qual:Str)(scope:Scope)(f:Addr)(cd:Value)(A:Around)(outer:List Env)(s:Shared)(H:Hp)(E:XK):Cx:=
 {aV4 CX0 P w K mg base N qual scope f cd A outer s H E with calm:=false,xe:=λ_ _=>False}
section
variable {P:Program}{w:World}{K:Frag}{mg:Str->Option Value}{base:Heap}
theorem Fun.okU {x qual:Str}{st:Stmt}{f:Addr}{fd:FuncData}{N ps:AH}{k:Nat}{sp:Sp}(F:Fun K x qual st f fd)(S:C3 N ps (B1 st))(len:∀vs H Q E,sp vs H Q E->vs.length=ps.length)
  (m:∀(cdv:Value) (A:Around) (outer:List Env) (s:Shared) (H:Hp) (vs:List V) (Q:VK) (E:XK),RoomU k (A.deeper (envOfC qual (B1 st) s.heap.objs.size f cdv))->sp vs H Q E ->
   ∃t,PSs (cxU P w K mg base N qual (B1 st) f cdv A outer s H E) (T4 st) t/\t {nx:=λ_ H'=>Q .non H',rt:=Q} (S5 N vs) H):bG8 P w K mg base (k+1) f fd ps sp:=by
 obtain⟨oc,od,kV,doc,pm,an,cdv,ct,osl,rfl,lk,D⟩:=F.ex;refine⟨len,λA outer s H args us vs Q E hr c hb r M=>?_⟩
 have hl:=len _ _ _ _ M
 have KX:K.In s.heap:=c.mod.kin.keeps λb o e=>(c.bs b o e).1
 have B:s.heap.NoLimit:=c.mod.nolimit.keeps λb o e=>(c.bs b o e).1
 have Y:∀y∈ps.zip us,(B1 st).names.lookup y.1=some .local\/((B1 st).names.lookup y.1=some .cell/\((cellsFrom (s.heap.objs.size+1) (B1 st).names []).lookup y.1).isSome=true):=by
  rintro⟨n,v⟩ hy;rcases S.par n (List.of_mem_zip hy).1 with q | q
  .exact .inl q
  .exact .inr ⟨q,PySem.W.cellsFrom_some _ _ _ (.inl q)⟩
 refine codeAny_call_function (by have:=hr.dp;lia) (KX _ _ lk) rfl S.co S.gen rfl (PySem.W.codeRec_of KX D) (hb _ _ _ _ ?_)
 refine wpAny_newFunctionEnv_cells S.kind Y λenv he s1 x=>?_
 subst he;refine⟨B.keeps x.toInCall.keep,codeAny_func ?_⟩;obtain⟨t,ht,hq⟩:=m cdv A outer s H vs Q E (hr.deeper _) M;have j:=bG7 (CX:=CX0) (A:={A with handled:=none}) (qual:=qual) (f:=f) (cd:=cdv) (E:=E) S rfl (⟨c.frames,c.mod,c.bs,c.bsz,c.funs,c.frf,c.hok,c.bare⟩:Env0 P w K mg base {A with handled:=none} outer s H) hl r x
 have I:Inv (cxU P w K mg base N qual (B1 st) f cdv A outer s H E) [] (S5 N vs) H s1:=
  ⟨⟨j.ok.mod,j.ok.kind,j.ok.glob,j.ok.blt,j.ok.above,j.ok.inj,j.ok.has,j.ok.cab,(λz=>nomatch z),Around.frames_deeper c.frames,j.ok.stk,j.ok.exf,j.ok.bs,j.ok.bsz,j.ok.noex,j.ok.exfs,j.ok.funs,j.ok.frf⟩,j.os,j.bare,j.base,j.loc,j.cell,j.free,j.freeC,j.pin,j.hok,j.len⟩
 refine wpAny_mono (ht [] s1 (S5 N vs) H _ I hq) (λfl s' X=>?_) λe s' X=>False.elim X
 have U:∀{R:St} {H':Hp} {v:V} {u:Value},Inv (cxU P w K mg base N qual (B1 st) f cdv A outer s H E) [] R H' s'->RelV v u->Q v H'->CE outer P w H s Q u s':=
  λ{R H' v u} J rv q=>⟨v,H',J.os,J.bare,J.base,J.hok,rv,q⟩
 cases fl with
 | ret u=>
  obtain⟨v,R,H',J,rv,q⟩:=X;exact U J rv q
 | next=>
  obtain⟨R,H',J,q⟩:=X;exact U (v:=V.non) (u:=Value.none) J rfl q
 | brk=>
  obtain⟨_,_,_,q⟩:=X;exact False.elim q
 | cont=>
  obtain⟨_,_,_,q⟩:=X;exact False.elim q
end
section
variable {X:Cx}{k:Nat}{f:Addr}{fd:FuncData}{ps:AH}{sp:Sp}{dvs:List V}{ds:AG}{x:Str}{p pos:Pos}{e:Expr}{es:AM}{t:TA}
theorem bA3 (F:bG8 X.prog X.w X.K X.mg X.base k f fd ps sp)(hr:RoomU k X.A)(P:Gl X x)(hm:X.mg x=some (.ref f))(hk:PySem.W.keepIn X.K (.ref f)=true)(R:Binds X.K fd ps ds)(D:Vals dvs ds)
  (N:PA X (e::es) t) (c:(x==("__debug__" : Str))=false:=by decide) (B:starEach (e::es) X.env=(false,eval e X.env)::starEach es X.env:=by rfl) (m:(backTo pos (starEach es X.env)).any (·.1)=false:=by rfl) :
  PE X (.Call (.Name x p) (e::es) [] pos) (aO9 sp dvs E0 t):=by
 refine⟨?_⟩;intro M s σ H Q I h;refine wpAny_Call_Name_kw (j7 I P hm ?_ c);refine PySem.W.callWith_K (h₀:=X.base) I.ok.mod.kin hk (thn (N pos M s σ H _ I h) λz U ⟨vs,J,j,r,q⟩=>⟨j.kIn,?_⟩) B m
 have Y:Vals (vs++dvs) (z++ds):=r.append D
 have hl:(z++ds).length=ps.length:=by rw[<- Y.length];exact F.len _ _ _ _ q
 refine wpAny_call (codeAny_mono (F.run X.A X.stack U J ⟨z,[]⟩ (z++ds) (vs++dvs) Q E0 hr j.env0 (R U z j.kIn hl) Y q) λr s' y=>?_)
 cases r with
 | error e=>exact False.elim y
 | ok fl=>
  cases fl with
  | ret u=>exact j.after y
  | next=>exact False.elim y
  | brk=>exact False.elim y
  | cont=>exact False.elim y
end
section
variable {prog:Program}{w:World}{A:Around}{E:Dy}{h:Heap}{g:Array GenState}{d:Drawn}{t:Nat}{os:OsState}{a C:Addr}{o:Obj}{K:Frag}
theorem cB9 (X:K.In h)(k:h.get? a=some o)(z:o.cls=.ref C)(y:PySem.W.subIn K (.ref C) (.type "object")=some true)(c:R (.ok (.ret (.ref C))) ⟨h,g,d,t,os⟩) :
  codeAny (model prog w) A (.call (.builtin "getset_descriptor.__get__") ⟨[.builtin "object.__class__",.ref a,.ref C],[]⟩) R ⟨h,g,d,t,os⟩:=by
 have e:(⟨h,g,d,t,os⟩:Shared).TypeIs (.builtin "object.__class__") "getset_descriptor" := F.typeOf_object_class
 have j:PySem.W.Looks (model prog w) h (isSubtype (.ref C) (.type (".".intercalate ("object.__class__".cutAt '.').dropLast))) true:=by
  rw[F.owner_object_class];exact PySem.W.looks_subIn X y
 refine codeAny_call_builtin F.slot_gs_get.plain F.entry_gs_get (F.slot_gs_get.check _ _ _ _ _ _ _ _ e (F.args_gs_get _ _ _) ?_)
 repeat (any_goals (first | assumption | (with_reducible refine wpAny_loadPart_at k ?_;rw[z]) | with_reducible refine j.at ?_ | wp_step))
 refine⟨Code.quiet_builtin _ (by decide +kernel),codeAny_builtin F.entry_object_class ?_⟩
 repeat (any_goals (first | assumption | (with_reducible refine wpAny_loadPart_at k ?_;rw[z]) | wp_step))
structure XAt (K:Frag)(C:Addr):Prop where
 ob:PySem.W.subIn K (.ref C) (.type "object")=some true
 be:PySem.W.subIn K (.ref C) (.type "BaseException")=some true
 ga:PySem.W.findIn K (.ref C) "__getattribute__" = some (some (.builtin "BaseException.__getattribute__"))
 gt:PySem.W.findIn K (.ref C) "__getattr__" = some none
 cl:PySem.W.findIn K (.ref C) "__class__" = some (some (.builtin "object.__class__"))
theorem bO7 (X:K.In h)(e:XAt K C)(z:h.get? a=some o)(y:o.cls=.ref C)(Y:Q (.done (.ret (.ref C))) ⟨h,g,d,t,os⟩) :
  wpAny (model prog w) A (Builtin.«object.__getattribute__» ⟨[.ref a,.str "__class__" tk],[]⟩) Q E ⟨h,g,d,t,os⟩:=by
 have j:(⟨h,g,d,t,os⟩:Shared).TypeIs (.builtin "object.__class__") "getset_descriptor" := F.typeOf_object_class
 have c:=F.typeOf_object_class
 have s:=F.slot_gs_get.lookup
 have m:=F.slot_gs_set.lookup
 have k:=PySem.W.looks_findIn (M:=model prog w) X e.cl
 repeat (any_goals (first | assumption | (with_reducible refine wpAny_loadPart_at z ?_;rw[y]) | with_reducible refine k.at ?_ | wp_step))
 refine cB9 X z y e.ob ?_
 repeat (any_goals (first | assumption | wp_step))
theorem cQ4 (X:K.In h)(z:XAt K C)(s:h.get? a=some o)(k:o.cls=.ref C)(c:Q () ⟨h,g,d,t,os⟩):wpAny M A (checkBuiltinCall "BaseException.__getattribute__" ⟨[.ref a,nameV],[]⟩) Q E ⟨h,g,d,t,os⟩:=by
 have j:builtinKind "BaseException.__getattribute__" = some .slot:=by decide +kernel
 have e:splitId "BaseException.__getattribute__" = some ("BaseException", "__getattribute__"):=by decide +kernel
 have y:=PySem.W.looks_subIn (M:=M) X z.be
 have m:=F.args_bexc_ga (.ref a) nameV
 simp only[checkBuiltinCall,j,e];refine Aa ?_
 .unfold isInstance
  repeat (first | (with_reducible refine wpAny_loadPart_at s ?_;rw[k]) | with_reducible refine y.at ?_ | wp_step)
  exact c
theorem cM6 {tk:Tok}{fill expr:Bool}{Q:Dy}(X:K.In h)(e:XAt K C)(z:h.get? a=some o)(y:o.cls=.ref C)(m:Q (.ref C) ⟨h,g,d,t,os⟩) :
  wpAny (model prog w) A (getAttrBy (.ref a) (.str "__class__" tk) fill expr) Q E ⟨h,g,d,t,os⟩:=by
 have f3:=F.excAttr_ValueError.ga.bind (.ref a)
 have c:(expr&&onTheHeap (Value.builtin "BaseException.__getattribute__"))=false:=by cases expr <;> rfl
 have k:(Value.builtin "BaseException.__getattribute__" == Value.builtin "object.__getattribute__")=false:=by decide +kernel
 have s:(onTheHeap (Value.ref C)&&Value.builtin "BaseException.__getattribute__" == Value.builtin "object.__getattribute__")=false:=by rw[k];rfl
 have j:=PySem.W.looks_findIn (M:=model prog w) X e.ga
 have L2:=PySem.W.looks_findIn (M:=model prog w) X e.gt
 repeat (any_goals (first | assumption | (with_reducible refine wpAny_loadPart_at z ?_;rw[y]) | with_reducible refine j.at ?_ | with_reducible refine L2.at ?_ | wp_step))
 refine codeAny_call_builtin F.excAttr_ValueError.ga.plain F.entry_bexc_ga (cQ4 X e z y (bO7 X e z y ?_))
 repeat (any_goals (first | assumption | wp_step))
theorem bY2 {Q:Option Value->Shared->Prop}(X:K.In h)(e:XAt K C)(z:h.get? a=some o)(y:o.cls=.ref C)(k:Q (some (.ref C)) ⟨h,g,d,t+1,os⟩):wpAny (model prog w) A (getAttr? (.ref a) "__class__") Q E ⟨h,g,d,t,os⟩:=by
 unfold getAttr? getAttrBy?
 repeat (any_goals (first | assumption | with_reducible apply cM6 X e z y | wp_step))
theorem aT5 (X:K.In h)(R:XAt K C)(M:h.get? a=some o)(J:o.cls=.ref C)(Y:PySem.W.Looks (model prog w) h (typeOf c) (.type "type"))(s:PySem.W.Looks (model prog w) h (isType c) true)(j:PySem.W.Looks (model prog w) h (isType (.ref C)) true)
  (y:PySem.W.Looks (model prog w) h (isSubtype (.ref C) c) b) (m:(Value.ref C==c)=true->b=true) (z:∀tk',Q (.done (.ret (.bool b))) ⟨h,g,d,tk',os⟩) :
  wpAny (model prog w) A (Builtin.«isinstance.nested» ⟨[.ref a,c,.int dep tk],[]⟩) Q E ⟨h,g,d,t,os⟩:=by
 have U:PySem.W.Looks (model prog w) h (typeOf (.ref a)) (.ref C):=by
  intro D B F P k q;unfold typeOf;exact Aa (wpAny_loadPart (k _ _ M) (Ab (by rw[J];exact q)))
 have N:PySem.W.Looks (model prog w) h (isInstance (.ref a) c) b:=U.andThen y
 unfold Builtin.«isinstance.nested»;refine Aa (U.at ?_);by_cases e:(Value.ref C==c)=true
 .have:=m e
  subst this;rw[Ae e];refine Aa (wpAny_rule ?_);exact Ab (z t)
 .rw[Ac e];refine Aa (Y.at ?_);rw[Ae (by decide)]
  k_delta "plainIsInstance"
  refine Aa (Aa (s.at ?_));simp only[Bool.not_true,Cd,if_false];refine Aa (N.at ?_);cases b with
  | true=>
   simp only[if_true];first
    | exact Ab (Ab (z _))
    | exact Ab (z _)
    | exact Aa (Ab (Ab (z _)))
  | false=>
   simp only[Cd,if_false];refine Aa (bY2 X R M J ?_);refine Aa (j.at ?_);simp only[Bool.not_true,Cd,if_false];refine Aa (wpAny_rule ?_);refine y.at ?_;first
    | exact Ab (z _)
    | exact Ab (Ab (z _))
    | exact Aa (Ab (Ab (z _)))
end
structure XCl (K:Frag)(D:Addr):Prop where
 cls:(PySem.W.clsIn K D).isSome=true
 ty:PySem.W.typeIn K (.ref D)=some (.type "type")
theorem XCl.isType {K:Frag}{D:Addr}(x:XCl K D){M:Model}{h:Heap}(X:K.In h):PySem.W.Looks M h (PySem.isType (.ref D)) true:=by
 have e:=x.cls
 unfold PySem.W.clsIn at e;split at e
 .rename_i c' d' cd' sl' ho;intro y z w j k q;unfold PySem.isType loadHead;exact Aa (wpAny_loadPart (k _ _ (X _ _ ho)) (Ab q))
 .cases e
def XIs (K:Frag)(C:Addr):V->Bool->Prop
 | .ref D,b=>XCl K D/\PySem.W.subIn K (.ref C) (.ref D)=some b/\(D=C->b=true)
 | .ty T,b=>typeOf (.type T)=pure (.type "type")/\PySem.W.subIn K (.ref C) (.type T)=some b
 | _,_=>False
section
variable {prog:Program}{w:World}{A:Around}{E:Dy}{a C:Addr}{K:Frag}
def aU9 (K:Frag)(a C:Addr)(s:Shared):Prop:=K.In s.heap/\∃o,s.heap.get? a=some o/\o.cls=.ref C
theorem aP9 (m:XAt K C)(Y:XCl K C)(r:RelV y u)(j:XIs K C y b):Answers (aU9 K a C) (.ref a) u b:=λN B=>by
 intro prog w A R s Q;obtain⟨⟨X,o,M,U⟩,J⟩:=Q;obtain⟨h,g,d,t,os⟩:=s;cases y with
 | ref D=>
  cases r
  obtain⟨k,c,F⟩:=j;exact aT5 X m M U (PySem.W.looks_typeIn X k.ty) (k.isType X) (Y.isType X) (PySem.W.looks_subIn X c) (λe=>F (Value.ref.inj (beq_iff_eq.mp e)).symm) λz=>J z
 | ty T=>
  cases r
  obtain⟨k,c⟩:=j;exact aT5 X m M U (PySem.W.Looks.of_pure k) (PySem.W.Looks.of_pure rfl) (Y.isType X) (PySem.W.looks_subIn X c) (λe=>by cases beq_iff_eq.mp e) λz=>J z
 | _=>exact False.elim j
theorem cD5 {cs:AG}{vs:List Bool}{tp:Addr}{tk:Tok}{s:Shared}{Q:Fin->Shared->Prop}(R:aU9 K a C s)(j:IsTup s.heap tp cs.toArray)(e:tp≠C)(N:AnswersAll (aU9 K a C) (.ref a) cs vs)
  (Y:∀tk',Q (.done (.ret (.bool (vs.any id)))) {s with toks:=tk'}):wpAny (model prog w) A (Builtin.«isinstance.nested» ⟨[.ref a,.ref tp,.int 0 tk],[]⟩) Q E s:=by
 obtain⟨X,o,J,c⟩:=R;obtain⟨h,g,d,t,os⟩:=s;obtain⟨B,D,y,n,k⟩:=j;have M:(⟨h,g,d,t,os⟩:Shared).TypeIs (.ref tp) "tuple" := ⟨_,D,y⟩;have f1:=F.isi_sub_tuple;have m:(Value.ref C==Value.ref tp)=false:=by
  cases q:(Value.ref C==Value.ref tp) with
  | false=>rfl
  | true=>exact absurd (Value.ref.inj (beq_iff_eq.mp q)).symm e
 repeat (any_goals (first | assumption | (with_reducible refine wpAny_loadPart_at J ?_;rw[c]) | wp_step))
 rw[k];refine Ab ?_;refine Aa ?_;simp only[Option.getD_some];rw[<- Array.forIn_toList,List.toList_toArray];refine isinstance_items (dep:=0) (P:=aU9 K a C) (λs tk z=>z) cs vs _ _ N ⟨X,o,J,c⟩ λtk'=>?_
 cases U:vs.any id with
 | true=>
  simp only[if_true]
  repeat (any_goals (first | assumption | wp_step))
  exact U▸Y tk'
 | false=>
  simp only[Cd,if_false]
  repeat (any_goals (first | assumption | wp_step))
  exact U▸Y tk'
end
def dL4 (K:Frag)(C:Addr):List V->List Bool->Prop
 | [],[]=>True
 | y::ys,b::bs=>XIs K C y b/\dL4 K C ys bs
 | _,_=>False
theorem bV8 {K:Frag}{a C:Addr}(e:XAt K C)(w:XCl K C):∀{ys:List V} {us:AG} {bs:List Bool},Vals ys us->dL4 K C ys bs->AnswersAll (aU9 K a C) (.ref a) us bs
 | [],_,[],.nil,_=>trivial
 | y::ys,_,b::bs,.cons r t,⟨h1,h2⟩=>⟨aP9 e w r h1,bV8 e w t h2⟩
 | [],_,_::_,.nil,z=>z.elim
 | _::_,_,[],.cons _ _,z=>z.elim
end L2
namespace LV
open PySem PySem.Spec PyProof.Rows L2
section
variable {K:Frag}{B:Hp}{ρ ρ':List Sl}{m:Bool}{t ta tb:TE}{d d':PyData}{ds es:AF}
def WB (K:Frag)(B:Hp)(t:TS)(ρ:List Sl)(R:AE):Prop:=
 ∀(S:Addr->Prop) (D:aZ5) (σ:L2.St) (H:Hp) (o:Nat->AL),Env K S B H σ ρ o->Sat K S B R D->t D σ H
theorem W.wb {t:TS}{R:AE}(h:W K t ρ R):WB K B t ρ R:=λS D σ H o I s=>h S B D σ H o I s
theorem bA5 {t u:TS}{R:AE}(h:WB K B t ρ {R with nx:=λρ'=>WB K B u ρ' R}):WB K B (dT8 t u) ρ R:=λS D σ H o I s=>
 h S {D with nx:=u D} σ H o I ⟨λρ' k e z y w=>w S D k e z y s,s.rt,s.rl,s.bk,s.ct⟩
theorem dT1 {c:TT}{t u:TS}{b:Bool}{R:AE}(h:T K c ρ b)(h1:b=true->WB K B t ρ R)(w:b=false->WB K B u ρ R):WB K B (cW1 c t u) ρ R:=λS D σ H o I s=>h S B σ H o I _ λe y=>by
 cases b with
 | true=>exact h1 rfl S D σ e o (I.grow y) s
 | false=>exact w rfl S D σ e o (I.grow y) s
theorem eC5 {t:TS}{N:AH}{vs:List V}{S:Addr->Prop}{H:Hp}{Q:VK}(j:∀b,S b->∃u:HM,H b=some u.ho)(r:Reps K (hid S H) vs ds)(w:WB K H t (sl0 N.length ds) {nx:=λ_=>d=.none,rt:=λe=>e=d})
  (k:∀v H',Same H H'->Rep K (hid S H') v d->Q v H'):t {nx:=λ_ H'=>Q .non H',rt:=Q} (L2.S5 N vs) H:=
 w S _ _ H _ (env0 j r) ⟨λρ' X H' Y y z=>k _ H' y.base (by rw[z];exact .non),λv e H' s c z=>k v H' s (by rw[<- z];exact c),λ_ _ _ _ _ _ _ _ z=>z.elim,λ_ _ _ _ _ z=>z.elim,λ_ _ _ _ _ z=>z.elim⟩
theorem dI9 {t:TS}{N:AH}{vs:List V}{S:Addr->Prop}{H:Hp}{Q:VK}(y:∀b,S b->∃u:HM,H b=some u.ho)(r:Reps K (hid S H) vs ds)(w:WB K H t (sl0 N.length ds) {nx:=λ_=>False}):t {nx:=λ_ H'=>Q .non H',rt:=Q} (L2.S5 N vs) H:=
 w S _ _ H _ (env0 y r) ⟨λρ' Y H' j k z=>z.elim,λv e H' s c z=>z.elim,λ_ _ _ _ _ _ _ _ z=>z.elim,λ_ _ _ _ _ z=>z.elim,λ_ _ _ _ _ z=>z.elim⟩
theorem Env.unset {S:Addr->Prop}{H:Hp}{σ:L2.St}{o:Nat->AL}(I:Env K S B H σ ρ o)(j:Nat):Env K S B H (σ.set j none) (ρ.set j .no) o:=by
 have at_:∀{i:Nat} {x:Sl},x≠.no->(ρ.set j .no)[i]? = some x->j≠i/\ρ[i]? = some x:=λ{i x} w h=>by
  rw[List.getElem?_set]at h;by_cases c:j=i
  .rw[Ae c]at h;split at h
   .exact absurd (Ab4 h).symm w
   .cases h
  .rw[Ac c]at h;exact⟨c,h⟩
 have no:∀{x:Sl},x.os=true->x≠.no:=λh e=>by rw[e]at h;cases h
 have Y:∀b,D6 (ρ.set j .no) o S b->D6 ρ o S b:=λb z=>aQ1 (x:=.no) rfl z
 have g:Same (hid (D6 ρ o S) H) (hid (D6 (ρ.set j .no) o S) H):=F4 (L2.Same.rf _) λb z _=>Y b z
 have s:∀{i:Nat},j≠i->(σ.set j none)[i]? = σ[i]? := λc=>Ad0 c
 refine⟨by simpa using I.len,I.base,I.sl,λi x h w b R=>I.new i x (at_ (no w) h).2 w b R,λi k x y h1 J X U b M N=>I.inj i k x y (at_ (no X) h1).2 (at_ (no U) J).2 X U b M N,λi ds h=>?_,λi d h=>?_,λi d h=>?_,λi t h=>?_⟩
 .obtain⟨c,h⟩:=at_ (λe=>by cases e) h
  obtain⟨p,Q,a,xs,b,r⟩:=I.own i ds h;exact⟨p,Q,by rw[s c];exact a,xs,b,r.mono g⟩
 .obtain⟨c,h⟩:=at_ (λe=>by cases e) h
  obtain⟨u,a,b⟩:=I.val i d h;exact⟨u,by rw[s c];exact a,b.mono g⟩
 .obtain⟨c,h⟩:=at_ (λe=>by cases e) h
  obtain⟨u,a,b⟩:=I.bor i d h;exact⟨u,by rw[s c];exact a,b⟩
 .obtain⟨c,h⟩:=at_ (λe=>by cases e) h
  obtain⟨n,u,a,b⟩:=I.tr i t h;exact⟨n,u,by rw[s c];exact a,b.mono g (L2.Same.rf _)⟩
end
end LV
namespace L2
open PySem PySem.Spec PyProof.Rows
abbrev KT (H:Hp):List (List Key×V)->List (List Key×Addr×Value)->Prop:=Paired λp q=>p.1=q.1/\H q.2.1=some (.tup (p.1.map kV))/\RelV p.2 q.2.2
abbrev VV:List (V×V)->List (Value×Value)->Prop:=Paired λp q=>RelV p.1 q.1/\RelV p.2 q.2
abbrev KvR:List (AD×Addr×V)->List (AD×Addr×Value)->Prop:=Paired (λp q=>p.1=q.1/\p.2.1=q.2.1/\RelV p.2.2 q.2.2)
def atK (kv:List (AD×Addr×V))(k:AD):Option V:=(kv.find? λx=>decide (x.1=k)).map (·.2.2)
def aZ4 (kv:List (AD×Addr×V))(k:AD)(b:Addr)(v:V):List (AD×Addr×V):=
 if(atK kv k).isSome then kv.map (λx=>if x.1=k then(x.1,x.2.1,v) else x) else kv++[(k,b,v)]
theorem bJ3 {o:Option V}{u:Option Value}(r:RelO o u):o.isSome=u.isSome:=by
 cases o <;> cases u <;> first | rfl | exact r.elim
theorem KvR.at_ {kv:List (AD×Addr×V)}{xs:List (AD×Addr×Value)}(r:KvR kv xs)(k:AD):RelO (atK kv k) ((atKey xs k).map (·.2)):=by
 induction r with
 | nil=>exact True.intro
 | @cons p q ps qs h t ih=>
  by_cases e:p.1=k
  .have e':q.1=k:=h.1.symm.trans e
   simpa[atK,atKey,Dn,e,e',RelO]using h.2.2
  .have e':¬q.1=k:=λz=>e (h.1.trans z)
   simpa[atK,atKey,Dn,e,e',RelO]using ih
theorem KvR.repl {kv:List (AD×Addr×V)}{xs:List (AD×Addr×Value)}(r:KvR kv xs)(k:AD){y:V}{u:Value}(w:RelV y u):KvR (kv.map λx=>if x.1=k then(x.1,x.2.1,y) else x) (xs.map (putAt k u)):=by
 induction r with
 | nil=>exact .nil
 | @cons p q ps qs h t ih=>
  rw[Ac7,Ac7];refine .cons ?_ ih;by_cases e:p.1=k
  .have e':q.1=k:=h.1.symm.trans e
   rw[Ae e,putAt,Ae e'];exact⟨h.1.trans rfl |>.trans (by simp[e']),h.2.1,w⟩
  .have e':¬q.1=k:=λz=>e (h.1.trans z)
   rw[Ac e,putAt,Ac e'];exact h
theorem KvR.snoc (r:KvR kv xs)(h:p.1=q.1/\p.2.1=q.2.1/\RelV p.2.2 q.2.2):KvR (kv++[p]) (xs++[q]):=by
 induction r with
 | nil=>exact .cons h .nil
 | cons a _ e=>exact .cons a e
theorem KvR.put (r:KvR kv xs)(k:AD)(b:Addr)(w:RelV y u):KvR (aZ4 kv k b y) (storedH xs k b u):=by
 have e:=bJ3 (KvR.at_ r k)
 rw[Option.isSome_map]at e;unfold aZ4 storedH;rw[e];split
 .exact KvR.repl r k w
 .exact KvR.snoc r ⟨rfl,rfl,w⟩
theorem KvR.mem (r:KvR kv xs)(h:x∈xs):∃y∈kv,y.1=x.1/\y.2.1=x.2.1:=by
 induction r with
 | nil=>cases h
 | @cons p q ps qs a _ ih=>
  rcases Aa1.mp h with rfl | h
  .exact⟨p,by simp,a.1,a.2.1⟩
  .obtain⟨y,w,e⟩:=ih h;exact⟨y,by simp[w],e⟩
theorem dE6 (kv:List (AD×Addr×V))(k:AD)(b:Addr)(v:V):(aZ4 kv k b v).length<=kv.length+1:=by
 unfold aZ4;split <;> simp
theorem bJ0 {P:Program}{w:World}:∀{ks:AD} {us:AG},Vals (ks.map V.int) us->ItemsAre (intKind P w) ks us
 | [],_,r=>by rw[Dg]at r;cases r;exact .nil
 | k::ks,_,r=>by
  rw[Ac7]at r;cases r with
  | cons h t=>
   obtain⟨e,rfl⟩:=h;exact .cons (by show Value.isInt k (Value.int k e)=true;simp[Value.isInt]) (bJ0 t)
section
theorem bP2 (I:Inv X aA σ H s)(h:SqT X.K H b (ks.map V.int)):(tupleKind (intKind X.prog X.w)).is s.heap ks b:=by
 obtain⟨its,r,⟨o,h1,e,⟨n,y⟩,_⟩,_⟩:=I.tuple0 h;exact⟨o,its.toArray,n,h1,e,y,by simpa using bJ0 r⟩
def cO2 (K:Frag)(H:Hp)(kv:List (AD×Addr×V)):Prop:=∀z∈kv,SqT K H z.2.1 (z.1.map V.int)
theorem dC2 (I:Inv X aA σ H s)(e:H a=some (dicO a kv))(R:cO2 X.K H kv):∃xs,KvR kv xs/\kv.length<=sizeLine/\(a==sysModules)=false/\s.heap.DictOfH (tupleKind (intKind X.prog X.w)) a xs:=by
 obtain⟨⟨xs,r,z,N,o,m,c,h1,Y,U,J,M⟩,_⟩:=(show ObjOk X.prog X.w H s.heap a (dicO a kv) from I.hok a _ e)
 refine⟨xs,r,z,N,o,m,c,h1,Y,U,J,λx Q=>?_,M⟩
 obtain⟨y,D,k,j⟩:=KvR.mem r Q
 have:=bP2 I (R y D)
 rw[k,j]at this;exact this
def cZ4 (K:Frag)(neg:Bool):R2:=λx y H Q=>∃b a ks kv,x=.ref b/\SqT K H b (ks.map V.int)/\y=.ref a/\H a=some (dicO a kv)/\cO2 K H kv/\Q (.bl (xor neg (atK kv ks).isSome)) H
theorem bY0 (K:Frag)(J:Room k X.A)(h:X.K=K:=by rfl):OpR X (compareOp .NotIn) (cZ4 K true):=by
 subst h;intro D s σ H x y v u Q I N R ⟨b,a,M,kv,ex,m,j,c,U,q⟩;subst ex j;cases (show v=Value.ref b from N)
 cases (show u=Value.ref a from R)
 obtain⟨xs,r,z,Y,w⟩:=dC2 I c U;refine wpAny_notIn_heap (tupleKind_room_in1 (by have:=J.un;lia)) (bP2 I m) Y w ?_
 have e:=bJ3 (KvR.at_ r M)
 rw[Option.isSome_map]at e;rw[<- e];exact⟨.bl _,H,I.tok _,rfl,by simpa using q⟩
end
theorem cF0 {P:Program}{w:World}{H':Hp}{h':Heap}{a:Addr}{kv:List (AD×Addr×V)}{xs:List (AD×Addr×Value)}(r:KvR kv xs)(z:kv.length<=sizeLine)(s:(a==sysModules)=false){o:Obj}{es:Array DictEntry}{ep:Nat}(h1:h'.get? a=some o)(e:o.ExactDict)(y:o.data=.dict es ep)
  (j:es.toList=xs.map dEnt) (c:(xs.map (·.1)).Nodup):ObjOk P w H' h' a (dicO a kv):=
 ⟨⟨xs,r,z,s,o,es,ep,h1,e,y,j,c⟩,⟨o,h1⟩,λm Y ⟨xs,r,z,s,o,es,ep,h1,e,y,j,c⟩ k=>⟨xs,r,z,s,o,es,ep,k _ h1,e,y,j,c⟩⟩
def cE5:TE:=λ_ H Q=>∀p,H p=none->Q (.ref p) (upd H p (dicO p []))
theorem _root_.L2.Inv.big' {X:Cx}{aA:Dz}{σ:St}{H:Hp}{s:Shared}(I:Inv X aA σ H s):sysModules<s.heap.objs.size:=by
 have h:mainGlobals<s.heap.objs.size:=(I.mod.glob.keeps I.bk).lt
 exact Nat.lt_trans (by decide) h
theorem cM4:PE X (.Dict [] [] pos) cE5:=⟨λe s σ H Q I h=>
 wpAny_Dict_empty ⟨.ref s.heap.objs.size,_,I.laid (a:=s.heap.objs.size) (o:=dicO s.heap.objs.size []) (t':=s.toks) (λ_ _ q=>Aa6 _ q) (Aa7 _)
  (cF0 .nil (Bv _) (beq_eq_false_iff_ne.mpr (Ne.symm (Ab9 I.big'))) (Ac3 _ rfl) ⟨rfl,rfl,rfl⟩ rfl rfl List.nodup_nil),rfl,h _ (I.hok.fresh (Aa7 _))⟩⟩
def cK0 (K:Frag)(td ty tv:TE):TS:=λD σ H=>tv σ H λv H1=>td σ H1 λx H2=>ty σ H2 λy H3=>∃a b ks kv,x=.ref a/\y=.ref b/\SqT K H3 b (ks.map V.int)/\H3 a=some (dicO a kv)/\cO2 K H3 kv/\kv.length<sizeLine/\D.nx σ (upd H3 a (dicO a (aZ4 kv ks b v)))
theorem cP8 {X:Cx}{o i value:Expr}{pos pos':Pos}{td ty tv:TE}(K:Frag){k:Nat}(hr:Room k X.A)(ho:PE X o td)(hi:PE X i ty)(hv:PE X value tv)(hs:swapsWith value (some (.Subscript o i pos')) pos.line X.env=pure false:=by rfl)(h:X.K=K:=by rfl) :
  PS X (.Assign [.Subscript o i pos'] value pos) (cK0 K td ty tv):=by
 subst h;refine⟨?_⟩;intro m s σ H D I h;refine wpAny_Assign_Subscript (thn (hv m s σ H _ I h) λr s1 ⟨v,Q,B,rv,q1⟩=>thn (ho m s1 σ Q _ B q1) λu s2 ⟨x,F,P,rx,q2⟩=>thn (hi m s2 σ F _ P q2) λiv s3 pz=>?_) hs
 obtain⟨y,H3,j,ry,a,b,R,kv,ex,ey,U,M,hk,hl,q3⟩:=pz;subst ex ey;obtain rfl:u=Value.ref a:=rx;obtain rfl:iv=Value.ref b:=ry;obtain⟨xs,w,z,hd,dd⟩:=dC2 j M hk;have hz:xs.length<=sizeLine:=by rw[<- Paired.length w];exact z
 refine wpAny_setItem_heap (hsz:=hz) (tupleKind_room_in1 (by have:=hr.un;lia)) (bP2 j U) dd λh' Y J=>⟨σ,_,?_,q3⟩
 obtain⟨q,es,ep,N,h2,h3,h4,_,h5⟩:=Y;have hp:=dE6 kv R b v;exact j.write (x:=a) (e:=a) (by rw[M];exact True.intro) (.inl rfl) (λc q U z=>(J.2 c U).trans z) ⟨q,N⟩ (cF0 (KvR.put w R b rv) (by lia) hd N h2 h3 h4 h5)
end L2
namespace LV
open PySem L2
section
variable {K:Frag}{ρ:List Sl}{m:Bool}{ta tb tv:TE}{d:PyData}{ks:AD}{kvs:List (AD×PyData)}
def aI8 (kvs:List (AD×PyData))(k:AD)(d:PyData):List (AD×PyData):=
 if kvs.any (λx=>decide (x.1=k)) then kvs.map (λx=>if x.1=k then(x.1,d) else x) else kvs++[(k,d)]
theorem aT1 {Z:Hp}:∀{kv:List (AD×Addr×V)} {kvs:List (AD×PyData)},kv.map (·.1)=kvs.map (·.1)->Reps K Z (kv.map λx=>V.ref x.2.1) (kvs.map λx=>PyData.tuple (x.1.map PyData.int))->cO2 K Z kv
 | [],_,_,_=>λz hz=>by cases hz
 | x::kv,[],e,_=>by simp at e
 | x::kv,y::kvs,e,r=>by
  simp only[Ac7,Cc]at e r;cases r with
  | cons a b=>
   intro z hz;rcases Aa1.mp hz with rfl | hz
   .cases a with
    | tup s q=>rw[e.1,<- Reps.ints q];exact s
   .exact aT1 e.2 b z hz
theorem bH5 (h:cO2 K H kv)(s:Same H H'):cO2 K H' kv:=λz e=>F6 s (h z e)
theorem bO8:∀{kv:List (AD×Addr×V)} {kvs:List (AD×PyData)},kv.map (·.1)=kvs.map (·.1)->(atK kv ks).isSome=kvs.any λx=>decide (x.1=ks)
 | [],[],_=>rfl
 | [],_::_,e=>by simp at e
 | _::_,[],e=>by simp at e
 | x::kv,y::kvs,e=>by
  simp only[Ac7,Cc]at e;have ih:=bO8 e.2;unfold atK at ih ⊢;rw[Dn,List.any_cons,e.1];by_cases h:y.1=ks
  .simp[h]
  .simp[h];simpa using ih
theorem cD8:EFT K cE5 ρ (.dic []):=λS B σ H o I Q q p hp=>
 q (.ref p) [p] _ (D4 hp) (λb e=>by rw[Ad8.mp e];exact hp) (by simp) (.dic B6 rfl .nil .nil)
theorem dK9 (z:E K false ta ρ (.tuple (ks.map PyData.int)))(h:ρ[i]? = some (.tr (.dic kvs))):E K m (tOp (cZ4 K neg) ta (F0 i)) ρ (.bool (xor neg (kvs.any λx=>decide (x.1=ks)))):=E.bor (E.imm (m:=false) λS B σ H o I Q q=>z S B σ H o I _ λv w y j=>by
 obtain⟨_,u,a,b⟩:=(I.grow y).tr i _ h;refine⟨u,a,?_⟩;generalize o i=L at b;cases b with
 | @dic p kv _ e k r2 r3=>
  cases j with
  | @tup b xs _ s r=>
   rw[Reps.ints r]at s;refine⟨b,p,ks,kv,rfl,s,rfl,e,bH5 (aT1 k r2) T5,?_⟩;rw[bO8 k];exact q _ w y (.bl _))
theorem bH8 {Z:Hp}{v:V}(s:Rep K Z v d):∀{kv:List (AD×Addr×V)} {kvs:List (AD×PyData)},kv.map (·.1)=kvs.map (·.1)->Reps K Z (kv.map λx=>V.ref x.2.1) (kvs.map λx=>PyData.tuple (x.1.map PyData.int))->Reps K Z (kv.map (·.2.2)) (kvs.map (·.2)) ->
  (kv.map λx=>if x.1=ks then(x.1,x.2.1,v) else x).map (·.1)=(kvs.map λx=>if x.1=ks then(x.1,d) else x).map (·.1) /\
  Reps K Z ((kv.map λx=>if x.1=ks then(x.1,x.2.1,v) else x).map λx=>V.ref x.2.1) ((kvs.map λx=>if x.1=ks then(x.1,d) else x).map λx=>PyData.tuple (x.1.map PyData.int)) /\
  Reps K Z ((kv.map λx=>if x.1=ks then(x.1,x.2.1,v) else x).map (·.2.2)) ((kvs.map λx=>if x.1=ks then(x.1,d) else x).map (·.2))
 | [],[],_,_,_=>⟨rfl,.nil,.nil⟩
 | [],_::_,e,_,_=>by simp at e
 | _::_,[],e,_,_=>by simp at e
 | x::kv,y::kvs,e,r1,r2=>by
  simp only[Ac7,Cc]at e r1 r2;cases r1 with
  | cons k X=>
   cases r2 with
   | cons Y U=>
    obtain⟨h1,j,c⟩:=bH8 s e.2 X U;simp only[Ac7];by_cases h:y.1=ks
    .have w:x.1=ks:=e.1.trans h
     rw[Ae h,Ae w];exact⟨by rw[h1];simp[h,w],.cons k j,.cons s c⟩
    .have w:¬x.1=ks:=λz=>h (e.1.symm.trans z)
     rw[Ac h,Ac w];exact⟨by rw[h1,e.1],.cons k j,.cons Y c⟩
theorem dB8 {Z:Hp}{v:V}{b:Addr}{kv:List (AD×Addr×V)}(z:Rep K Z v d)(rb:Rep K Z (.ref b) (.tuple (ks.map PyData.int)))(e:kv.map (·.1)=kvs.map (·.1))(y:Reps K Z (kv.map λx=>V.ref x.2.1) (kvs.map λx=>PyData.tuple (x.1.map PyData.int)))(w:Reps K Z (kv.map (·.2.2)) (kvs.map (·.2))) :
  (aZ4 kv ks b v).map (·.1)=(aI8 kvs ks d).map (·.1)/\Reps K Z ((aZ4 kv ks b v).map λx=>V.ref x.2.1) ((aI8 kvs ks d).map λx=>PyData.tuple (x.1.map PyData.int))/\Reps K Z ((aZ4 kv ks b v).map (·.2.2)) ((aI8 kvs ks d).map (·.2)):=by
 unfold aZ4 aI8;rw[bO8 e];split
 .exact bH8 z e y w
 .simp only[Ad2,Ac7,Dg];exact⟨by rw[e],y.append (.cons rb .nil),w.append (.cons z .nil)⟩
theorem dD9 {i:Nat}{R:AE}(hv:E K true tv ρ d)(hi:ρ[i]? = some (.tr (.dic kvs)))(hk:E K true tb ρ (.tuple (ks.map PyData.int)))(hl:kvs.length<sizeLine)(hn:R.nx (ρ.set i (.tr (.dic (aI8 kvs ks d)))))(nb:V7 ρ=true:=by rfl) :
  W K (cK0 K (F0 i) tb tv) ρ R:=λS B D σ H o I s=>hv S B σ H o I _ λv H1 M rv=>by
 obtain⟨Y,u,a,b⟩:=(I.grow M).tr i _ hi;refine⟨u,a,hk S B σ H1 o (I.grow M) _ λy w s2 ry=>?_⟩
 have Q:=(I.grow M).grow s2
 obtain⟨Y,u2,F,b2⟩:=Q.tr i _ hi;rw[a]at F;cases F;have j:i<ρ.length:=(Ab0.mp hi).1;generalize ho:o i=L at b2;cases b2 with
 | @dic p kv _ e k r2 r3=>
  cases ry with
  | @tup q xs _ sq r=>
   have hq:=Reps.ints r
   have N:SqT K w q (ks.map V.int):=by rw[<- hq];exact F6 T5 sq
   have len:kv.length=kvs.length:=by have:=congrArg List.length k;simpa using this
   refine⟨p,q,ks,kv,rfl,rfl,N,e,bH5 (aT1 k r2) T5,by lia,?_⟩
   have J:Rep K (hid (D6 ρ o S) w) v d:=rv.mono (aW5 (m:=true) s2)
   obtain⟨k',X,U⟩:=dB8 J (b:=q) (.tup (by rw[<- hq];exact sq) (aG2 ks)) k r2 r3
   have oi:cN1 ρ o i p:=⟨_,hi,rfl,by rw[ho];simp⟩
   have os:D6 ρ o S p:=.inr ⟨i,_,hi,rfl,by rw[ho];simp⟩
   have g:Same (hid (D6 ρ o S) w) (hid (λb=>D6 ρ o S b\/b∈[p]) (upd w p (dicO p (aZ4 kv ks q v)))):=λc y z=>by
    obtain⟨q1,q2⟩:=hid_some.mp z;refine hid_some.mpr ⟨λz=>q1 (z.elim id λz=>by rw[Ad8.mp z];exact os),?_⟩
    rw[B4 (λz=>q1 (by rw[z];exact os))];exact q2
   have P:=Q.put (H':=upd w p (dicO p (aZ4 kv ks q v))) (v:=.ref p) (x:=.tr (.dic (aI8 kvs ks d))) (L:=[p]) i j (λb=>b=p) (λb z=>by rw[z];exact oi) (λb y q z=>by rw[B4 z];exact q) (λb z=>.inl (by rw[Ad8.mp z];exact oi))
    (.inr ⟨_,rfl,by simp,.dic B6 k' (X.mono g) (U.mono g)⟩) (.inr (N7 nb))
   rw[bA4 a]at P;exact s.nx _ _ _ _ P hn
end
section
theorem dX5 {i:Nat}{R:AE}{x y:Int}(hi:ρ[i]? = some (.val (.int x)))(h:E K true t ρ (.int y))(k:R.nx (ρ.set i (.val (.int (x+y))))):W K (eD7 i t (ipI λi j=>i+j)) ρ R:=λS B D σ H o I s=>by
 obtain⟨v,w,z⟩:=I.val i _ hi;cases z;refine⟨_,w,h S B σ H o I _ λv e c r=>?_⟩
 cases r
 exact⟨_,_,rfl,rfl,s.nx _ _ e o ((I.grow c).set (m:=true) i (d:=.int (x+y)) (.int _)) k⟩
end
theorem dG1 (kvs:List (AD×PyData))(k y:AD)(d:PyData):(aI8 kvs k d).any (λx=>decide (x.1=y))=(kvs.any (λx=>decide (x.1=y))||decide (k=y)):=by
 unfold aI8;split
 .rename_i h;have e:(kvs.map λx=>if x.1=k then(x.1,d) else x).any (λx=>decide (x.1=y))=kvs.any (λx=>decide (x.1=y)):=by
   rw[List.any_map]
   congr 1
   funext x
   simp only[Function.comp];split <;> rfl
  rw[e];by_cases w:k=y
  .subst w;rw[h];rfl
  .simp[w]
 .simp
theorem cZ7 (kvs:List (AD×PyData))(k:AD)(d:PyData):(aI8 kvs k d).length<=kvs.length+1:=by
 unfold aI8;split <;> simp
end LV
namespace L2
open PySem PySem.Spec PyProof.Rows
end L2
namespace LV
open PySem L2
end LV
namespace PySem
open PySem.Spec PyProof.Rows PySem.W
end PySem
namespace L2
open PySem PySem.Spec PyProof.Rows PySem.W
end L2
namespace PySem
open PySem.Spec PyProof.Rows
end PySem
namespace L2
open PySem PySem.Spec PyProof.Rows PySem.W
end L2
namespace LV
open PySem L2
def adD (a:Addr):PyData:=.dict [(.int (a:Nat),.none),(.none,.none)]
end LV
namespace L2
open PySem PySem.Spec PyProof.Rows
section
variable {X:Cx}{CX:CXT}{ps:AH}{sp:Sp}{E:XK}{x:Str}{p pos:Pos}{e:Expr}{es:AM}{t:TA}{ok:Addr->Prop}
def dZ3 (i:Nat)(ok:Addr->Prop)(sp:Sp)(E:XK)(t:TA):TE:=λσ H Q=>∃f,σ[i]? = some (some (.ref f))/\ok f/\t σ H λvs H1=>sp (vs++[]) H1 Q E
theorem cY1 (i:Nat)(F:∀f,ok f->∃fd k,Room k X.A/\J0 X.prog X.w X.K X.mg X.base CX k f fd ps sp/\PySem.W.keepIn X.K (.ref f)=true/\Binds X.K fd ps [])(hx:n5 CX X E)(R:PA X (e::es) t)
  (M:X.N[i]? = some x:=by rfl) (hv:Vis X.env.scope x:=by first | exact Or.inl rfl | exact Or.inr (Or.inl rfl) | exact Or.inr (Or.inr rfl)) (B:(x==("__debug__" : Str))=false:=by decide)
  (y:(x==("__classdict__" : Str))=false:=by decide) (P:starEach (e::es) X.env=(false,eval e X.env)::starEach es X.env:=by rfl) (j:(backTo pos (starEach es X.env)).any (·.1)=false:=by rfl) :
  PE X (.Call (.Name x p) (e::es) [] pos) (dZ3 i ok sp E t):=by
 refine⟨?_⟩;rintro U s σ H Q I ⟨f,hf,z,h⟩;obtain⟨fd,k,hr,J,hk,D⟩:=F f z;refine wpAny_Call_Name_kw (thn ((dB0 M hv B y) U s σ H (λv c=>v=.ref f/\c=H) I ⟨_,hf,rfl,rfl⟩) λu s0 hq=>?_)
 obtain⟨v,c,m,r0,rfl,rfl⟩:=hq;cases r0;refine PySem.W.callWith_K (h₀:=X.base) m.ok.mod.kin hk (thn (R pos U s0 σ _ _ m h) λus s1 ⟨vs,H1,Y,r,q⟩=>⟨Y.kIn,?_⟩) P j
 exact cS2 J hr D .nil hx Y r q
end
end L2
namespace LV
open PySem PyProof.Rows L2
section
variable {K:Frag}{ρ:List Sl}{m:Bool}{d:PyData}{ds:AF}
theorem dM7 (y:Rep K H v (adD p)):v=.ref p:=by
 unfold adD at y;generalize e:(PyData.dict [(PyData.int (p:Nat),PyData.none),(.none,.none)])=d at y;cases y with
 | @adr a=>injection e with h;simp at h;exact congrArg V.ref (Int.ofNat_inj.mp h).symm
 | @dic _ _ kvs _ _ _ z=>injection e with h;rw[z]at h;cases kvs <;> simp[dN6]at h
 | _=>cases e
end
end LV
namespace L2
open PySem PySem.Spec PyProof.Rows
end L2
namespace LV
open PySem PySem.Spec PyProof.Rows L2
end LV
namespace PySem
open PySem.Spec PyProof.Rows PySem.W
end PySem
namespace L2
open PySem PySem.Spec PyProof.Rows PySem.W
end L2
namespace LV
open PySem L2
open Att PyProof.Rows PySem.Calls PySem.Spec PySem.W
end LV
namespace L2
open PySem PySem.Spec PySem.W PyProof.Rows
section
theorem Inv.view (I:Inv X aA σ H s)(e:H a=some o1)(U:∀x,o1≠.own x)(Y:∀xs,o1≠.tup xs)(J:∀ps,o1≠.tbl ps)(M:∀o u,X.H₀ a≠some (.frz o u))(k:ObjOk X.prog X.w (upd H a o2) s.heap a o2):Inv X aA σ (upd H a o2) s:=by
 have N:∀{b},H b=none->b≠a:=λ{b} z y=>by rw[y,e]at z;cases z
 have no:∀{b},H b=none->upd H a o2 b=none:=λ{b} z=>by rw[B4 (N z)];exact z
 refine⟨I.ok,I.os,I.bare,⟨I.base.keep,I.base.slot,λb o q n x=>no (I.base.free b o q n x),I.base.there,λb xs q=>?_,λb o u q=>?_,λb ps q=>?_⟩,I.loc,I.cell,no I.free,λx c q=>no (I.freeC x c q),λp hp=>?_,λb o q=>?_,I.len⟩
 .have z:=I.base.tups b xs q
  have:b≠a:=λy=>by rw[y,e]at z;exact Y xs (Ab4 z)
  rw[B4 this];exact z
 .have z:=I.base.frzs b o u q
  have:b≠a:=λy=>by rw[y]at q;exact M o u q
  rw[B4 this];exact z
 .obtain⟨j,z⟩:=I.base.tbls b ps q
  have:b≠a:=λy=>by rw[y,e]at z;exact J _ (Ab4 z)
  exact⟨j,by rw[B4 this];exact z⟩
 .obtain⟨R,Q,D⟩:=I.pin p hp;exact⟨R,no Q,D⟩
 .by_cases m:b=a
  .subst m;rw[B6]at q;cases q;exact k
  .rw[B4 m]at q;refine(I.hok b o q).stay (λc v _ z=>z) (λc z=>?_) λc xs z=>?_
   .have:c≠a:=λy=>by rw[y,e]at z;exact U _ (Ab4 z)
    rw[B4 this];exact z
   .have:c≠a:=λy=>by rw[y,e]at z;exact Y _ (Ab4 z)
    rw[B4 this];exact z
end
end L2
namespace L2
open PySem PySem.Spec PyProof.Rows
section
variable {prog:Program}{w:World}{A:Around}{E:Dy}{s:Shared}{K:Frag}{x C dx:Addr}{cd:ClassData}{vs:AJ}{sl:Array (Option Value)}{name:Str}{v:Value}{mA:Str->Option Value}{ns:AH}
theorem cR2 (X:K.In s.heap)(c:dD4 K C cd)(M:s.heap.get? x=some ⟨.ref C,some dx,.fields vs,sl⟩)(U:s.heap.Ns1 dx mA)(B:PySem.Within mA ns)(hsz:ns.length<sizeLine)(D:PySem.W.findIn K (.ref C) name=some none)
  (h:∀h',h'.Ns1 dx (λy=>if y=name then some v else mA y)->Heap.SameBut dx s.heap h'->Q () {s with heap:=h',toks:=s.toks+2}) :
  wpAny (model prog w) A (setAttr (.ref x) name v) Q E s:=by
 obtain⟨P,ho,hl⟩:=aR6 U;have J:PySem.W.InstAt s.heap x ⟨.ref C,some dx,.fields vs,sl⟩ C (some P):=⟨M,rfl,rfl,ho⟩;refine PySem.W.set_plain X J c.sa ?_;have ty:PySem.W.Looks (model prog w) s.heap (isInstance (.ref x) (.type "object")) true:=J.type.andThen (PySem.W.looks_mroIn X c.obj);have tw:PySem.W.Looks (model prog w) s.heap (mroOf (.ref C)) cd.mro:=(PySem.W.looks_clsIn X c.cls).andThen .now;have z:=PySem.F.store_object;refine codeAny_call_builtin z.slot.plain z.entry ?_;refine @PySem.W.check_slot _ _ _ {s with toks:=s.toks+1} "object.__setattr__" "object" "__setattr__" (.ref x) [.str name s.toks,v] [] _ z.kind z.split ty (z.args _ _ _) ?_
 rw[PySem.W.osa_eq,refuse_eq];refine Aa (Aa (J.type.here (s:={s with toks:=s.toks+1}) (Aa (tw.here (s:={s with toks:=s.toks+1}) ?_))))
 rw[c.mro];refine Ab (Aa (J.type.here (s:={s with toks:=s.toks+1}) (Aa ((PySem.W.looks_findIn X D).here (s:={s with toks:=s.toks+1}) (Aa (Ab ?_))))))
 refine Aa (Ab (Aa (Aa (wpAny_loadPart M (Aa ((PySem.W.looks_clsIn X c.cls).here (s:={s with toks:=s.toks+1}) ?_))))))
 rw[c.dict];refine Ab (a:=some dx) (Aa (Ab (Aa ?_)));refine wpAny_nsSet1 (s:={s with toks:=s.toks+1}) U λh' e Y=>?_
 obtain⟨oD,R,N,m,j,k⟩:=e.count (PySem.Within.cons name v B);refine Aa (wpAny_lookBehind m (by rw[j];exact pastItsLine_dict (Ax k (by rw[Al];lia))) ?_)
 exact Ab (h _ e Y)
end
section
variable {X:Cx}{f:Str}{ta tv:TE}{e:Expr}{pos:Pos}
theorem cQ2 {fs:List (Str×V)}{mA:Str->Option Value}(j:∀f,RelO (fs.lookup f) (mA f)):PySem.Within mA (fs.map (·.1)):=λg w=>by
 have r:=j g
 have k:∀(L:List (Str×V)) (u:V),L.lookup g=some u->g∈L.map (·.1):=λL u=>by
  induction L with
  | nil=>intro z;cases z
  | cons y L U=>
   intro z;obtain⟨m,J⟩:=y;by_cases q:g=m
   .subst q;simp
   .have Y:(g==m)=false:=by simpa using q
    simp only[List.lookup_cons,Y]at z;simp only[Ac7,Aa1];exact .inr (U z)
 cases c:fs.lookup g with
 | none=>
  rw[c]at r;cases s:mA g with
  | none=>exact absurd s w
  | some v=>rw[s]at r;exact r.elim
 | some u=>exact k fs u c
def sXg (K:Frag)(ta tv:TE)(f:Str):TS:=λD σ H=>tv σ H λy H1=>ta σ H1 λx H2=>∃a C cd dx fs,x=.ref a/\H2 a=some (m8 a C (some dx))/\H2 dx=some (.xd fs)/\dD4 K C cd/\PySem.W.findIn K (.ref C) f=some none/\fs.lookup f=none/\fs.length<1000 /\
 D.nx σ (upd H2 dx (.xd (fs++[(f,y)])))
theorem cS4 {fs:List (Str×V)}{f g:Str}{y:V}(h:fs.lookup f=none):(fs++[(f,y)]).lookup g=if g=f then some y else fs.lookup g:=by
 induction fs with
 | nil=>
  by_cases q:g=f
  .subst q;simp[List.lookup_cons]
  .have j:(g==f)=false:=by simpa using q
   simp[List.lookup_cons,j,q]
 | cons x fs Y=>
  obtain⟨w,U⟩:=x;by_cases s:f=w
  .subst s;simp[List.lookup_cons]at h
  .have c:(f==w)=false:=by simpa using s
   have m:fs.lookup f=none:=by simpa[List.lookup_cons,c]using h
   rw[Ab6,List.lookup_cons,List.lookup_cons,Y m];by_cases q:g=w
   .subst q;have k:¬g=f:=λz=>s z.symm
    simp[k]
   .have j:(g==w)=false:=by simpa using q
    simp[j]
theorem cW5 (ha:PE X o ta)(hv:PE X value tv)(hs:swapsWith value (some (.Attribute o f pos')) pos.line X.env=pure false:=by rfl):PS X (.Assign [.Attribute o f pos'] value pos) (sXg X.K ta tv f):=by
 refine⟨?_⟩;intro m s σ H D I h;refine plainObj_wpAny_Assign_Attribute (thn (hv m s σ H _ I h) λu s1 ⟨y,Q,F,ry,q⟩=>thn (ha m s1 σ Q _ F q) λov M pz=>?_) hs
 obtain⟨z,j,w,rx,a,C,cd,dx,fs,ez,ea,U,c,n,hl,hz,q2⟩:=pz;subst ez;obtain rfl:ov=Value.ref a:=rx;obtain⟨t0,sl,hx⟩:=(w.hok a _ ea).1;obtain⟨J,R,k⟩:∃J,M.heap.Ns1 dx J/\∀f,RelO (fs.lookup f) (J f):=w.hok dx _ U;refine cR2 w.kIn c hx R (cQ2 k) (by rw[Aa3,Dk];lia) n λh' N sb=>⟨σ,_,?_,q2⟩
 obtain⟨oD0,_,_,Y,_⟩:=id R;have B:Inv X m σ (upd j dx (.ext λ_=>True)) M:=w.view U (λ_ z=>by cases z) (λ_ z=>by cases z) (λ_ z=>by cases z) (λo u z=>by have:=w.base.frzs dx o u z;rw[U]at this;cases this) ⟨trivial,⟨_,Y⟩,λ_ _ _ _=>trivial⟩
 have P:upd (upd j dx (.ext λ_=>True)) dx (.xd (fs++[(f,y)]))=upd j dx (.xd (fs++[(f,y)])):=by
  funext b
  by_cases q:b=dx
  .rw[q,B6,B6]
  .rw[B4 q,B4 q,B4 q]
 rw[<- P];refine B.write (x:=dx) (e:=dx) (h':=h') (t':=M.toks+2) (by rw[B6];trivial) (.inl rfl) (λb v hb e=>(sb.2 b hb).trans e) ?_ ?_
 .obtain⟨oD,esD,epD,eD,rD⟩:=N;exact⟨_,eD⟩
 .refine⟨_,N,λg=>?_⟩
  rw[cS4 hl];by_cases q:g=f
  .rw[Ae q,Ae q];exact ry
  .rw[Ac q,Ac q];exact k g
def tXn (K:Frag)(ta:TE)(f:Str):TE:=λσ H Q=>ta σ H λx H1=>∃a C dx fs v,x=.ref a/\H1 a=some (m8 a C (some dx))/\H1 dx=some (.xd fs)/\cP9 K C/\PySem.W.hasDictIn K C=true/\PySem.W.findIn K (.ref C) f=some none/\fs.lookup f=some v/\Q v H1
theorem eH8 (K:Frag)(B:PE X e ta)(D:attributeBase e f X.env (eval e X.env)=eval e X.env:=by rfl)(R:X.K=K:=by rfl):PE X (.Attribute e f pos) (tXn K ta f):=by
 subst R;refine⟨?_⟩;intro Y s σ H Q I h;refine cK5 D (thn (B Y s σ H _ I h) λu j pz=>?_)
 obtain⟨x,m,y,rx,a,C,dx,fs,v,ex,U,M,c,F,n,l,q⟩:=pz;subst ex;obtain rfl:u=Value.ref a:=rx;obtain⟨t0,sl,N⟩:=(y.hok a _ U).1;obtain⟨w,ns,z⟩:∃w,j.heap.Ns1 dx w/\∀f,RelO (fs.lookup f) (w f):=y.hok dx _ M;obtain⟨od,ho,P⟩:=aR6 ns;obtain⟨u,hu,k⟩:=RelO.some_of (v:=v) (o:=w f) (by rw[<- l];exact z f)
 have J:PySem.W.InstAt j.heap a _ C (some od):=⟨N,rfl,rfl,ho⟩
 exact cF4 y.kIn J c (PySem.W.findObj_own F n rfl (by rw[P,hu])) (bI6 k) ⟨v,m,y.tok _,k,q⟩
def dB6 (K:Frag)(xs:List V)(H:Hp)(Q:VK):Prop:=∃a C d y,xs=[.ref a,y]/\H a=some (excD a C d)/\XAt K C/\XCl K C/\((∃b,XIs K C y b/\Q (.bl b) H)\/∃p ys bs,y=.ref p/\SqT K H p ys/\dL4 K C ys bs/\Q (.bl (bs.any id)) H)
theorem p6 (K:Frag)(P:X.K=K:=by rfl):R4 X (.builtin "isinstance") (dB6 K):=by
 subst P;intro aA s σ H xs us Q I r h;obtain⟨a,C,d,y,rfl,ha,N,c,h⟩:=h;obtain⟨⟨o,vs,ho,U,_⟩,_,_⟩:=I.hok a _ ha;have k:aU9 X.K a C s:=⟨I.kIn,o,ho,U⟩;cases r with
 | cons r1 r2=>
  cases r2 with
  | cons F r4=>
   cases r4;cases r1
   rcases h with⟨b,hy,q⟩ | ⟨p,ys,bs,rfl,hp,M,q⟩
   .exact Az (S:=λ_ R s=>aU9 X.K a C s/\∀w,R (.ok (.ret (.bool b))) {s with toks:=w}) (λ_ _ _ _ _ j=>isinstance_outer (aP9 N c F hy _ _ _ _ _ _ _ j) (by intro q;cases q)) ⟨k,λw=>⟨.bl b,H,I.tok _,rfl,q⟩⟩
   .cases F
    obtain⟨its,rv,B,_⟩:=I.tuple hp;have Y:p≠C:=λz=>by
     subst z;have m:=c.cls;unfold PySem.W.clsIn at m;split at m
     .rename_i c' d' cd' sl' ho';obtain⟨ot,D,_,n,J⟩:=B;rw[I.kIn _ _ ho']at D;cases D;cases J
     .cases m
    exact Az (S:=λ_ R s=>(aU9 X.K a C s/\IsTup s.heap p its.toArray)/\∀w,R (.ok (.ret (.bool (bs.any id)))) {s with toks:=w}) (λ_ _ _ _ _ j=>isinstance_outer (cD5 j.1.1 j.1.2 Y (bV8 N c rv M) λw=>j.2 w) (by intro q;cases q)) ⟨⟨k,B⟩,λw=>⟨.bl _,H,I.tok _,rfl,q⟩⟩
end
end L2
namespace LV
open PySem PySem.Spec PyProof.Rows L2
def dC5:PyData->Bool
 | .tuple ds=>ds.all λd=>(sV d).isSome
 | d=>(sV d).isSome
section
variable {K:Frag}{H:Hp}
theorem dF1:sV d=some v->Rep K H v d:=λh=>by
 cases d <;> simp[sV]at h <;> subst h <;> constructor
theorem dV3 (r:Rep K H v d)(h:(sV d).isSome=true):sV d=some v:=by
 cases r <;> first | rfl | simp[sV]at h
theorem cJ7:∀{ds:AF} {xs:List V},Reps K H xs ds->(ds.all λd=>(sV d).isSome)=true->xs.map some=ds.map sV
 | [],_,r,_=>by cases r;rfl
 | d::ds,_,r,h=>by
  rw[List.all_cons,Bu]at h;cases r with
  | cons a b=>rw[Ac7,Ac7,cJ7 b h.2,dV3 a h.1]
theorem cI7:∀{ds:AF} {xs:List V},xs.map some=ds.map sV->Reps K H xs ds
 | [],[],_=>.nil
 | [],_::_,h=>by simp at h
 | _::_,[],h=>by simp at h
 | d::ds,x::xs,h=>by
  simp only[Ac7,Cc]at h;exact .cons (dF1 h.1.symm) (cI7 h.2)
theorem dI2 (r:Rep K H v d)(h:dC5 d=true):bW6 K H v d:=by
 cases r with
 | tup s rs=>exact⟨_,_,rfl,s,cJ7 rs h⟩
 | _=>first | rfl | simp[dC5,sV]at h
theorem bX9 (r:bW6 K H v d):Rep K H v d:=by
 cases d with
 | tuple ds=>
  obtain⟨a,xs,rfl,s,e⟩:=r;exact .tup s (cI7 e)
 | _=>exact dF1 r
theorem dF8 (h:∀a xs,Rd H a (.tup xs)->Rd H' a (.tup xs))(r:bW6 K H v d):bW6 K H' v d:=by
 cases d with
 | tuple ds=>
  obtain⟨a,xs,y,s,e⟩:=r;exact⟨a,xs,y,s.imp (h _ _) id,e⟩
 | _=>exact r
theorem dN9 (h:∀a xs,Rd H a (.tup xs)->Rd H' a (.tup xs))(r:FdF K H vs fs):FdF K H' vs fs:=by
 unfold FdF at *;induction r with
 | nil=>exact .nil
 | cons a _ e=>exact .cons ⟨a.1,dF8 h a.2⟩ e
theorem bR5 {vs:List (Str×V)}{fs:List (Str×PyData)}{f:Str}{d:PyData}(r:FdF K H vs fs)(h:fs.lookup f=some d):∃v,vs.lookup f=some v/\bW6 K H v d:=by
 unfold FdF at r;induction r with
 | nil=>cases h
 | @cons p q ps qs a _ ih=>
  obtain⟨y,z⟩:=p;obtain⟨k,j⟩:=q;obtain⟨e,r⟩:=a;dsimp only at e r;subst e;by_cases c:f=y
  .subst c;simp only[List.lookup_cons,beq_self_eq_true]at h ⊢;cases h;exact⟨_,rfl,r⟩
  .have w:(f==y)=false:=by simpa using c
   simp only[List.lookup_cons,w]at h ⊢;exact ih h
theorem cC0 (r:Rep K H v (xfD C fs)):∃a dd vs,v=.ref a/\H a=some (excD a C dd)/\XdA H vs dd/\FdF K H vs fs:=by
 unfold xfD at r;generalize w:(fs.map λx=>((PyData.str x.1,x.2):PyData×PyData))=L at r
 cases r with
 | dic _ _ z=>exact absurd z (by rename_i kvs;cases kvs <;> simp[dN6])
 | @exd a _ dd vs fs' e x r=>
  have y:fs'=fs:=by
   have inj:∀(u v:List (Str×PyData)),(u.map λx=>((PyData.str x.1,x.2):PyData×PyData))=(v.map λx=>(PyData.str x.1,x.2))->u=v:=λu=>by
    induction u with
    | nil=>intro v h;cases v <;> simp at h ⊢
    | cons c u k=>
     intro v h;cases v with
     | nil=>simp at h
     | cons j v=>
      simp only[Ac7,Cc,Prod.mk.injEq,PyData.str.injEq]at h;rw[k v h.2,Prod.ext h.1.1 h.1.2]
   exact inj _ _ w.symm
  subst y;exact⟨a,dd,vs,rfl,e,x,r⟩
end
section
variable {K:Frag}{B:Hp}{ρ ρ':List Sl}{m:Bool}{t:TA}{ta tb:TE}{d d':PyData}{ds es:AF}
def spF (K:Frag)(pre:AF->PyData->Prop)(preX:AF->Addr->List (Str×PyData)->Prop):Sp:=λvs H Q E=>
 ∃ds S,(∀b,S b->∃u:HM,H b=some u.ho)/\Reps K (hid S H) vs ds/\((∃d,pre ds d/\∀v H',Same H H'->Rep K (hid S H') v d->Q v H')\/∃(C:Addr) (fs:List (Str×PyData)),preX ds C fs/\∀(H':Hp) (dd:AK) (vs:List (Str×V)),Same H H'->XdA H' vs dd->FdF K H' vs fs->E (.ref C) dd H')
theorem cN5 (h:∀ds d,pre ds d->ds.length=n)(h':∀ds C fs,preX ds C fs->ds.length=n):∀vs H Q E,spF K pre preX vs H Q E->vs.length=n:=by
 rintro vs H Q E ⟨ds,S,_,r,z⟩;rw[r.length];rcases z with⟨d,p,_⟩ | ⟨C,fs,p,_⟩
 .exact h ds d p
 .exact h' ds C fs p
theorem dK8 {pre:AF->PyData->Prop}{preX:AF->Addr->List (Str×PyData)->Prop}{EX:XK}(w:A K true t ρ ds)(hp:pre ds d):E K m (aR1 (spF K pre preX) [] t EX) ρ d:=E.bor λS B σ H o I Q q=>w S B σ H o I _ λvs j e r=>
 ⟨ds,D6 ρ o S,(I.grow e).lists,by rw[Bm];exact r,.inl ⟨d,hp,λv y k z=>q v y (L2.Same.tr e k) z⟩⟩
theorem dK1 (I:Env K S B H σ ρ o)(w:H x=some (L2.excD x C dd))(y:XdA H vs dd)(k:FdF K H vs fs):Rep K (hid (D6 ρ o S) H) (.ref x) (xfD C fs):=by
 refine .exd (d:=dd) (vs:=vs) (hid_some.mpr ⟨λz=>?_,w⟩) ?_ (dN9 (λ_ _ q=>z7 I.lists q) k)
 .obtain⟨u,e⟩:=I.lists x z;rw[w]at e;exact HM.nd (Ab4 e).symm
 .cases dd with
  | none=>exact y
  | some dx=>
   refine hid_some.mpr ⟨λz=>?_,y⟩
   obtain⟨u,e⟩:=I.lists dx z;have y:H dx=some (.xd vs):=y;rw[y]at e;cases u <;> cases e
theorem cV5 (U:A K true t ρ ds)(hp:preX ds C fs)(X:bO5 K C)(M:L2.subIn K C (.ref TB)=true)
  (J:W K th (ρ.set j (.val (xfD C fs))) {nx:=λρ'=>R.nx (ρ'.set j .no)}) (I:Env K S B H σ ρ o) (sa:Sat K S B R D) :
  aR1 (spF K pre preX) [] t (λcls d H1=>∃C,cls=.ref C/\bO5 K C/\L2.subIn K C (.ref TB)=true/\∀x,H1 x=none->th {nx:=λσ' H'=>D.nx (σ'.set j none) H',rt:=λ_ _=>False} (σ.set j (some (.ref x))) (upd H1 x (excD x C d))) σ H Q:=
 U S B σ H o I _ λvs H1 y r=>⟨ds,D6 ρ o S,(I.grow y).lists,by rw[Bm];exact r,.inr ⟨C,fs,hp,λH2 s ws P xa Y=>⟨C,rfl,X,M,λx N=>by
  have g:=D4 (o:=excD x C s) N
  have e:=(I.grow (L2.Same.tr y P)).grow g
  have c:=e.set (m:=true) j (d:=xfD C fs) (dK1 e B6 (bW9 g xa) (o7 g Y))
  exact J S B _ _ _ o c ⟨λρ' σ' H' F k w=>sa.nx _ _ H' F (k.unset j) w,λ_ _ _ _ _ z=>z.elim,λ_ _ _ _ _ _ _ _ z=>z.elim,λ_ _ _ _ _ z=>z.elim,λ_ _ _ _ _ z=>z.elim⟩⟩⟩⟩
theorem cO3 {pre:AF->PyData->Prop}{preX:AF->Addr->List (Str×PyData)->Prop}{TB:Addr}{i j:Nat}{th:TS}{R:AE}(e:A K true t ρ ds)(hp:pre ds d)(y:R.nx (ρ.set i (.val d))) :
  W K (cS6 K TB (λEX=>aK1 (aR1 (spF K pre preX) [] t EX) (Q3 i)) j th) ρ R:=λS B D σ H o I s=>C9 (dK8 e hp) y S B D σ H o I s
theorem aY5 (y:A K true t ρ ds)(hp:preX ds C fs)(e:bO5 K C)(z:L2.subIn K C (.ref TB)=true)
  (w:W K th (ρ.set j (.val (xfD C fs))) {nx:=λρ'=>R.nx (ρ'.set j .no)}):W K (cS6 K TB (λEX=>aK1 (aR1 (spF K pre preX) [] t EX) (Q3 i)) j th) ρ R:=λS B D σ H o I s=>cV5 (R:=R) y hp e z w I s
theorem aS3 (j:E K false ta ρ (xfD C fs))(z:XAt K C)(k:XCl K C)(c:XIs K C y b):E K m (tCB (dB6 K) (J9 ta (J9 (tC y) W2))) ρ (.bool b):=E.bor (E.imm (m:=false) λS B σ H o I Q q=>j S B σ H o I _ λv w s r=>by
 obtain⟨a,Y,vs,rfl,e,x,r⟩:=cC0 r;exact⟨_,C,_,y,rfl,e,z,k,.inl ⟨b,c,q _ w s (.bl _)⟩⟩)
theorem aW3 {tc:TA}{ys:List V}{bs:List Bool}{C:Addr}{fs:List (Str×PyData)}(z:E K false ta ρ (xfD C fs))(y:XAt K C)(w:XCl K C)(k:∀(σ:L2.St) (H:Hp) (Q:List V->Hp->Prop),Q ys H->tc σ H Q)(c:dL4 K C ys bs)(j:ys.length<=sizeLine:=by decide):E K m (tCB (dB6 K) (J9 ta (J9 (cB1 tc) W2))) ρ (.bool (bs.any id)):=E.bor (E.imm (m:=false) λS B σ H o I Q q=>z S B σ H o I _ λv Y s r=>by
 obtain⟨a,X,vs,rfl,e,x,r⟩:=cC0 r;refine k _ _ _ ⟨j,λp hp=>?_⟩
 have g:=D4 (o:=.tup ys) hp
 exact⟨_,C,_,_,rfl,g _ _ e,y,w,.inr ⟨p,ys,bs,rfl,SqT.of B6,c,q _ _ (L2.Same.tr s g) (.bl _)⟩⟩)
theorem dW4 {C:Addr}{fs:List (Str×PyData)}{f:Str}(k:E K false ta ρ (xfD C fs))(X:cP9 K C)(j:PySem.W.hasDictIn K C=true)(c:PySem.W.findIn K (.ref C) f=some none)(s:fs.lookup f=some d)(hi:imm d=true:=by rfl):E K m (tXf K ta f) ρ d:=E.bor (E.imm (m:=false) (λS B σ H o I Q q=>k S B σ H o I _ λv y Y r=>by
 obtain⟨a,w,vs,rfl,e,x,r⟩:=cC0 r;obtain⟨u,h1,z⟩:=bR5 r s;cases w with
 | none=>
  have x:vs=[]:=x
  rw[x]at h1;cases h1
 | some dx=>exact⟨a,C,dx,vs,u,rfl,e,x,X,j,c,h1,q u y Y (bX9 z)⟩) hi)
def dN2 (C:Addr)(nms:AH):Sp:=λvs H Q _=>∃x xs,vs=.ref x::xs/\xs.length=nms.length/\H x=some (m8 x C none)/\∀dx H2,H dx=none->dx≠x->H2 x=some (m8 x C (some dx))->H2 dx=some (.xd (nms.zip xs))->(∀b,b≠x->b≠dx->H2 b=H b)->Q .non H2
theorem bM6 {H:Hp}:∀{nms:AH} {xs:List V} {ds:AF},xs.length=nms.length->Reps K H xs ds->(∀d∈ds,dC5 d=true)->FdF K H (nms.zip xs) (nms.zip ds)
 | [],_,_,_,_,_=>by simp[FdF];exact .nil
 | n::nms,[],_,h,_,_=>by simp at h
 | n::nms,x::xs,_,h,r,ha=>by
  cases r with
  | cons a b=>
   rw[Ds,Ds];exact .cons ⟨rfl,dI2 a (ha _ (by simp))⟩ (bM6 (by simpa using h) b λd e=>ha d (by simp[e]))
theorem bG4 {C:Addr}{nms:AH}{E':XK}{EX:Addr->Hp->Prop}{R:AE}(P:A K true t ρ ds)(Y:ds.length=nms.length)(hk:∀d∈ds,dC5 d=true)(Q:ds.length<=1000)(F:∀(H':Hp) (dx:Addr) (vs:List (Str×V)),Same B H'->H' dx=some (.xd vs)->FdF K H' vs (nms.zip ds)->EX dx H') :
  WB K B (cL1 C (dN2 C nms) [] E' EX t) ρ R:=λS D σ H o I s=>
 P S B σ H o I _ λvs c s1 r=>by
  have y:vs.length=nms.length:=by rw[r.length];exact Y
  refine⟨by rw[y,<- Y];exact Q,λx hx=>⟨x,vs,by rw[Bm],y,B6,λdx U w j J M kp=>⟨rfl,x,dx,rfl,J,?_⟩⟩⟩
  have k:c dx=none:=by rw[B4 j]at w;exact w
  have X:Same c (drp U x):=λb u e=>by
   have h1:b≠x:=λz=>by rw[z,hx]at e;cases e
   have N:b≠dx:=λz=>by rw[z,k]at e;cases e
   rw[bE0 h1,kp b h1 N,B4 h1];exact e
  exact F _ dx _ (L2.Same.tr (I.grow s1).base X) (by rw[bE0 j];exact M) (o7 X (o7 T5 (bM6 y r hk)))
theorem eH1 (F:A K true t ρ ds)(U:ds.length=nms.length)(hk:∀d∈ds,dC5 d=true)(D:ds.length<=1000)(xg:cP9 K C)(P:PySem.W.hasDictIn K C=true)(hf:PySem.W.findIn K (.ref C) f=some none)(c:(nms.zip ds).lookup f=some d)(hi:imm d=true) :
  E K m (tXn K (dR0 C (dN2 C nms) [] E' t) f) ρ d:=E.bor (E.imm (m:=false) (λS B σ H o I Q q=>F S B σ H o I _ λvs Y s1 r=>by
  have y:vs.length=nms.length:=by rw[r.length];exact U
  refine⟨by rw[y,<- U];exact D,λx hx=>⟨x,vs,by rw[Bm],y,B6,λdx X w s M N kp=>⟨rfl,?_⟩⟩⟩
  have k:Y dx=none:=by rw[B4 s]at w;exact w
  have J:Same Y X:=λb u e=>by
   have h1:b≠x:=λz=>by rw[z,hx]at e;cases e
   have j:b≠dx:=λz=>by rw[z,k]at e;cases e
   rw[kp b h1 j,B4 h1];exact e
  have R:=o7 J (o7 T5 (bM6 y r hk))
  obtain⟨u,h1,j⟩:=bR5 R c;exact⟨x,C,dx,_,u,rfl,M,N,xg,P,hf,h1,q u X (L2.Same.tr s1 J) (bX9 j)⟩) hi)
end
end LV
namespace L2
open PySem PySem.Spec PyProof.Rows
structure dY6 (K:Frag)(C f:Addr):Prop where
 mke:XMk K C f
 ek:bO5 K C
 cl:∃cd,dD4 K C cd
 gt:cP9 K C
 hd:PySem.W.hasDictIn K C=true
 kp:PySem.W.keepIn K (.ref C)=true
section
variable {K:Frag}{C TB f N:Addr}{nm qn:Str}{bs:AG}{hdct:Bool}{sn:AH}{sub:AG}{ab:Bool}{col:Option Bool}{dd:AK}{k0 k1 k2 k3 k5:Option Value}{oI:Obj}
theorem eC2 (e:K.lookup f=some oI)(hi:PySem.W.isFn K (.ref f)=true):oI.cls=.type "function" := by
 have hi:(Option.map (λx:Obj=>x.cls) (K.lookup f)==some (.type "function"))=true:=hi
 rw[e]at hi
 have:=beq_iff_eq.mp hi
 exact Ab4 this
theorem cE6 (ho:K.lookup C=some (excClassObj nm qn C N bs (.ref TB::bmV) hdct sn sub ab col dd k0 k1 k2 k3 k5 "ValueError.__new__"))(c:PySem.W.excIn K TB bmV "ValueError.__new__" = true)(X:PySem.W.nsOkIn K N=true)(hi:PySem.W.nsIn K N "__init__" = some (some (.ref f)))
  (s:K.lookup f=some oI) (j:PySem.W.isFn K (.ref f)=true) (J:PySem.W.mroIn K C (.type "object")=some true) (y:PySem.W.hasDictIn K C=true) (M:PySem.W.findIn K (.ref C) "__setattr__" = some (some (.builtin "object.__setattr__")))
  (m:PySem.W.findIn K (.ref C) "__getattribute__" = some (some (.builtin "BaseException.__getattribute__"))) (Y:PySem.W.findIn K (.ref C) "__getattr__" = some none) (R:PySem.W.mroIn K C (.type "BaseException")=some true) (U:PySem.W.keepIn K (.ref C)=true):dY6 K C f:=by
 refine⟨eA3 ho c X hi s (eC2 s j),eC0 ho c,?_,⟨m,Y,R⟩,y,U⟩;obtain⟨w,e⟩:∃w,PySem.W.clsIn K C=some w:=by
  unfold PySem.W.hasDictIn at y;cases h:PySem.W.clsIn K C with
  | none=>rw[h]at y;cases y
  | some w=>exact⟨w,rfl⟩
 refine⟨w,e,λz=>?_,J,?_,M⟩
 .have k:=e
  unfold PySem.W.clsIn at k;rw[ho]at k;cases k;exact cE3 z
 .unfold PySem.W.hasDictIn at y;rw[e]at y;exact y
end
set_option maxHeartbeats 4000000
section
theorem psS (i:Nat){N P:AH}{sc:Scope}{x:Str}{e:Expr}{te:TE}{pos' pos:Pos}(S:C3 N P sc)(w:PE X e te)(y:X.N=N:=by rfl)(hi:N[i]? = some x:=by rfl)(j:Loc X.env.scope x:=by exact Or.inl rfl)(k:swapsWith e (some (.Name x pos')) pos.line X.env=pure false:=by rfl)(z:X.fn x=true\/X.env.scope.names.lookup x=some .local:=by first | exact .inl rfl | exact .inr rfl | assumption):PS X (.Assign [.Name x pos'] e pos) (aK1 te (Q3 i)):=by
 subst y;exact aZ1 S.nd hi j w k z
theorem pgN (i:Nat){N P:AH}{sc:Scope}{x:Str}{pos:Pos}(S:C3 N P sc)(e:X.N=N:=by rfl)(hi:N[i]? = some x:=by rfl)(w:Loc X.env.scope x:=by exact Or.inl rfl)(y:X.fn x=true\/X.env.scope.names.lookup x=some .local:=by first | exact .inl rfl | exact .inr rfl | assumption):PG X (.Name x pos) (Q3 i):=by
 subst e;exact F1 S.nd hi w y
end
end L2
namespace LV
open PySem L2
section
theorem v0:E K m (F0 0) (.val d::ρ) d:=B0 rfl
theorem v1:E K m (F0 1) (a :: .val d::ρ) d:=B0 rfl
theorem v2:E K m (F0 2) (a::b :: .val d::ρ) d:=B0 rfl
theorem v3:E K m (F0 3) (a::b::c :: .val d::ρ) d:=B0 rfl
theorem v4:E K m (F0 4) (a::b::c::e :: .val d::ρ) d:=B0 rfl
theorem v5:E K m (F0 5) (a::b::c::e::f :: .val d::ρ) d:=B0 rfl
theorem v6:E K m (F0 6) (a::b::c::e::f::g :: .val d::ρ) d:=B0 rfl
theorem v7:E K m (F0 7) (a::b::c::e::f::g::h :: .val d::ρ) d:=B0 rfl
theorem v8:E K m (F0 8) (a::b::c::e::f::g::h::i :: .val d::ρ) d:=B0 rfl
end
abbrev vI (i:Int):Sl:=.val (.int i)
end LV
namespace K05
open PySem L2 LV PyProof.Rows
theorem W7 {K:Frag}{pre:AF->PyData->Prop}{n:Nat}(h:∀ds d,pre ds d->ds.length=n):∀vs H Q E,spV K pre vs H Q E->vs.length=n:=by
 rintro vs H Q E ⟨ds,S,d,_,r,p,_⟩;have e:=r.length;rw[e];exact h ds d p
@[elab_as_elim] theorem us1 {M:AG->Prop} {us:AG} (hl:us.length=1) (h:∀y,M [y]):M us:=by rcases us with _ | ⟨_,_ | ⟨_,_⟩⟩ <;> first | exact h _ | cases hl
@[elab_as_elim] theorem us2 {M:AG->Prop} {us:AG} (hl:us.length=2) (h:∀y w,M [y,w]):M us:=by rcases us with _ | ⟨_,_ | ⟨_,_ | ⟨_,_⟩⟩⟩ <;> first | exact h _ _ | cases hl
@[elab_as_elim] theorem us3 {M:AG->Prop} {us:AG} (hl:us.length=3) (h:∀y w z,M [y,w,z]):M us:=by rcases us with _ | ⟨_,_ | ⟨_,_ | ⟨_,_ | ⟨_,_⟩⟩⟩⟩ <;> first | exact h _ _ _ | cases hl
def top (i:Nat):Stmt:=PySem.Challenge.pw_threetrees_k05_texts_refused.main.body.getD i (.Pass ⟨0,0,0,0⟩)
abbrev aA8:Stmt:=top 18
abbrev T8:Stmt:=top 19
abbrev z0:Stmt:=top 20
abbrev aJ3:Stmt:=top 21
abbrev aB3:Stmt:=top 22
abbrev aB2:Stmt:=top 23
abbrev j6:Stmt:=top 24
abbrev y7:Stmt:=top 25
abbrev Y7:Stmt:=top 26
abbrev aJ4:Stmt:=top 27
abbrev W3:Stmt:=top 28
abbrev n6:Stmt:=top 30
abbrev aR4:Stmt:=top 31
abbrev bO6:Stmt:=top 32
abbrev Z9:Stmt:=top 35
abbrev aD7:Stmt:=top 36
abbrev Z4:Stmt:=top 37
abbrev i5:Stmt:=top 39
abbrev aA6:Stmt:=top 40
abbrev w4:Stmt:=top 41
abbrev aB5:Stmt:=top 42
abbrev aA0:Stmt:=top 43
abbrev z6:Stmt:=top 44
abbrev y0:Stmt:=top 45
abbrev U8:Stmt:=top 46
abbrev u4:Stmt:=top 47
abbrev aE7:Stmt:=top 48
abbrev S2:Stmt:=top 49
abbrev aB0:Stmt:=top 50
abbrev aD0:Stmt:=top 51
abbrev Z3:Stmt:=top 52
abbrev W8:Stmt:=top 53
abbrev aJ6:Stmt:=top 54
abbrev w6:Stmt:=top 55
abbrev z4:Stmt:=top 56
abbrev cZ9:Stmt:=top 57
abbrev M6:Stmt:=cE9 (top 2) 0
abbrev Q0:Stmt:=cE9 (top 4) 0
set_option genInjectivity false in
structure Ad where
 aL8:Addr
 aO6:FuncData
 i9:Addr
 i8:FuncData
 aL2:Addr
 aL9:FuncData
 bA0:Addr
 aZ2:FuncData
 aN3:Addr
 aN6:FuncData
 aO2:Addr
 aO7:FuncData
 Q6:Addr
 aB7:FuncData
 V5:Addr
 aP8:FuncData
 Q8:Addr
 aE3:FuncData
 i3:Addr
 bB6:FuncData
 P0:Addr
 p9:FuncData
 aH5:Addr
 aH2:FuncData
 bK8:Addr
 bG1:FuncData
 cH9:Addr
 cG8:FuncData
 aC5:Addr
 aD4:FuncData
 aV0:Addr
 aT4:FuncData
 aC7:Addr
 aC3:FuncData
 aD2:Addr
 aC6:FuncData
 aN5:Addr
 aN7:FuncData
 aP1:Addr
 aQ0:FuncData
 aL5:Addr
 aQ4:FuncData
 aO1:Addr
 aM0:FuncData
 aM9:Addr
 aL0:FuncData
 aA9:Addr
 y6:FuncData
 k9:Addr
 j8:FuncData
 aP4:Addr
 aK7:FuncData
 aT7:Addr
 aT8:FuncData
 X9:Addr
 X8:FuncData
 aQ3:Addr
 aP2:FuncData
 aV1:Addr
 aU6:FuncData
 aD9:Addr
 aE5:FuncData
 p4:Addr
 s9:FuncData
 aY2:Addr
 bC9:FuncData
 aM3:Addr
 aO5:FuncData
 aM8:Addr
 aM1:FuncData
 cJ1:Addr
 bS9:FuncData
 D7:Addr
 A9:Addr
 U6:Addr
 C0:Addr
 aA5:Addr
 P7:Addr
 R3:Addr
 P4:Addr
 U9:Addr
 Q9:Addr
 O7:Addr
 R6:Addr
 F9:Addr
 F5:Addr
 V9:FuncData
 L4:Addr
 n9:FuncData
def Sb (K:Frag)(C:Addr)(L:AG)(B:List Bool):Prop:=∀x∈L.zip B,PySem.W.subIn K (.ref C) x.1=some x.2
theorem O3 {K:Frag}{C:Addr}{L:AG}{B:List Bool}{v:Value}{b:Bool}(h:Sb K C L B)(i:Nat)(e:(L.zip B)[i]? = some (v,b)):PySem.W.subIn K (.ref C) v=some b:=h _ (Bf e)
theorem sb_mk {K:Frag}{C:Addr}{L:AG}{B:List Bool}(h:((L.zip B).all λx=>PySem.W.subIn K (.ref C) x.1==some x.2)=true):Sb K C L B:=λx e=>eq_of_beq (Ac9.mp h x e)
def sbs (a:Ad):AG:=[.ref a.D7,.ref a.A9,.ref a.U6,.ref a.C0,.ref a.aA5,.ref a.P7,.ref a.R3,.ref a.P4,.ref a.U9,.ref a.Q9,.ref a.O7,.ref a.R6,.ref a.F9,.type "ValueError"]
structure Fx (K:Frag)(mg:Str->Option Value)(n:Str)(st:Stmt)(f:Addr)(d:FuncData)(ps:AH):Prop where
 F:Fun K n n st f d
 m:mg n=some (.ref f)
 b:Binds K d ps []
section
theorem pcl {k j:Nat}{f:Addr}{fd:FuncData}{ps:AH}{sp:Sp}{x:Str}{st:Stmt}{e:Expr}{es:AM}{t:TA}{p pos:Pos}(G:J0 X.prog X.w X.K X.mg X.base CX0 k f fd ps sp)(J:Room j X.A)(F:Fx X.K X.mg x st f fd ps)(c:PA X (e::es) t)(U:k<=j:=by decide)(Y:Gl X x:=by rfl)
  (y:(x==("__debug__" : Str))=false:=by decide) (s:starEach (e::es) X.env=(false,eval e X.env)::starEach es X.env:=by rfl) (z:(backTo pos (starEach es X.env)).any (·.1)=false:=by rfl):PE X (.Call (.Name x p) (e::es) [] pos) (aO9 sp [] E0 t):=cH4 G (J.mono U) Y F.m F.F.kp F.b .nil bX3 c y s z
end
set_option genInjectivity false in
structure Tx (K:Frag)(mg:Str->Option Value)(a:Ad):Prop where
 aO4:Fx K mg "begun_with" aA8 a.aL8 a.aO6 ["ring", "first"]
 a9:Fx K mg "begun_with_least" T8 a.i9 a.i8 ["ring"]
 aM5:Fx K mg "ways_round" z0 a.aL2 a.aL9 ["ring"]
 aY3:Fx K mg "ahead_in" aJ3 a.bA0 a.aZ2 ["turn", "place"]
 aL6:Fx K mg "round_from" aB3 a.aN3 a.aN6 ["turns", "p", "q"]
 u9:Fx K mg "all_rounds" aB2 a.aO2 a.aO7 ["turns"]
 Z5:Fx K mg "is_misplaced" j6 a.Q6 a.aB7 ["turns", "p"]
 u6:Fx K mg "is_doubled" y7 a.V5 a.aP8 ["turns", "p"]
 i7:Fx K mg "is_one_sided" Y7 a.Q8 a.aE3 ["turns", "p"]
 aK6:Fx K mg "is_apart" aJ4 a.i3 a.bB6 ["turns", "p"]
 W4:Fx K mg "is_at_odd_land" W3 a.P0 a.p9 ["turns", "p"]
 aI0:Fx K mg "first_fault" n6 a.aH5 a.aH2 ["turns"]
 aF0:Fx K mg "checked" aR4 a.bK8 a.bG1 ["turns"]
 cK4:Fx K mg "lands" bO6 a.cH9 a.cG8 ["drawing"]
 aE0:Fx K mg "is_turn_word" Z9 a.aC5 a.aD4 ["word"]
 aV2:Fx K mg "turn_read" aD7 a.aV0 a.aT4 ["word"]
 V3:Fx K mg "drawing_read" Z4 a.aC7 a.aC3 ["text"]
 M8:Fx K mg "_law_cell_at" i5 a.aD2 a.aC6 ["_law_script", "_law_k"]
 P6:Fx K mg "_law_mixed" aA6 a.aN5 a.aN7 ["_law_cell", "_law_k"]
 aM6:Fx K mg "_law_names" w4 a.aP1 a.aQ0 ["_law_cell", "_law_m"]
 aL7:Fx K mg "_law_grown" aB5 a.aL5 a.aQ4 ["_law_first", "_law_second"]
 w5:Fx K mg "_law_begun" aA0 a.aO1 a.aM0 ["_law_turn"]
 aN9:Fx K mg "_law_built" z6 a.aM9 a.aL0 ["_law_cell", "_law_cells", "_law_m"]
 M2:Fx K mg "_law_whole" y0 a.aA9 a.y6 ["_law_found"]
 l4:Fx K mg "_law_is_drawing" U8 a.k9 a.j8 ["_law_found"]
 aB4:Fx K mg "_law_ahead" u4 a.aP4 a.aK7 ["_law_turn", "_law_place"]
 aU5:Fx K mg "_law_ring" aE7 a.aT7 a.aT8 ["_law_turns", "_law_p", "_law_q"]
 Y0:Fx K mg "_law_places_fault" S2 a.X9 a.X8 ["_law_turns"]
 aN2:Fx K mg "_law_fault" aB0 a.aQ3 a.aP2 ["_law_turns"]
 aT2:Fx K mg "_law_sign" aD0 a.aV1 a.aU6 ["_law_cell"]
 aC0:Fx K mg "_law_changed" Z3 a.aD9 a.aE5 ["_law_text", "_law_cell"]
 o9:Fx K mg "_law_by_digits" W8 a.p4 a.s9 ["_law_cell"]
 aY9:Fx K mg "_law_due" aJ6 a.aY2 a.bC9 ["_law_text"]
 Y3:Fx K mg "_law_kinds" w6 a.aM3 a.aO5 ["_law_e"]
 aP0:Fx K mg "_law_asked" z4 a.aM8 a.aM1 ["_law_text"]
 dS2:Fx K mg "law" cZ9 a.cJ1 a.bS9 ["_law_script"]
 y9:mg "ValueError" = none
 bI7:mg "all" = none
 bX0:mg "any" = none
 bO4:mg "bool" = none
 X3:mg "enumerate" = none
 bU0:mg "int" = none
 E8:mg "isinstance" = none
 M4:mg "len" = none
 bA8:mg "list" = none
 bH1:mg "min" = none
 F7:mg "range" = none
 aA7:mg "reversed" = none
 cL3:mg "set" = none
 aQ6:mg "sorted" = none
 cK8:mg "str" = none
 R8:mg "tuple" = none
 Y8:∃t,mg "LEAST_PLACES" = some (.int 3 t)
 n8:∃t,mg "MOST_PLACES" = some (.int 10 t)
 t5:∃t,mg "FIGURES" = some (.str "0123456789" t)
 aB6:∃ad,mg "OUTER_LAND" = some (.ref ad)/\∀H,SqT K H ad [.int 0,.int 2,.int 1]
 Z1:∃ad b0 b1 b2 b3 b4,mg "PLACE_FAULTS" = some (.ref ad)/\(∀H,SqT K H ad [.ref b0,.ref b1,.ref b2,.ref b3,.ref b4])/\(∀H,SqT K H b0 [.str "place",.ref a.Q6])/\(∀H,SqT K H b1 [.str "twice",.ref a.V5])/\(∀H,SqT K H b2 [.str "back",.ref a.Q8])/\(∀H,SqT K H b3 [.str "apart",.ref a.i3])/\(∀H,SqT K H b4 [.str "land",.ref a.P0])
 aA2:mg "TreesError" = some (.ref a.D7)
 dK0:XCl K a.D7
 aT9:mg "NoDrawing" = some (.ref a.A9)
 Q5:XCl K a.A9
 dA4:mg "NoRows" = some (.ref a.U6)
 bT7:XCl K a.U6
 aZ7:mg "NoText" = some (.ref a.C0)
 i6:XCl K a.C0
 eA2:mg "Tied" = some (.ref a.aA5)
 dA5:XCl K a.aA5
 cC9:mg "NoArrows" = some (.ref a.P7)
 bD9:XCl K a.P7
 cX6:mg "NoLand" = some (.ref a.R3)
 bU4:XCl K a.R3
 cO9:mg "NoPlace" = some (.ref a.P4)
 bG3:XCl K a.P4
 dN3:mg "NoTie" = some (.ref a.U9)
 cF9:XCl K a.U9
 dA6:mg "NoRing" = some (.ref a.Q9)
 bU9:XCl K a.Q9
 cN2:mg "TooMany" = some (.ref a.O7)
 bI8:XCl K a.O7
 dF4:mg "NoLine" = some (.ref a.R6)
 bS0:XCl K a.R6
 bF0:mg "NothingDone" = some (.ref a.F9)
 aH3:XCl K a.F9
 V0:PySem.W.excIn K a.D7 bmV "ValueError.__new__" = true
 bR6:PySem.W.excIn K a.R3 bmV "ValueError.__new__" = true
 bL2:PySem.W.excIn K a.P4 bmV "ValueError.__new__" = true
 cK2:PySem.W.excIn K a.U9 bmV "ValueError.__new__" = true
 bU2:PySem.W.excIn K a.Q9 bmV "ValueError.__new__" = true
 bJ7:PySem.W.excIn K a.O7 bmV "ValueError.__new__" = true
 bY8:PySem.W.excIn K a.R6 bmV "ValueError.__new__" = true
 aH7:PySem.W.excIn K a.F9 bmV "ValueError.__new__" = true
 Q4:XAt K a.A9
 j4:XAt K a.C0
 D8:Sb K a.A9 (sbs a) [true,true,false,false,false,false,false,false,false,false,false,false,false,true]
 H9:Sb K a.C0 (sbs a) [true,false,false,true,false,false,false,false,false,false,false,false,false,true]
 N9:dY6 K a.A9 a.F5
 Q2:PySem.W.findIn K (.ref a.A9) "word" = some none
 T0:PySem.W.findIn K (.ref a.A9) "at" = some none
 aS9:Fun K "__init__" "NoDrawing.__init__" M6 a.F5 a.V9
 aS6:Binds K a.V9 ["self", "word", "at"] []
 R5:dY6 K a.C0 a.L4
 U5:PySem.W.findIn K (.ref a.C0) "at" = some none
 bF3:Fun K "__init__" "NoText.__init__" Q0 a.L4 a.n9
 aI3:Binds K a.n9 ["self", "at"] []
 aG9:dB9 K a.D7 "ValueError.__init__"
structure Ex (K:Frag)(n:Str)(c:Addr):Prop where
 n:PySem.W.nsIn K mainGlobals n=some (some (.ref c))
 q:XCl K c
theorem ex_mk {K:Frag}{n:Str}{c:Addr}{cd:ClassData}(a:PySem.W.nsIn K mainGlobals n=some (some (.ref c)))(y:PySem.W.clsIn K c=some cd)(t:PySem.W.typeIn K (.ref c)=some (.type "type")):Ex K n c:=⟨a,by rw[y];rfl,t⟩
structure Fq (K:Frag)(n:Str)(st:Stmt)(f:Addr)(d:FuncData):Prop where
 a:PySem.W.nsIn K mainGlobals n=some (some (.ref f))
 F:Fun K n n st f d
theorem Fq.fx1 {K:Frag}{h:Heap}{mg:Str->Option Value}{n x0:Str}{st:Stmt}{f:Addr}{d:FuncData}(q:Fq K n st f d)(X:K.In h)(G:h.Ns mainGlobals mg)(e:∀(kV doc pm:Value) (an:AK) (cdv ct u0:Value),bindArgs (PySem.W.fnOf n n (Y4 st) (T4 st) (B1 st) .none kV doc pm an cdv ct) ⟨[u0],[]⟩=pure [(x0,u0)]:=by intros;rfl):Fx K mg n st f d [x0]:=⟨q.F,Aw X G q.a,q.F.binds λ_ _ _ _ _ _ w y=>us1 y λu0=>e _ _ _ _ _ _ u0⟩
theorem Fq.fx2 {K:Frag}{h:Heap}{mg:Str->Option Value}{n x0 x1:Str}{st:Stmt}{f:Addr}{d:FuncData}(q:Fq K n st f d)(X:K.In h)(G:h.Ns mainGlobals mg)(e:∀(kV doc pm:Value) (an:AK) (cdv ct u0 u1:Value),bindArgs (PySem.W.fnOf n n (Y4 st) (T4 st) (B1 st) .none kV doc pm an cdv ct) ⟨[u0,u1],[]⟩=pure [(x0,u0),(x1,u1)]:=by intros;rfl):Fx K mg n st f d [x0,x1]:=⟨q.F,Aw X G q.a,q.F.binds λ_ _ _ _ _ _ w y=>us2 y λu0 u1=>e _ _ _ _ _ _ u0 u1⟩
theorem Fq.fx3 {K:Frag}{h:Heap}{mg:Str->Option Value}{n x0 x1 x2:Str}{st:Stmt}{f:Addr}{d:FuncData}(q:Fq K n st f d)(X:K.In h)(G:h.Ns mainGlobals mg)(e:∀(kV doc pm:Value) (an:AK) (cdv ct u0 u1 u2:Value),bindArgs (PySem.W.fnOf n n (Y4 st) (T4 st) (B1 st) .none kV doc pm an cdv ct) ⟨[u0,u1,u2],[]⟩=pure [(x0,u0),(x1,u1),(x2,u2)]:=by intros;rfl):Fx K mg n st f d [x0,x1,x2]:=⟨q.F,Aw X G q.a,q.F.binds λ_ _ _ _ _ _ w y=>us3 y λu0 u1 u2=>e _ _ _ _ _ _ u0 u1 u2⟩
set_option maxHeartbeats 4000000 in
theorem tx_mk {K:Frag}{h:Heap}{mg:Str->Option Value}{F5 L4 f0 f1 f2 f3 f4 f5 f6 f7 f8 f9 f10 f11 f12 f13 f14 f15 f16 f17 f18 f19 f20 f21 f22 f23 f24 f25 f26 f27 f28 f29 f30 f31 f32 f33 f34 f35 D7 A9 U6 C0 aA5 P7 R3 P4 U9 Q9 O7 R6 F9:Addr}(X:K.In h)(G:h.Ns mainGlobals mg)
  {d0:FuncData} (q0:Fq K "begun_with" aA8 f0 d0)
  {d1:FuncData} (q1:Fq K "begun_with_least" T8 f1 d1)
  {d2:FuncData} (q2:Fq K "ways_round" z0 f2 d2)
  {d3:FuncData} (q3:Fq K "ahead_in" aJ3 f3 d3)
  {d4:FuncData} (q4:Fq K "round_from" aB3 f4 d4)
  {d5:FuncData} (q5:Fq K "all_rounds" aB2 f5 d5)
  {d6:FuncData} (q6:Fq K "is_misplaced" j6 f6 d6)
  {d7:FuncData} (q7:Fq K "is_doubled" y7 f7 d7)
  {d8:FuncData} (q8:Fq K "is_one_sided" Y7 f8 d8)
  {d9:FuncData} (q9:Fq K "is_apart" aJ4 f9 d9)
  {d10:FuncData} (q10:Fq K "is_at_odd_land" W3 f10 d10)
  {d11:FuncData} (q11:Fq K "first_fault" n6 f11 d11)
  {d12:FuncData} (q12:Fq K "checked" aR4 f12 d12)
  {d13:FuncData} (q13:Fq K "lands" bO6 f13 d13)
  {d14:FuncData} (q14:Fq K "is_turn_word" Z9 f14 d14)
  {d15:FuncData} (q15:Fq K "turn_read" aD7 f15 d15)
  {d16:FuncData} (q16:Fq K "drawing_read" Z4 f16 d16)
  {d17:FuncData} (q17:Fq K "_law_cell_at" i5 f17 d17)
  {d18:FuncData} (q18:Fq K "_law_mixed" aA6 f18 d18)
  {d19:FuncData} (q19:Fq K "_law_names" w4 f19 d19)
  {d20:FuncData} (q20:Fq K "_law_grown" aB5 f20 d20)
  {d21:FuncData} (q21:Fq K "_law_begun" aA0 f21 d21)
  {d22:FuncData} (q22:Fq K "_law_built" z6 f22 d22)
  {d23:FuncData} (q23:Fq K "_law_whole" y0 f23 d23)
  {d24:FuncData} (q24:Fq K "_law_is_drawing" U8 f24 d24)
  {d25:FuncData} (q25:Fq K "_law_ahead" u4 f25 d25)
  {d26:FuncData} (q26:Fq K "_law_ring" aE7 f26 d26)
  {d27:FuncData} (q27:Fq K "_law_places_fault" S2 f27 d27)
  {d28:FuncData} (q28:Fq K "_law_fault" aB0 f28 d28)
  {d29:FuncData} (q29:Fq K "_law_sign" aD0 f29 d29)
  {d30:FuncData} (q30:Fq K "_law_changed" Z3 f30 d30)
  {d31:FuncData} (q31:Fq K "_law_by_digits" W8 f31 d31)
  {d32:FuncData} (q32:Fq K "_law_due" aJ6 f32 d32)
  {d33:FuncData} (q33:Fq K "_law_kinds" w6 f33 d33)
  {d34:FuncData} (q34:Fq K "_law_asked" z4 f34 d34)
  {d35:FuncData} (q35:Fq K "law" cZ9 f35 d35)
  (y9:PySem.W.nsIn K mainGlobals "ValueError" = some none)
  (bI7:PySem.W.nsIn K mainGlobals "all" = some none)
  (bX0:PySem.W.nsIn K mainGlobals "any" = some none)
  (bO4:PySem.W.nsIn K mainGlobals "bool" = some none)
  (X3:PySem.W.nsIn K mainGlobals "enumerate" = some none)
  (bU0:PySem.W.nsIn K mainGlobals "int" = some none)
  (E8:PySem.W.nsIn K mainGlobals "isinstance" = some none)
  (M4:PySem.W.nsIn K mainGlobals "len" = some none)
  (bA8:PySem.W.nsIn K mainGlobals "list" = some none)
  (bH1:PySem.W.nsIn K mainGlobals "min" = some none)
  (F7:PySem.W.nsIn K mainGlobals "range" = some none)
  (aA7:PySem.W.nsIn K mainGlobals "reversed" = some none)
  (cL3:PySem.W.nsIn K mainGlobals "set" = some none)
  (aQ6:PySem.W.nsIn K mainGlobals "sorted" = some none)
  (cK8:PySem.W.nsIn K mainGlobals "str" = some none)
  (R8:PySem.W.nsIn K mainGlobals "tuple" = some none)
  {t_LEAST_PLACES:Tok} (Y8:PySem.W.nsIn K mainGlobals "LEAST_PLACES" = some (some (.int 3 t_LEAST_PLACES)))
  {t_MOST_PLACES:Tok} (n8:PySem.W.nsIn K mainGlobals "MOST_PLACES" = some (some (.int 10 t_MOST_PLACES)))
  {t_FIGURES:Tok} (t5:PySem.W.nsIn K mainGlobals "FIGURES" = some (some (.str "0123456789" t_FIGURES)))
  {c_OUTER_LAND:Addr} (aB6:PySem.W.nsIn K mainGlobals "OUTER_LAND" = some (some (.ref c_OUTER_LAND))) {t0_OUTER_LAND t1_OUTER_LAND t2_OUTER_LAND:Tok} {q_OUTER_LAND:Nat} {sl_OUTER_LAND:Array (Option Value)} (h_OUTER_LAND:K.lookup c_OUTER_LAND=some ⟨.type "tuple",none,.seq #[.int 0 t0_OUTER_LAND,.int 2 t1_OUTER_LAND,.int 1 t2_OUTER_LAND] q_OUTER_LAND,sl_OUTER_LAND⟩)
  {c_PLACE_FAULTS b0_PLACE_FAULTS b1_PLACE_FAULTS b2_PLACE_FAULTS b3_PLACE_FAULTS b4_PLACE_FAULTS:Addr} (Z1:PySem.W.nsIn K mainGlobals "PLACE_FAULTS" = some (some (.ref c_PLACE_FAULTS))) {q_PLACE_FAULTS:Nat} {sl_PLACE_FAULTS:Array (Option Value)} (h_PLACE_FAULTS:K.lookup c_PLACE_FAULTS=some ⟨.type "tuple",none,.seq #[.ref b0_PLACE_FAULTS,.ref b1_PLACE_FAULTS,.ref b2_PLACE_FAULTS,.ref b3_PLACE_FAULTS,.ref b4_PLACE_FAULTS] q_PLACE_FAULTS,sl_PLACE_FAULTS⟩)
  {t0_PLACE_FAULTS:Tok} {q0_PLACE_FAULTS:Nat} {sl0_PLACE_FAULTS:Array (Option Value)} (M:K.lookup b0_PLACE_FAULTS=some ⟨.type "tuple",none,.seq #[.str "place" t0_PLACE_FAULTS,.ref f6] q0_PLACE_FAULTS,sl0_PLACE_FAULTS⟩)
  {t1_PLACE_FAULTS:Tok} {q1_PLACE_FAULTS:Nat} {sl1_PLACE_FAULTS:Array (Option Value)} (N:K.lookup b1_PLACE_FAULTS=some ⟨.type "tuple",none,.seq #[.str "twice" t1_PLACE_FAULTS,.ref f7] q1_PLACE_FAULTS,sl1_PLACE_FAULTS⟩)
  {t2_PLACE_FAULTS:Tok} {q2_PLACE_FAULTS:Nat} {sl2_PLACE_FAULTS:Array (Option Value)} (R:K.lookup b2_PLACE_FAULTS=some ⟨.type "tuple",none,.seq #[.str "back" t2_PLACE_FAULTS,.ref f8] q2_PLACE_FAULTS,sl2_PLACE_FAULTS⟩)
  {t3_PLACE_FAULTS:Tok} {q3_PLACE_FAULTS:Nat} {sl3_PLACE_FAULTS:Array (Option Value)} (Q:K.lookup b3_PLACE_FAULTS=some ⟨.type "tuple",none,.seq #[.str "apart" t3_PLACE_FAULTS,.ref f9] q3_PLACE_FAULTS,sl3_PLACE_FAULTS⟩)
  {t4_PLACE_FAULTS:Tok} {q4_PLACE_FAULTS:Nat} {sl4_PLACE_FAULTS:Array (Option Value)} (D:K.lookup b4_PLACE_FAULTS=some ⟨.type "tuple",none,.seq #[.str "land" t4_PLACE_FAULTS,.ref f10] q4_PLACE_FAULTS,sl4_PLACE_FAULTS⟩)
  (k:Ex K "TreesError" D7)
  (c:Ex K "NoDrawing" A9)
  (ex_NoRows:Ex K "NoRows" U6)
  (ex_NoText:Ex K "NoText" C0)
  (ex_Tied:Ex K "Tied" aA5)
  (U:Ex K "NoArrows" P7)
  (ex_NoLand:Ex K "NoLand" R3)
  (B:Ex K "NoPlace" P4)
  (ex_NoTie:Ex K "NoTie" U9)
  (ex_NoRing:Ex K "NoRing" Q9)
  (P:Ex K "TooMany" O7)
  (ex_NoLine:Ex K "NoLine" R6)
  (z:Ex K "NothingDone" F9)
  (V0:PySem.W.excIn K D7 bmV "ValueError.__new__" = true)
  (bR6:PySem.W.excIn K R3 bmV "ValueError.__new__" = true)
  (bL2:PySem.W.excIn K P4 bmV "ValueError.__new__" = true)
  (cK2:PySem.W.excIn K U9 bmV "ValueError.__new__" = true)
  (bU2:PySem.W.excIn K Q9 bmV "ValueError.__new__" = true)
  (bJ7:PySem.W.excIn K O7 bmV "ValueError.__new__" = true)
  (bY8:PySem.W.excIn K R6 bmV "ValueError.__new__" = true)
  (aH7:PySem.W.excIn K F9 bmV "ValueError.__new__" = true)
  (Q4:XAt K A9)
  (j4:XAt K C0)
  (D8:Sb K A9 [.ref D7,.ref A9,.ref U6,.ref C0,.ref aA5,.ref P7,.ref R3,.ref P4,.ref U9,.ref Q9,.ref O7,.ref R6,.ref F9,.type "ValueError"] [true,true,false,false,false,false,false,false,false,false,false,false,false,true])
  (H9:Sb K C0 [.ref D7,.ref A9,.ref U6,.ref C0,.ref aA5,.ref P7,.ref R3,.ref P4,.ref U9,.ref Q9,.ref O7,.ref R6,.ref F9,.type "ValueError"] [true,false,false,true,false,false,false,false,false,false,false,false,false,true])
  {no_NoDrawing:Addr} {nm_NoDrawing qn_NoDrawing:Str} {bs_NoDrawing:AG} {hd0_NoDrawing:Bool} {sn_NoDrawing:AH} {sub_NoDrawing:AG} {ab_NoDrawing:Bool} {co_NoDrawing:Option Bool} {dd_NoDrawing:AK} {k0_NoDrawing k1_NoDrawing k2_NoDrawing k3_NoDrawing k5_NoDrawing:Option Value}
  (ho_NoDrawing:K.lookup A9=some (excClassObj nm_NoDrawing qn_NoDrawing A9 no_NoDrawing bs_NoDrawing (.ref D7::bmV) hd0_NoDrawing sn_NoDrawing sub_NoDrawing ab_NoDrawing co_NoDrawing dd_NoDrawing k0_NoDrawing k1_NoDrawing k2_NoDrawing k3_NoDrawing k5_NoDrawing "ValueError.__new__"))
  (hn0_NoDrawing:PySem.W.nsOkIn K no_NoDrawing=true) (ni_NoDrawing:PySem.W.nsIn K no_NoDrawing "__init__" = some (some (.ref F5)))
  {od_NoDrawing_init an_NoDrawing_init:AK} {sl_NoDrawing_init:Array (Option Value)} {oc_NoDrawing_init kV_NoDrawing_init dc_NoDrawing_init pm_NoDrawing_init cd_NoDrawing_init ct_NoDrawing_init:Value}
  (y:K.lookup F5=some ⟨oc_NoDrawing_init,od_NoDrawing_init,.func (PySem.W.fnOf "__init__" "NoDrawing.__init__" (Y4 M6) (T4 M6) (B1 M6) .none kV_NoDrawing_init dc_NoDrawing_init pm_NoDrawing_init an_NoDrawing_init cd_NoDrawing_init ct_NoDrawing_init),sl_NoDrawing_init⟩) (J:PySem.W.isFn K (.ref F5)=true)
  (m:PySem.W.codeIn K cd_NoDrawing_init "NoDrawing.__init__" = true) (Y:PySem.W.keepIn K (.ref F5)=true)
  (mo_NoDrawing:PySem.W.mroIn K A9 (.type "object")=some true) (hdx_NoDrawing:PySem.W.hasDictIn K A9=true) (sax_NoDrawing:PySem.W.findIn K (.ref A9) "__setattr__" = some (some (.builtin "object.__setattr__"))) (gax_NoDrawing:PySem.W.findIn K (.ref A9) "__getattribute__" = some (some (.builtin "BaseException.__getattribute__"))) (gtx_NoDrawing:PySem.W.findIn K (.ref A9) "__getattr__" = some none) (up_NoDrawing:PySem.W.mroIn K A9 (.type "BaseException")=some true) (kcx_NoDrawing:PySem.W.keepIn K (.ref A9)=true)
  (Q2:PySem.W.findIn K (.ref A9) "word" = some none)
  (T0:PySem.W.findIn K (.ref A9) "at" = some none)
  {no_NoText:Addr} {nm_NoText qn_NoText:Str} {bs_NoText:AG} {hd0_NoText:Bool} {sn_NoText:AH} {sub_NoText:AG} {ab_NoText:Bool} {co_NoText:Option Bool} {dd_NoText:AK} {k0_NoText k1_NoText k2_NoText k3_NoText k5_NoText:Option Value}
  (ho_NoText:K.lookup C0=some (excClassObj nm_NoText qn_NoText C0 no_NoText bs_NoText (.ref D7::bmV) hd0_NoText sn_NoText sub_NoText ab_NoText co_NoText dd_NoText k0_NoText k1_NoText k2_NoText k3_NoText k5_NoText "ValueError.__new__"))
  (hn0_NoText:PySem.W.nsOkIn K no_NoText=true) (ni_NoText:PySem.W.nsIn K no_NoText "__init__" = some (some (.ref L4)))
  {od_NoText_init an_NoText_init:AK} {sl_NoText_init:Array (Option Value)} {oc_NoText_init kV_NoText_init dc_NoText_init pm_NoText_init cd_NoText_init ct_NoText_init:Value}
  (j:K.lookup L4=some ⟨oc_NoText_init,od_NoText_init,.func (PySem.W.fnOf "__init__" "NoText.__init__" (Y4 Q0) (T4 Q0) (B1 Q0) .none kV_NoText_init dc_NoText_init pm_NoText_init an_NoText_init cd_NoText_init ct_NoText_init),sl_NoText_init⟩) (i_NoText_init:PySem.W.isFn K (.ref L4)=true)
  (c_NoText_init_:PySem.W.codeIn K cd_NoText_init "NoText.__init__" = true) (k_NoText_init_:PySem.W.keepIn K (.ref L4)=true)
  (mo_NoText:PySem.W.mroIn K C0 (.type "object")=some true) (hdx_NoText:PySem.W.hasDictIn K C0=true) (sax_NoText:PySem.W.findIn K (.ref C0) "__setattr__" = some (some (.builtin "object.__setattr__"))) (gax_NoText:PySem.W.findIn K (.ref C0) "__getattribute__" = some (some (.builtin "BaseException.__getattribute__"))) (gtx_NoText:PySem.W.findIn K (.ref C0) "__getattr__" = some none) (up_NoText:PySem.W.mroIn K C0 (.type "BaseException")=some true) (kcx_NoText:PySem.W.keepIn K (.ref C0)=true)
  (U5:PySem.W.findIn K (.ref C0) "at" = some none)
  (xsp:PySem.W.specialIn K (.ref D7) "__getattribute__" = some (some (.builtin "type.__getattribute__"))) (xrd:PySem.W.readsIn K D7 (.type "type")=true) (xfc:PySem.W.findCls K (.ref D7) (.type "type") "__init__" = some (.val (.builtin "ValueError.__init__")))
  : ∃a:Ad,Tx K mg a/\a.cJ1=f35/\∀(s:Shared) (v:Value),BindsTo s a.bS9 ⟨[v],[]⟩ [("_law_script",v)]:=by
 have e:=E5 (st:=M6) y m Y
 have w:=E5 (st:=Q0) j c_NoText_init_ k_NoText_init_
 refine⟨⟨f0,d0,f1,d1,f2,d2,f3,d3,f4,d4,f5,d5,f6,d6,f7,d7,f8,d8,f9,d9,f10,d10,f11,d11,f12,d12,f13,d13,f14,d14,f15,d15,f16,d16,f17,d17,f18,d18,f19,d19,f20,d20,f21,d21,f22,d22,f23,d23,f24,d24,f25,d25,f26,d26,f27,d27,f28,d28,f29,d29,f30,d30,f31,d31,f32,d32,f33,d33,f34,d34,f35,d35,D7,A9,U6,C0,aA5,P7,R3,P4,U9,Q9,O7,R6,F9,F5,_,L4,_⟩,⟨q0.fx2 X G,q1.fx1 X G,q2.fx1 X G,q3.fx2 X G,q4.fx3 X G,q5.fx1 X G,q6.fx2 X G,q7.fx2 X G,q8.fx2 X G,q9.fx2 X G,q10.fx2 X G,q11.fx1 X G,q12.fx1 X G,q13.fx1 X G,q14.fx1 X G,q15.fx1 X G,q16.fx1 X G,q17.fx2 X G,q18.fx2 X G,q19.fx2 X G,q20.fx2 X G,q21.fx1 X G,q22.fx3 X G,q23.fx1 X G,q24.fx1 X G,q25.fx2 X G,q26.fx3 X G,q27.fx1 X G,q28.fx1 X G,q29.fx1 X G,q30.fx2 X G,q31.fx1 X G,q32.fx1 X G,q33.fx1 X G,q34.fx1 X G,q35.fx1 X G,Aq X G y9,Aq X G bI7,Aq X G bX0,Aq X G bO4,Aq X G X3,Aq X G bU0,Aq X G E8,Aq X G M4,Aq X G bA8,Aq X G bH1,Aq X G F7,Aq X G aA7,Aq X G cL3,Aq X G aQ6,Aq X G cK8,Aq X G R8,⟨t_LEAST_PLACES,Aw X G Y8⟩,⟨t_MOST_PLACES,Aw X G n8⟩,⟨t_FIGURES,Aw X G t5⟩,⟨c_OUTER_LAND,Aw X G aB6,λH=>.inr ⟨_,_,_,h_OUTER_LAND,rfl,rfl,rfl,(show 3<=sizeLine by decide),.cons ⟨_,rfl⟩ (.cons ⟨_,rfl⟩ (.cons ⟨_,rfl⟩ (.nil)))⟩⟩,⟨c_PLACE_FAULTS,b0_PLACE_FAULTS,b1_PLACE_FAULTS,b2_PLACE_FAULTS,b3_PLACE_FAULTS,b4_PLACE_FAULTS,Aw X G Z1,λH=>.inr ⟨_,_,_,h_PLACE_FAULTS,rfl,rfl,rfl,(show 5<=sizeLine by decide),.cons rfl (.cons rfl (.cons rfl (.cons rfl (.cons rfl (.nil)))))⟩,λH=>.inr ⟨_,_,_,M,rfl,rfl,rfl,(show 2<=sizeLine by decide),.cons ⟨_,rfl⟩ (.cons rfl .nil)⟩,λH=>.inr ⟨_,_,_,N,rfl,rfl,rfl,(show 2<=sizeLine by decide),.cons ⟨_,rfl⟩ (.cons rfl .nil)⟩,λH=>.inr ⟨_,_,_,R,rfl,rfl,rfl,(show 2<=sizeLine by decide),.cons ⟨_,rfl⟩ (.cons rfl .nil)⟩,λH=>.inr ⟨_,_,_,Q,rfl,rfl,rfl,(show 2<=sizeLine by decide),.cons ⟨_,rfl⟩ (.cons rfl .nil)⟩,λH=>.inr ⟨_,_,_,D,rfl,rfl,rfl,(show 2<=sizeLine by decide),.cons ⟨_,rfl⟩ (.cons rfl .nil)⟩⟩,Aw X G k.n,k.q,Aw X G c.n,c.q,Aw X G ex_NoRows.n,ex_NoRows.q,Aw X G ex_NoText.n,ex_NoText.q,Aw X G ex_Tied.n,ex_Tied.q,Aw X G U.n,U.q,Aw X G ex_NoLand.n,ex_NoLand.q,Aw X G B.n,B.q,Aw X G ex_NoTie.n,ex_NoTie.q,Aw X G ex_NoRing.n,ex_NoRing.q,Aw X G P.n,P.q,Aw X G ex_NoLine.n,ex_NoLine.q,Aw X G z.n,z.q,V0,bR6,bL2,cK2,bU2,bJ7,bY8,aH7,Q4,j4,D8,H9,cE6 ho_NoDrawing V0 hn0_NoDrawing ni_NoDrawing y J mo_NoDrawing hdx_NoDrawing sax_NoDrawing gax_NoDrawing gtx_NoDrawing up_NoDrawing kcx_NoDrawing,Q2,T0,e,e.binds λ_ _ _ _ _ _ us hl=>us3 hl λ_ _ _=>rfl,cE6 ho_NoText V0 hn0_NoText ni_NoText j i_NoText_init mo_NoText hdx_NoText sax_NoText gax_NoText gtx_NoText up_NoText kcx_NoText,U5,w,w.binds λ_ _ _ _ _ _ us hl=>us2 hl λ_ _=>rfl,⟨xsp,xrd,xfc,rfl⟩⟩,rfl,λs v=>?_⟩
 obtain⟨_,_,_,_,_,_,_,_,_,rfl,_⟩:=q35.F.ex;exact .of_eq rfl
theorem D1:C3 ["_law_first", "_law_second", "_law_outs", "_law_ins", "_law_path", "_law_heap", "_law_i", "_law_ahead_here", "_law_k", "_law_place", "_law_turns", "_law_v", "_law_came", "_law_row"] ["_law_first", "_law_second"] (B1 aB5):={}
def rh (m:Nat)(F G:Nat->Nat)(o i:OT)(p h:AC)(x6 x7 x8 x9:Sl):List Sl:=
 [.val (lI (fl F m)),.val (lI (fl G m)),.tr o,.tr i,.own (nI p.reverse),.own (nI h.reverse),x6,x7,x8,x9,.no,.no,.no,.no]
theorem l7 {m:Nat}{F G:Nat->Nat}{o i:OT}{p h:AC}{x6 x7 x8 x9:Sl}(e:x6.nb=true)(y:x7.nb=true)(w:x8.nb=true)(z:x9.nb=true):V7 (rh m F G o i p h x6 x7 x8 x9)=true:=by
 unfold rh;simp only[t9,e,y,w,z,Bool.true_and];rfl
def rh2 (m:Nat)(F G:Nat->Nat)(o i:PyData)(p h:AF)(x6 x7 x8 x9 x10 x11 x12 x13:Sl):List Sl:=
 [.val (lI (fl F m)),.val (lI (fl G m)),.val o,.val i,.own p,.own h,x6,x7,x8,x9,x10,x11,x12,x13]
theorem cB4 {m:Nat}{F G:Nat->Nat}{o i:PyData}{p h:AF}{x6 x7 x8 x9 x10 x11 x12 x13:Sl}(k:x6.nb=true)(j:x7.nb=true)(c:x8.nb=true)(s:x9.nb=true)(e:x10.nb=true)(y:x11.nb=true)(w:x12.nb=true)(z:x13.nb=true):V7 (rh2 m F G o i p h x6 x7 x8 x9 x10 x11 x12 x13)=true:=by
 unfold rh2;simp only[t9,k,j,c,s,e,y,w,z,Bool.true_and];rfl
def cR1 (ds:AF)(d:PyData):Prop:=∃F G m,TT.Rws F G m/\m<=1000/\ds=[lI (fl F m),lI (fl G m)] /\
 d=.tuple [.list ((List.range (m+3)).map λv=>lN ((TT.gst F G m).row v)),.list ((List.range m).map λv=>lN [(TT.gst F G m).o0 (v+3),(TT.gst F G m).o1 (v+3),(TT.gst F G m).o2 (v+3)])]
section
variable {P:Program}{w:World}{K:Frag}{mg:Str->Option Value}{base:Heap}{a:Ad}
theorem cW2 (T:Tx K mg a):J0 P w K mg base CX0 1 a.aL5 a.aQ4 ["_law_first", "_law_second"] (spV K cR1):=by
 refine T.aL7.F.ok D1 (W7 (by rintro ds d ⟨_,_,_,_,_,rfl,_⟩;rfl)) (λcdv A outer s H vs Q E hr h=>?_)
 obtain⟨ds,S,d,hS,r,⟨F,G,m,R,hm,rfl,rfl⟩,k⟩:=h;refine⟨_,(A3 (psS 2 D1 (D5 A1))
   (A3 (psS 3 D1 (D5 (A0 (E9 (A0 (D5 A1) (A0 (D5 A1) (A0 (D5 A1) A1)))) (A0 (E9 (A0 (D5 A1) (A0 (D5 A1) (A0 (D5 A1) A1)))) (A0 (E9 (A0 (D5 A1) (A0 (D5 A1) (A0 (D5 A1) A1)))) A1)))))
   (A3 (psS 4 D1 (D5 (A0 A4 A1)))
   (A3 (psS 5 D1 (D5 (A0 A4 A1)))
   (A3 (G6 Ai rfl (D9 rfl T.F7 (A0 (B5 N8 (by rfl) T.M4 Am (A0 (pv 0) A1)) A1)) (pgN 6 D1) (A3 (psS 7 D1 (D5 (A0 A4 (A0 A4 A1))))
   (A3 (G9 (C1 aH0 (pv 6) A4 (C6 _)) (A6 (psS 7 D1 (D5 (A0 (B8 C8 (pv 0) (B2 V4 (pv 6) A4) (λ_ _=>rfl)) (A0 (B8 C8 (pv 1) (B2 V4 (pv 6) A4) (λ_ _=>rfl)) A1))))) C5)
   (A3 (G6 Ai rfl (D9 rfl T.F7 (A0 (B2 V4 (B8 C8 (pv 0) (pv 6) (λ_ _=>rfl)) (B8 C8 (pv 7) A4 (λ_ _=>rfl))) A1)) (pgN 8 D1) (A6 (G7 (N3 Ab1 Ah Ag E6 (pv 5) (A0 (bQ8 Ab1 PySem.F.slot_list_pop PySem.F.type_list_pop bM9 (pv 4)) A1)))))
   (A3 (G7 (N3 Ab1 Ah Ag E6 (pv 3) (A0 (E9 (A0 (D5 A1) (A0 (D5 A1) (A0 (D5 A1) A1)))) A1)))
   (A3 (G6 Ai rfl (D9 rfl T.F7 (A0 (B2 V4 (B8 C8 (pv 1) (pv 6) (λ_ _=>rfl)) (B8 C8 (pv 7) A4 (λ_ _=>rfl))) A1)) (pgN 8 D1) (A3 (psS 9 D1 (bQ8 Ab1 PySem.F.slot_list_pop PySem.F.type_list_pop bM9 (pv 5)))
   (A3 (bO3 (B2 K8 A4 (pv 6)) (cE0 (B8 C8 (pv 2) (B2 V4 (pv 9) A4) (λ_ _=>rfl)) A4 bC7))
   (A6 (G7 (N3 Ab1 Ah Ag E6 (B8 C8 (B8 C8 (pv 3) (B2 K8 A4 (pv 6)) (λ_ _=>rfl)) A4 (λ_ _=>rfl)) (A0 (pv 9) A1)))))))
   (A3 (G7 (N3 Ab1 Ah Ag E6 (pv 2) (A0 (D5 (A0 (B8 C8 (pv 4) (aU4 aC1 A4) (λ_ _=>rfl)) (A0 (B8 C8 (pv 5) (aU4 aC1 A4) (λ_ _=>rfl)) (A0 A4 A1)))) A1)))
   (A3 (G7 (N3 Ab1 Ah Ag E6 (B8 C8 (B8 C8 (pv 3) (B8 C8 (pv 4) (aU4 aC1 A4) (λ_ _=>rfl)) (λ_ _=>rfl)) A4 (λ_ _=>rfl)) (A0 (B2 K8 A4 (pv 6)) A1)))
   (A3 (G7 (N3 Ab1 Ah Ag E6 (B8 C8 (B8 C8 (pv 3) (B8 C8 (pv 5) (aU4 aC1 A4) (λ_ _=>rfl)) (λ_ _=>rfl)) A4 (λ_ _=>rfl)) (A0 (B2 K8 A4 (pv 6)) A1)))
   (A6 (G7 (N3 Ab1 Ah Ag E6 (pv 4) (A0 (B2 K8 A4 (pv 6)) A1)))))))))))))
   (A3 (aD5 Ai (C1 aH0 (B5 N8 (by rfl) T.M4 Am (A0 (pv 4) A1)) A4 (C6 _)) (A6 (G7 (N3 Ab1 Ah Ag E6 (pv 5) (A0 (bQ8 Ab1 PySem.F.slot_list_pop PySem.F.type_list_pop bM9 (pv 4)) A1)))))
   (A3 (aD5 Ai (C1 aH0 (B5 N8 (by rfl) T.M4 Am (A0 (pv 5) A1)) A4 (C6 _)) (A6 (G7 (N3 Ab1 Ah Ag E6 (B8 C8 (B8 C8 (pv 3) A4 (λ_ _=>rfl)) A4 (λ_ _=>rfl)) (A0 (bQ8 Ab1 PySem.F.slot_list_pop PySem.F.type_list_pop bM9 (pv 5)) A1)))))
   (A3 (psS 10 D1 (D5 (A0 (B2 (Q1 K) (B2 (Q1 K) (D5 (A0 A4 A1)) (B8 C8 (B8 C8 (pv 3) A4 (λ_ _=>rfl)) A4 (λ_ _=>rfl))) (D5 (A0 A4 A1))) A1)))
   (A3 (G7 (N3 Ab1 Ah Ag E6 (pv 10) (A0 (B2 (Q1 K) (B2 (Q1 K) (D5 (A0 A4 A1)) (aY6 K rfl (by rfl) T.bA8 (by rfl) T.aA7 (B8 C8 (B8 C8 (pv 3) A4 (λ_ _=>rfl)) A4 (λ_ _=>rfl)))) (D5 (A0 A4 A1))) A1)))
   (A3 (G7 (N3 Ab1 Ah Ag E6 (pv 10) (A0 (B2 (Q1 K) (B2 (Q1 K) (D5 (A0 A4 A1)) (B8 C8 (B8 C8 (pv 3) A4 (λ_ _=>rfl)) A4 (λ_ _=>rfl))) (D5 (A0 A4 A1))) A1)))
   (A3 (G6 Ai rfl (D9 rfl T.F7 (A0 (B5 N8 (by rfl) T.M4 Am (A0 (pv 2) A1)) A1)) (pgN 11 D1) (A3 (psS 12 D1 (B8 C8 (pv 3) (B2 K8 A4 (pv 11)) (λ_ _=>rfl)))
   (A3 (psS 13 D1 (B2 (Q1 K) (B2 (Q1 K) (B2 (Q1 K) (D5 (A0 (B8 C8 (B8 C8 (pv 2) (pv 11) (λ_ _=>rfl)) A4 (λ_ _=>rfl)) A1)) (B8 C8 (pv 12) A4 (λ_ _=>rfl))) (D5 (A0 (B8 C8 (B8 C8 (pv 2) (pv 11) (λ_ _=>rfl)) A4 (λ_ _=>rfl)) A1))) (B8 C8 (pv 12) A4 (λ_ _=>rfl))))
   (A6 (G7 (N3 Ab1 Ah Ag E6 (pv 10) (A0 (B2 (Q1 K) (B2 (Q1 K) (pv 13) (D5 (A0 (B8 C8 (B8 C8 (pv 2) (pv 11) (λ_ _=>rfl)) A4 (λ_ _=>rfl)) A1))) (aY6 K rfl (by rfl) T.bA8 (by rfl) T.aA7 (B8 C8 (pv 12) A4 (λ_ _=>rfl)))) A1)))))))
   (A6 (B7 (E9 (A0 (pv 10) (A0 (pv 2) A1)))))))))))))))),L6 hS r ?_ k⟩
 refine A8 (cC8 (P8 M1) ?_);refine A8 (cC8 (P8 (K4 (aW9 (K4 (P8 M1) (K4 (P8 M1) (K4 (P8 M1) M1)))) (K4 (aW9 (K4 (P8 M1) (K4 (P8 M1) (K4 (P8 M1) M1)))) (K4 (aW9 (K4 (P8 M1) (K4 (P8 M1) (K4 (P8 M1) M1)))) M1)))) ?_);refine A8 (K6 (K5 (A2 A7 A5)) ?_);refine A8 (K6 (K5 (A2 A7 A5)) ?_);show W K _ (rh m F G (O9 0 (TT.gst F G 0).o0 (TT.gst F G 0).o1 (TT.gst F G 0).o2) (K0 (0+3) (TT.gst F G 0).i0 (TT.gst F G 0).i1 (TT.gst F G 0).i2) (TT.gst F G 0).path (TT.gst F G 0).heap .no .no .no .no) _;have cN5:((fl F m).map PyData.int).length=m:=by simp[fl]
 refine A8 (O4 (N1 (A2 (P5 (A2 (B0 rfl) A5)) A5) ?_ ?_) (λi ρ=>∃X U x8 c,(X.nb=true/\U.nb=true/\x8.nb=true/\c.nb=true) /\
  ρ=rh m F G (O9 i (TT.gst F G i).o0 (TT.gst F G i).o1 (TT.gst F G i).o2) (K0 (i+3) (TT.gst F G i).i0 (TT.gst F G i).i1 (TT.gst F G i).i2) (TT.gst F G i).path (TT.gst F G i).heap X U x8 c) ⟨_,_,_,_,⟨rfl,rfl,rfl,rfl⟩,rfl⟩ ?_ ?_)
 .rw[cN5];lia
 .rw[cN5];lia
 .rintro i d _ J ⟨X,U,x8,c,⟨b6,b7,b8,b9⟩,rfl⟩;obtain⟨rfl,hi⟩:=N0 J;have hi:i<m:=by
   have:=hi
   simp[fl]at this
   lia
  obtain⟨sk,sa,sb,spl,N,B,spx,D,se0,se1⟩:=TT.eB0 R hi;have hst:TT.gst F G (i+1)=(TT.gst F G i).step (F i-TT.pv F i) (G i-TT.pv G i):=rfl;have f1:=R.f1 i hi;have g1:=R.g1 i hi;have hFi:=R.f2 i hi;have hGi:=R.g2 i hi;generalize hs:TT.gst F G i=s at sk sa sb spl N B spx D se0 se1 hst ⊢;refine⟨_,B9,?_⟩;refine A8 (K6 (K5 (A2 A7 (A2 A7 A5))) ?_ (show 7<14 by decide))
  refine A8 (cF7 (rh m F G (O9 i s.o0 s.o1 s.o2) (K0 (i+3) s.i0 s.i1 s.i2) s.path s.heap (.val (.int (i:Int))) (.own [.int (TT.pv F i:Nat),.int (TT.pv G i:Nat)]) x8 c) (C4 (aD3 (B0 rfl) A7))
   (λh=>(K6 (ds:=[.int (F (i-1):Nat),.int (G (i-1):Nat)]) (K5 (A2 (G0 (B0 rfl) (P3 (B0 rfl) A7) rfl ?_) (A2 (G0 (B0 rfl) (P3 (B0 rfl) A7) rfl ?_) A5))) ?_ (show 7<14 by decide))) (λh=>E2 ?_) ?_)
  .have h:(i:Int)>0:=An h
   have e:(i:Int)-1=((i-1:Nat):Int):=by lia
   rw[e];exact cH8 (by lia)
  .have h:(i:Int)>0:=An h
   have e:(i:Int)-1=((i-1:Nat):Int):=by lia
   rw[e];exact cH8 (by lia)
  .have h:(i:Int)>0:=An h
   obtain⟨j,rfl⟩:∃j,i=j+1:=⟨i-1,by lia⟩
   rfl
  .have h:¬(i:Int)>0:=Ao h
   have:i=0:=by lia
   subst this;rfl
  generalize hA:F i-TT.pv F i=na at sa sb N B spx D hst;generalize hB:G i-TT.pv G i=nb at sb B D hst;refine A8 (O4 (N1 (A2 (P3 (G0 (B0 rfl) (B0 rfl) rfl (cH8 hi)) (G0 (J8 rfl) A7 rfl rfl)) A5) ?_ ?_) (λj ρ=>∃x8,x8.nb=true /\
   ρ=rh m F G (O9 i s.o0 s.o1 s.o2) (K0 (i+3) s.i0 s.i1 s.i2) (s.path.drop j) (s.h1 j) (.val (.int (i:Int))) (.own [.int (TT.pv F i:Nat),.int (TT.pv G i:Nat)]) x8 c) ⟨x8,b8,rfl⟩ ?_ ?_)
  .lia
  .lia
  .rintro j d _ J ⟨y8,c8,rfl⟩;obtain⟨rfl,M⟩:=N0 J;have M:j<na:=by lia
   refine⟨_,B9,?_⟩;obtain⟨x,hx⟩:∃x,s.path[j]? = some x:=⟨_,Aa2 (by lia)⟩
   have e1:s.path.drop j=x::s.path.drop (j+1):=by
    obtain⟨h1,h2⟩:=Ab0.mp hx;rw[<- h2];exact Cm h1
   have e2:s.h1 (j+1)=x::s.h1 j:=by
    unfold TT.S.h1;obtain⟨h1,h2⟩:=Ab0.mp hx;rw[Bx h1,h2];simp
   show W K _ (rh m F G (O9 i s.o0 s.o1 s.o2) (K0 (i+3) s.i0 s.i1 s.i2) (s.path.drop j) (s.h1 j) (.val (.int (i:Int))) (.own [.int (TT.pv F i:Nat),.int (TT.pv G i:Nat)]) (.val (.int (j:Int))) c) _
   refine aR0 (ds:=nI (s.h1 j).reverse) (cB5 (d:=.int (x:Int)) (ds:=nI (s.path.drop (j+1)).reverse) ?_ (l7 rfl rfl rfl b9)) rfl rfl ?_ ⟨.val (.int (j:Int)),rfl,?_⟩ ?_
   .show some (Sl.own (nI (s.path.drop j).reverse))=_
    rw[e1];simp[nI]
   .rw[G5,Ae2];unfold TT.S.h1 at N ⊢;unfold sizeLine;simp only[Ab7,Ae2,Ad1]at N ⊢
    lia
   .rw[e2];unfold rh
    simp[nI]
   .exact l7 (p:=s.path.drop (j+1)) (h:=s.h1 j) rfl rfl rfl b9
  rintro _ ⟨y8,c8,rfl⟩;rw[rng_len];have ea:((F i:Int)-(TT.pv F i:Int)).toNat=na:=by lia
  rw[ea];refine A8 (r9 (u0:=K0 (i+3) s.i0 s.i1 s.i2) aI6 rfl rfl (aW9 (K4 (P8 M1) (K4 (P8 M1) (K4 (P8 M1) M1)))) ?_ ?_ (l7 rfl rfl c8 b9))
  .rw[Aa3,Bc];unfold sizeLine;lia
  have ei:(K0 (i+3) s.i0 s.i1 s.i2).put [] (.lst (((List.range (i+3)).map λq=>OT.tup [oN (s.i0 q),oN (s.i1 q),oN (s.i2 q)])++[.tup [.lst [],.lst [],.lst []]]))=K0 (i+4) s.i0 s.i1 (TT.put s.i2 (i+3) []):=by
   rw[OT.put_nil,dH6]
   congr 1
   .funext q;by_cases e:q=i+3
    .rw[e,TT.E3,se0]
    .rw[TT.C7 e]
   .funext q;by_cases e:q=i+3
    .rw[e,TT.E3,se1]
    .rw[TT.C7 e]
  show W K _ ((rh m F G (O9 i s.o0 s.o1 s.o2) (K0 (i+3) s.i0 s.i1 s.i2) (s.path.drop na) (s.h1 na) (.val (.int (i:Int))) (.own [.int (TT.pv F i:Nat),.int (TT.pv G i:Nat)]) y8 c).set 3 (.tr ((K0 (i+3) s.i0 s.i1 s.i2).put [] (.lst (((List.range (i+3)).map λq=>OT.tup [oN (s.i0 q),oN (s.i1 q),oN (s.i2 q)])++[.tup [.lst [],.lst [],.lst []]]))))) _
  rw[ei];show W K _ (rh m F G (O9 i s.o0 s.o1 s.o2) (K0 (i+4) s.i0 s.i1 (TT.put s.i2 (i+3) [])) (s.path.drop na) (s.h1 na) (.val (.int (i:Int))) (.own [.int (TT.pv F i:Nat),.int (TT.pv G i:Nat)]) y8 c) _;generalize hh:s.h1 na=h at sb N B D ⊢;refine A8 (O4 (N1 (A2 (P3 (G0 (B0 rfl) (B0 rfl) rfl (cH8 hi)) (G0 (J8 rfl) A7 rfl rfl)) A5) ?_ ?_) (λj ρ=>∃x8 c,x8.nb=true/\c.nb=true /\
   ρ=rh m F G (O9 i s.o0 s.o1 (λq=>if q∈h.take j then i+3 else s.o2 q)) (K0 (i+4) s.i0 s.i1 (TT.put s.i2 (i+3) (h.take j))) (s.path.drop na) (h.drop j) (.val (.int (i:Int))) (.own [.int (TT.pv F i:Nat),.int (TT.pv G i:Nat)]) x8 c) ⟨y8,c,c8,b9,by simp⟩ ?_ ?_)
  .lia
  .lia
  .rintro j d _ J ⟨z8,z9,c8,c9,rfl⟩;obtain⟨rfl,M⟩:=N0 J;have M:j<nb:=by lia
   refine⟨_,B9,?_⟩;obtain⟨x,hx⟩:∃x,h[j]? = some x:=⟨_,Aa2 (by lia)⟩
   obtain⟨hx1,hx2⟩:=Ab0.mp hx;have e1:h.drop j=x::h.drop (j+1):=by rw[<- hx2];exact Cm hx1
   have e2:h.take (j+1)=h.take j++[x]:=by rw[<- hx2];exact Bx hx1
   obtain⟨x3,xi⟩:=B x (by
    refine Bf (i:=j) ?_;rw[List.getElem?_take,Ae M];exact hx)
   refine A8 (eF7 (ds:=nI (h.drop (j+1)).reverse) (d:=.int (x:Int)) ?_ ?_ (l7 (x8:=.val (.int (j:Int))) rfl rfl rfl c9))
   .show some (Sl.own (nI (h.drop j).reverse))=_
    rw[e1];simp[nI]
   have e3:(3:Int)+(i:Int)=((i+3:Nat):Int):=by lia
   have hx3:x-3+3=x:=by lia
   show W K _ (rh m F G (O9 i s.o0 s.o1 (λq=>if q∈h.take j then i+3 else s.o2 q)) (K0 (i+4) s.i0 s.i1 (TT.put s.i2 (i+3) (h.take j))) (s.path.drop na) (h.drop (j+1)) (.val (.int (i:Int))) (.own [.int (TT.pv F i:Nat),.int (TT.pv G i:Nat)]) (.val (.int (j:Int))) (.val (.int (x:Int)))) _
   have eo:(O9 i s.o0 s.o1 (λq=>if q∈h.take j then i+3 else s.o2 q)).put [x-3] (oN [s.o0 (x-3+3),s.o1 (x-3+3),i+3])=O9 i s.o0 s.o1 (λq=>if q∈h.take (j+1) then i+3 else s.o2 q):=by
    rw[dH0 (by lia)]
    congr 1
    funext q
    rw[hx3,e2];by_cases e:q=x
    .rw[e,TT.E3];simp
    .rw[TT.C7 e];simp[e]
   refine A8 (eA8 (u0:=O9 i s.o0 s.o1 (λq=>if q∈h.take j then i+3 else s.o2 q)) (us:=[.leaf (.int (s.o0 (x-3+3):Nat)),.leaf (.int (s.o1 (x-3+3):Nat)),.leaf (.int ((if x-3+3∈h.take j then i+3 else s.o2 (x-3+3):Nat):Int))]) (π:=[]++[x-3]) 2 (P3 A7 (B0 rfl)) (aL3 (x-3) aI6 (P3 (B0 rfl) A7) (by lia) (λu _=>⟨u,rfl⟩)) A7 rfl (by decide:2<3) rfl (dV4 (by lia)) ?_ (l7 rfl rfl rfl rfl))
   show W K _ ((rh m F G (O9 i s.o0 s.o1 (λq=>if q∈h.take j then i+3 else s.o2 q)) (K0 (i+4) s.i0 s.i1 (TT.put s.i2 (i+3) (h.take j))) (s.path.drop na) (h.drop (j+1)) (.val (.int (i:Int))) (.own [.int (TT.pv F i:Nat),.int (TT.pv G i:Nat)]) (.val (.int (j:Int))) (.val (.int (x:Int)))).set 2
    (.tr ((O9 i s.o0 s.o1 (λq=>if q∈h.take j then i+3 else s.o2 q)).put [x-3] (.lst [.leaf (.int (s.o0 (x-3+3):Nat)),.leaf (.int (s.o1 (x-3+3):Nat)),.leaf (.int (3+(i:Int)))])))) _
   rw[e3];show W K _ ((rh m F G (O9 i s.o0 s.o1 (λq=>if q∈h.take j then i+3 else s.o2 q)) (K0 (i+4) s.i0 s.i1 (TT.put s.i2 (i+3) (h.take j))) (s.path.drop na) (h.drop (j+1)) (.val (.int (i:Int))) (.own [.int (TT.pv F i:Nat),.int (TT.pv G i:Nat)]) (.val (.int (j:Int))) (.val (.int (x:Int)))).set 2
    (.tr ((O9 i s.o0 s.o1 (λq=>if q∈h.take j then i+3 else s.o2 q)).put [x-3] (oN [s.o0 (x-3+3),s.o1 (x-3+3),i+3])))) _
   rw[eo];show W K _ (rh m F G (O9 i s.o0 s.o1 (λq=>if q∈h.take (j+1) then i+3 else s.o2 q)) (K0 (i+4) s.i0 s.i1 (TT.put s.i2 (i+3) (h.take j))) (s.path.drop na) (h.drop (j+1)) (.val (.int (i:Int))) (.own [.int (TT.pv F i:Nat),.int (TT.pv G i:Nat)]) (.val (.int (j:Int))) (.val (.int (x:Int)))) _
   refine r9 (u0:=K0 (i+4) s.i0 s.i1 (TT.put s.i2 (i+3) (h.take j))) (π:=[]++[i+3]++[2]) (aL3 2 (aL3 (i+3) aI6 (P3 A7 (B0 rfl)) (by lia) (λu _=>⟨u,rfl⟩)) A7 rfl (λu0 h=>by cases h;exact⟨_,aI7 (by lia)⟩)) rfl (cK1 (by lia)) (bI5 (B0 rfl)) ?_ ?_ (l7 rfl rfl rfl rfl)
   .rw[Aa3,TT.E3,Ad1];unfold sizeLine;lia
   refine⟨.val (.int (j:Int)),vI (x:Int),rfl,rfl,?_⟩;rw[bR8 (by lia),cE4,TT.E3,<- e2]
   rfl
  rintro _ ⟨z8,z9,c8,c9,rfl⟩;rw[rng_len];have eb:((G i:Int)-(TT.pv G i:Int)).toNat=nb:=by lia
  rw[eb];obtain⟨x,r1,ex,xlt,xlen⟩:=spx;obtain⟨y,r2,ey,ylt,ylen⟩:=D;have e3:(3:Int)+(i:Int)=((i+3:Nat):Int):=by lia
  have hpl:atI (nI (s.path.drop na).reverse) (-1)=some (.int (x:Int)):=by rw[ex,List.reverse_cons,aJ1];exact aK9
  have hhl:atI (nI (h.drop nb).reverse) (-1)=some (.int (y:Int)):=by rw[ey,List.reverse_cons,aJ1];exact aK9
  refine A8 (r9 (u0:=O9 i s.o0 s.o1 (λq=>if q∈h.take nb then i+3 else s.o2 q)) aI6 rfl rfl (P8 (K4 (bI5 (LV.E.imm (d:=.int (x:Int)) (G0 (J8 rfl) (aU1 A7) rfl hpl))) (K4 (bI5 (LV.E.imm (d:=.int (y:Int)) (G0 (J8 rfl) (aU1 A7) rfl hhl))) (K4 (bI5 A7) M1)))) ?_ ?_ (l7 rfl rfl c8 c9))
  .rw[Aa3,Bc];unfold sizeLine;lia
  have eo:(O9 i s.o0 s.o1 (λq=>if q∈h.take nb then i+3 else s.o2 q)).put [] (.lst (((List.range i).map λj=>oN [s.o0 (j+3),s.o1 (j+3),(λq=>if q∈h.take nb then i+3 else s.o2 q) (j+3)])++[.lst [.leaf (.int (x:Int)),.leaf (.int (y:Int)),.leaf (.int ((2:Nat):Int))]]))=O9 (i+1) (TT.put s.o0 (i+3) x) (TT.put s.o1 (i+3) y) (TT.put (λq=>if q∈h.take nb then i+3 else s.o2 q) (i+3) 2):=by rw[OT.put_nil];exact dM4 (k:=i) (o0:=s.o0) (o1:=s.o1) (o2:=λq=>if q∈h.take nb then i+3 else s.o2 q) x y 2
  show W K _ ((rh m F G (O9 i s.o0 s.o1 (λq=>if q∈h.take nb then i+3 else s.o2 q)) (K0 (i+4) s.i0 s.i1 (TT.put s.i2 (i+3) (h.take nb))) (s.path.drop na) (h.drop nb) (.val (.int (i:Int))) (.own [.int (TT.pv F i:Nat),.int (TT.pv G i:Nat)]) z8 z9).set 2 (.tr ((O9 i s.o0 s.o1 (λq=>if q∈h.take nb then i+3 else s.o2 q)).put [] (.lst (((List.range i).map λj=>oN [s.o0 (j+3),s.o1 (j+3),(λq=>if q∈h.take nb then i+3 else s.o2 q) (j+3)])++[.lst [.leaf (.int (x:Int)),.leaf (.int (y:Int)),.leaf (.int ((2:Nat):Int))]]))))) _
  rw[eo];show W K _ (rh m F G (O9 (i+1) (TT.put s.o0 (i+3) x) (TT.put s.o1 (i+3) y) (TT.put (λq=>if q∈h.take nb then i+3 else s.o2 q) (i+3) 2)) (K0 (i+4) s.i0 s.i1 (TT.put s.i2 (i+3) (h.take nb))) (s.path.drop na) (h.drop nb) (.val (.int (i:Int))) (.own [.int (TT.pv F i:Nat),.int (TT.pv G i:Nat)]) z8 z9) _
  refine A8 (r9 (u0:=K0 (i+4) s.i0 s.i1 (TT.put s.i2 (i+3) (h.take nb))) (π:=[]++[x]++[0]) (aL3 0 (aL3 x aI6 (G0 (J8 rfl) (aU1 A7) rfl hpl) rfl (λu _=>⟨u,rfl⟩)) A7 rfl (λu0 h=>by cases h;exact⟨_,aI7 (by lia)⟩)) rfl (dL5 (by lia)) (bI5 (P3 A7 (B0 rfl))) ?_ ?_ (l7 rfl rfl c8 c9))
  .rw[Aa3];unfold sizeLine;lia
  have ej:=dE5 (n:=i+4) (q:=x) (i0:=s.i0) (i1:=s.i1) (i2:=TT.put s.i2 (i+3) (h.take nb)) (by lia) (i+3)
  rw[<- e3]at ej;show W K _ ((rh m F G (O9 (i+1) (TT.put s.o0 (i+3) x) (TT.put s.o1 (i+3) y) (TT.put (λq=>if q∈h.take nb then i+3 else s.o2 q) (i+3) 2)) (K0 (i+4) s.i0 s.i1 (TT.put s.i2 (i+3) (h.take nb))) (s.path.drop na) (h.drop nb) (.val (.int (i:Int))) (.own [.int (TT.pv F i:Nat),.int (TT.pv G i:Nat)]) z8 z9).set 3 (.tr ((K0 (i+4) s.i0 s.i1 (TT.put s.i2 (i+3) (h.take nb))).put ([]++[x]++[0]) (.lst (((s.i0 x).map λ(x:Nat)=>OT.leaf (.int (x:Int)))++[.leaf (.int (3+(i:Int)))]))))) _
  rw[ej];show W K _ (rh m F G (O9 (i+1) (TT.put s.o0 (i+3) x) (TT.put s.o1 (i+3) y) (TT.put (λq=>if q∈h.take nb then i+3 else s.o2 q) (i+3) 2)) (K0 (i+4) (TT.put s.i0 x (s.i0 x++[i+3])) s.i1 (TT.put s.i2 (i+3) (h.take nb))) (s.path.drop na) (h.drop nb) (.val (.int (i:Int))) (.own [.int (TT.pv F i:Nat),.int (TT.pv G i:Nat)]) z8 z9) _
  refine A8 (r9 (u0:=K0 (i+4) (TT.put s.i0 x (s.i0 x++[i+3])) s.i1 (TT.put s.i2 (i+3) (h.take nb))) (π:=[]++[y]++[1]) (aL3 1 (aL3 y aI6 (G0 (J8 rfl) (aU1 A7) rfl hhl) rfl (λu _=>⟨u,rfl⟩)) A7 rfl (λu0 h=>by cases h;exact⟨_,aI7 (by lia)⟩)) rfl (dM3 (by lia)) (bI5 (P3 A7 (B0 rfl))) ?_ ?_ (l7 rfl rfl c8 c9))
  .rw[Aa3];unfold sizeLine;lia
  have ek:=dA8 (n:=i+4) (q:=y) (i0:=TT.put s.i0 x (s.i0 x++[i+3])) (i1:=s.i1) (i2:=TT.put s.i2 (i+3) (h.take nb)) (by lia) (i+3)
  rw[<- e3]at ek;show W K _ ((rh m F G (O9 (i+1) (TT.put s.o0 (i+3) x) (TT.put s.o1 (i+3) y) (TT.put (λq=>if q∈h.take nb then i+3 else s.o2 q) (i+3) 2)) (K0 (i+4) (TT.put s.i0 x (s.i0 x++[i+3])) s.i1 (TT.put s.i2 (i+3) (h.take nb))) (s.path.drop na) (h.drop nb) (.val (.int (i:Int))) (.own [.int (TT.pv F i:Nat),.int (TT.pv G i:Nat)]) z8 z9).set 3 (.tr ((K0 (i+4) (TT.put s.i0 x (s.i0 x++[i+3])) s.i1 (TT.put s.i2 (i+3) (h.take nb))).put ([]++[y]++[1]) (.lst (((s.i1 y).map λ(x:Nat)=>OT.leaf (.int (x:Int)))++[.leaf (.int (3+(i:Int)))]))))) _
  rw[ek];show W K _ (rh m F G (O9 (i+1) (TT.put s.o0 (i+3) x) (TT.put s.o1 (i+3) y) (TT.put (λq=>if q∈h.take nb then i+3 else s.o2 q) (i+3) 2)) (K0 (i+4) (TT.put s.i0 x (s.i0 x++[i+3])) (TT.put s.i1 y (s.i1 y++[i+3])) (TT.put s.i2 (i+3) (h.take nb))) (s.path.drop na) (h.drop nb) (.val (.int (i:Int))) (.own [.int (TT.pv F i:Nat),.int (TT.pv G i:Nat)]) z8 z9) _
  refine P9 (ds:=nI (s.path.drop na).reverse) rfl (P3 A7 (B0 rfl)) ?_ ⟨.val (.int (i:Int)),.own [.int (TT.pv F i:Nat),.int (TT.pv G i:Nat)],z8,z9,⟨rfl,rfl,c8,c9⟩,?_⟩ (l7 rfl rfl c8 c9)
  .rw[G5,Ae2,Bb];unfold sizeLine;lia
  rw[hst];simp only[TT.S.step,sk,hh,ex,ey,Br];rw[e3];unfold rh
  simp[nI]
  rfl
 .rintro _ ⟨X,U,x8,c,⟨b6,b7,b8,b9⟩,rfl⟩;have em:(Y9 0 (((fl F m).map PyData.int).length:Int).toNat).length=m:=by rw[rng_len,cN5];lia
  rw[em];have GI:=TT.X0 R m (Aa7 _);have Lm:=TT.aX3 GI.inv;have I2:=TT.dD7 R m (Aa7 _);have pl:=GI.p;have hl:=GI.h;have gk:=GI.k;have gle:=GI.le;have gle2:=GI.le2;obtain⟨p,hp⟩:=GI.inv.pe;obtain⟨h,hh⟩:=GI.inv.he;have R2:=dJ6 hp hh;have R0:=TT.aL4 (s:=TT.gst F G m);have R1:=TT.bD8 (s:=TT.gst F G m);have RI:∀q,3<=q->q<m+3->(TT.gst F G m).row q=_:=λq h1 h2=>TT.U0 h1 (by rw[gk];exact h2)
  generalize hs:TT.gst F G m=s at Lm I2 pl hl gk hp hh R2 R0 R1 RI k ⊢;rw[gk]at Lm;refine A8 (aQ5 (λk ρ=>∃j,j+k+1=s.path.length/\ρ=rh m F G (O9 m s.o0 s.o1 s.o2) (K0 (m+3) s.i0 s.i1 s.i2) (s.path.drop j) (s.h1 j) X U x8 c) ⟨s.path.length-1,0,by rw[hp];simp,rfl⟩ ?_)
  rintro k0 _ ⟨j,M,rfl⟩;refine⟨_,C4 (aD3 (P5 (A2 (J8 rfl) A5)) A7),?_⟩;have el:(nI (s.path.drop j).reverse).length=k0+1:=by rw[G5,Ae2,Bb];lia
  rw[el];by_cases hk:k0=0
  .subst hk;rw[Ac (by simp)]
   have ej:s.path.drop j=[0]:=by
    rw[hp,Ab7]at M;rw[hp,List.drop_append,List.drop_of_length_le (by simp at M;lia)]
    have:j-p.length=0:=by simp at M;lia
    rw[this];rfl
   have eh:s.h1 j=(p.reverse++h)++[1]:=by
    unfold TT.S.h1;rw[hp,Ab7]at M;rw[hp,hh,Dl (by simp at M;lia),Cj (by simp at M;lia)]
    simp
   rw[ej,eh];generalize hq:p.reverse++h=q at R2;have ql:q.length<=3000:=by
    have:=Lm 2
    rw[R2]at this;simp at this;lia
   have ei:s.i2=TT.put s.i2 2 (q.take 0):=by
    funext z;by_cases e:z=2
    .rw[e,TT.E3,I2];rfl
    .rw[TT.C7 e]
   rw[ei];refine A8 (aQ5 (λk ρ=>∃j,j+k=q.length/\ρ=rh m F G (O9 m s.o0 s.o1 s.o2) (K0 (m+3) s.i0 s.i1 (TT.put s.i2 2 (q.take j))) [0] ((q++[1]).drop j) X U x8 c) ⟨q.length,0,by lia,rfl⟩ ?_)
   rintro k1 _ ⟨Y,hj1,rfl⟩;refine⟨_,C4 (aD3 (P5 (A2 (J8 rfl) A5)) A7),?_⟩;have el:(nI ((q++[1]).drop Y).reverse).length=k1+1:=by rw[G5,Ae2,Bb];simp;lia
   rw[el];by_cases hk:k1=0
   .subst hk;rw[Ac (by simp)]
    have ej1:Y=q.length:=by lia
    subst ej1;rw[Cr];refine cY5 (i:=3) rfl (cY5 (i:=2) rfl ?_);rw[cQ7,cO6];show W K _ (rh2 m F G (.list ((List.range m).map λj=>lN [s.o0 (j+3),s.o1 (j+3),s.o2 (j+3)])) (.list ((List.range (m+3)).map λz=>.tuple [lN (s.i0 z),lN (s.i1 z),lN (TT.put s.i2 2 q z)])) (nI ([0]:AC).reverse) (nI ((q++[1]).drop q.length).reverse) X U x8 c .no .no .no .no) _
    generalize hiD:(PyData.list ((List.range (m+3)).map λz=>.tuple [lN (s.i0 z),lN (s.i1 z),lN (TT.put s.i2 2 q z)]))=iD
    generalize hoD:(PyData.list ((List.range m).map λj=>lN [s.o0 (j+3),s.o1 (j+3),s.o2 (j+3)]))=oD
    generalize hpD:nI ([0]:AC).reverse=pD;generalize hhD:nI ((q++[1]).drop q.length).reverse=hD;show W K _ (rh2 m F G oD iD pD hD X U x8 c .no .no .no .no) _;have sqi:sq iD=some ((List.range (m+3)).map λz=>.tuple [lN (s.i0 z),lN (s.i1 z),lN (TT.put s.i2 2 q z)]):=by rw[<- hiD];rfl
    have sqo:sq oD=some ((List.range m).map λj=>lN [s.o0 (j+3),s.o1 (j+3),s.o2 (j+3)]):=by rw[<- hoD];rfl
    have L0:=Lm 0
    have L1:=Lm 1
    have L2':=Lm 2
    rw[R0]at L0;rw[R1]at L1;rw[R2]at L2';simp only[Al,Ab7,Ae2,List.length_nil]at L0 L1 L2';refine A8 (K6 (ds:=[lN (s.row 0)]) (K5 (A2 (EF.toN (U7 (l:=[1]++s.i0 0) (l':=[2]) (EF.e' (U7 (l:=[1]) (l':=s.i0 0) (EF.e' (K5 (A2 A7 A5))) (G0 (G0 (B0 rfl) A7 sqi (aP3 (q:=0) (by lia))) A7 rfl rfl) (by simp;lia))) (EF.e' (K5 (A2 A7 A5))) (by simp;lia)) (by rw[R0];simp)) A5)) ?_ (show 10<14 by decide))
    show W K _ (rh2 m F G oD iD pD hD X U x8 c (.own [lN (s.row 0)]) .no .no .no) _
    refine A8 (P9 (d:=lN (s.row 1)) rfl (EF.toN (U7 (l:=[2]++(s.i1 1).reverse) (l':=[0]) (EF.e' (U7 (l:=[2]) (l':=(s.i1 1).reverse) (EF.e' (K5 (A2 A7 A5))) (EF.e' (cG9 (G0 (G0 (B0 rfl) A7 sqi (aP3 (q:=1) (by lia))) A7 rfl rfl))) (by simp;lia))) (EF.e' (K5 (A2 A7 A5))) (by simp;lia)) (by rw[R1];simp)) (by show 1<_;unfold sizeLine;lia) ?_ (cB4 b6 b7 b8 b9 rfl rfl rfl rfl))
    show W K _ (rh2 m F G oD iD pD hD X U x8 c (.own [lN (s.row 0),lN (s.row 1)]) .no .no .no) _
    refine A8 (P9 (d:=lN (s.row 2)) rfl (EF.toN (U7 (l:=[0]++TT.put s.i2 2 q 2) (l':=[1]) (EF.e' (U7 (l:=[0]) (l':=TT.put s.i2 2 q 2) (EF.e' (K5 (A2 A7 A5))) (G0 (G0 (B0 rfl) A7 sqi (aP3 (q:=2) (by lia))) A7 rfl rfl) (by rw[TT.E3];simp;lia))) (EF.e' (K5 (A2 A7 A5))) (by rw[TT.E3];simp;lia)) (by rw[R2,TT.E3];simp)) (by show 2<_;unfold sizeLine;lia) ?_ (cB4 b6 b7 b8 b9 rfl rfl rfl rfl))
    show W K _ (rh2 m F G oD iD pD hD X U x8 c (.own ((List.range (0+3)).map λz=>lN (s.row z))) .no .no .no) _
    refine A8 (O4 (N1 (A2 (P5 (A2 (B0 rfl) A5) sqo) A5) ?_ ?_) (λv ρ=>∃x11 x12 x13,(x11.nb=true/\x12.nb=true/\x13.nb=true)/\ρ=rh2 m F G oD iD pD hD X U x8 c (.own ((List.range (v+3)).map λz=>lN (s.row z))) x11 x12 x13) ⟨.no,.no,.no,⟨rfl,rfl,rfl⟩,rfl⟩ ?_ ?_)
    .simp <;> lia
    .simp <;> lia
    .rintro v d _ J ⟨x11,x12,x13,⟨b11,b12,b13⟩,rfl⟩;obtain⟨rfl,hv⟩:=N0 J;have hv:v<m:=by simpa using hv
     have e3:(3:Int)+(v:Int)=((v+3:Nat):Int):=by lia
     have i2v:TT.put s.i2 2 q (v+3)=s.i2 (v+3):=TT.C7 (by lia)
     have Rv:=RI (v+3) (by lia) (by lia)
     have Lv:=Lm (v+3)
     rw[Rv]at Lv;simp only[Al,Ab7,Ae2]at Lv;refine⟨_,B9,?_⟩;refine A8 (C9 (d:=.tuple [lN (s.i0 (v+3)),lN (s.i1 (v+3)),lN (s.i2 (v+3))]) (G0 (B0 rfl) (P3 A7 (B0 rfl)) sqi ?_) ?_)
     .rw[e3,aP3 (by lia),i2v]
     show W K _ (rh2 m F G oD iD pD hD X U x8 c (.own ((List.range (v+3)).map λz=>lN (s.row z))) (.val (.int (v:Int))) (.val (.tuple [lN (s.i0 (v+3)),lN (s.i1 (v+3)),lN (s.i2 (v+3))])) x13) _
     refine A8 (K6 (ds:=nI ([s.o0 (v+3)]++s.i2 (v+3)++[s.o1 (v+3)]++s.i0 (v+3))) (U7 (EF.e' (U7 (l':=[s.o1 (v+3)]) (EF.e' (U7 (l:=[s.o0 (v+3)]) (EF.e' (K5 (A2 (G0 (d':=.int (s.o0 (v+3):Nat)) (G0 (B0 rfl) (B0 rfl) sqo (aP3 hv)) A7 rfl rfl) A5) (show 1<=16777216 by decide))) (G0 (B0 rfl) A7 rfl rfl) (by simp;lia)))
      (EF.e' (K5 (A2 (G0 (d':=.int (s.o1 (v+3):Nat)) (G0 (B0 rfl) (B0 rfl) sqo (aP3 hv)) A7 rfl rfl) A5) (show 1<=16777216 by decide))) (by simp;lia))) (G0 (B0 rfl) A7 rfl rfl) (by simp;lia)) ?_ (show 13<14 by decide))
     show W K _ (rh2 m F G oD iD pD hD X U x8 c (.own ((List.range (v+3)).map λz=>lN (s.row z))) (.val (.int (v:Int))) (.val (.tuple [lN (s.i0 (v+3)),lN (s.i1 (v+3)),lN (s.i2 (v+3))])) (.own (nI ([s.o0 (v+3)]++s.i2 (v+3)++[s.o1 (v+3)]++s.i0 (v+3))))) _
     refine P9 (ds:=(List.range (v+3)).map λz=>lN (s.row z)) (d:=lN (s.row (v+3))) rfl (EF.toN (U7 (l:=[s.o0 (v+3)]++s.i2 (v+3)++[s.o1 (v+3)]++s.i0 (v+3)++[s.o2 (v+3)]) (l':=(s.i1 (v+3)).reverse) (EF.e' (U7 (l:=[s.o0 (v+3)]++s.i2 (v+3)++[s.o1 (v+3)]++s.i0 (v+3)) (l':=[s.o2 (v+3)]) (J8 rfl) (EF.e' (K5 (A2 (G0 (d':=.int (s.o2 (v+3):Nat)) (G0 (B0 rfl) (B0 rfl) sqo (aP3 hv)) A7 rfl rfl) A5) (show 1<=16777216 by decide))) (by simp;lia)))
      (EF.e' (cG9 (G0 (B0 rfl) A7 rfl rfl))) (by simp;lia)) (by rw[Rv];simp)) ?_ ⟨.val (.int (v:Int)),.val (.tuple [lN (s.i0 (v+3)),lN (s.i1 (v+3)),lN (s.i2 (v+3))]),.own (nI ([s.o0 (v+3)]++s.i2 (v+3)++[s.o1 (v+3)]++s.i0 (v+3))),⟨rfl,rfl,rfl⟩,?_⟩ (cB4 b6 b7 b8 b9 rfl rfl rfl rfl)
     .rw[Aa3,Bc];unfold sizeLine;lia
     .have er:(List.range (v+3)).map (λz=>lN (s.row z))++[lN (s.row (v+3))]=(List.range (v+1+3)).map λz=>lN (s.row z):=by
       rw[show v+1+3=(v+3)+1 by lia,Ca (n:=v+3),Ad2];rfl
      rw[er];rfl
    rintro _ ⟨x11,x12,x13,⟨b11,b12,b13⟩,rfl⟩;rw[rng_len];have e4:((((List.range m).map λj=>lN [s.o0 (j+3),s.o1 (j+3),s.o2 (j+3)]).length:Int)).toNat=m:=by simp
    rw[e4];refine bU1 (i:=10) rfl ?_;exact E1 (N2 (A2 (B0 rfl) (A2 (B0 rfl) A5))) (by rw[<- hoD])
   .have J:decide (((k1+1:Nat):Int)>1)=true:=by simp;lia
    rw[J,Ae rfl];have hlt:Y<q.length:=by lia
    have e1:(q++[1]).drop Y=q[Y]::(q++[1]).drop (Y+1):=by
     rw[Cm (by simp;lia),List.getElem_append_left hlt]
    have e2:q.take (Y+1)=q.take Y++[q[Y]]:=Bx hlt
    refine bZ8 (i:=3) (j:=5) (d:=.int (q[Y]:Nat)) (u0:=K0 (m+3) s.i0 s.i1 (TT.put s.i2 2 (q.take Y))) (π:=[]++[2]++[2]) (aL3 2 (aL3 2 aI6 A7 rfl (λu _=>⟨u,rfl⟩)) A7 rfl (λu0 h=>by cases h;exact⟨_,aI7 (by lia)⟩))
     (cB5 (ds:=nI ((q++[1]).drop (Y+1)).reverse) ?_ (l7 b6 b7 b8 b9)) (by decide) ⟨_,rfl,rfl⟩ rfl rfl (cK1 (by lia)) ?_ ⟨k1-1,by lia,Y+1,by lia,?_⟩ (l7 (m:=m) (F:=F) (G:=G) (o:=O9 m s.o0 s.o1 s.o2) (i:=K0 (m+3) s.i0 s.i1 (TT.put s.i2 2 (q.take Y))) (p:=[0]) (h:=(q++[1]).drop (Y+1)) b6 b7 b8 b9)
    .show some (Sl.own (nI ((q++[1]).drop Y).reverse))=_
     rw[e1,List.reverse_cons,aJ1];rfl
    .rw[Aa3,TT.E3,Ad1];unfold sizeLine;lia
    .rw[bR8 (by lia),cE4,TT.E3,<- e2];rfl
  .have J:decide (((k0+1:Nat):Int)>1)=true:=by simp;lia
   rw[J,Ae rfl];obtain⟨x,hx⟩:∃x,s.path[j]? = some x:=⟨_,Aa2 (by lia)⟩
   have e1:s.path.drop j=x::s.path.drop (j+1):=by
    obtain⟨h1,h2⟩:=Ab0.mp hx;rw[<- h2];exact Cm h1
   have e2:s.h1 (j+1)=x::s.h1 j:=by
    unfold TT.S.h1;obtain⟨h1,h2⟩:=Ab0.mp hx;rw[Bx h1,h2];simp
   refine aR0 (ds:=nI (s.h1 j).reverse) (cB5 (d:=.int (x:Int)) (ds:=nI (s.path.drop (j+1)).reverse) ?_ (l7 b6 b7 b8 b9)) rfl rfl ?_ ⟨k0-1,by lia,j+1,by lia,?_⟩ (l7 (m:=m) (F:=F) (G:=G) (o:=O9 m s.o0 s.o1 s.o2) (i:=K0 (m+3) s.i0 s.i1 s.i2) (p:=s.path.drop (j+1)) (h:=s.h1 j) b6 b7 b8 b9)
   .show some (Sl.own (nI (s.path.drop j).reverse))=_
    rw[e1];simp[nI]
   .rw[G5,Ae2];unfold TT.S.h1 PySem.sizeLine;simp only[Ab7,Ae2,Ad1]
    lia
   .rw[e2];unfold rh
    simp[nI]
end
theorem aV7:C3 ["_law_script", "_law_k"] ["_law_script", "_law_k"] (B1 i5):={}
theorem aH8:C3 ["_law_turn", "_law_at"] ["_law_turn"] (B1 aA0):={}
theorem cQ3 {K:Frag}{pre:AF->AF->Prop}{n:Nat}(h:∀ds d,pre ds d->ds.length=n):∀vs H Q E,spL K pre vs H Q E->vs.length=n:=by
 rintro vs H Q E ⟨ds,S,d,_,r,p,_⟩;have e:=r.length;rw[e];exact h ds d p
def cl (ns:AD)(k:Int):Int:=(ns[k.toNat]?).getD 0
def cI5 (ds:AF)(d:PyData):Prop:=∃ns k,0<=k/\ds=[lI ns,.int k]/\d=.int (cl ns k)
def aQ7 (ds:AF)(d:PyData):Prop:=∃i,ds=[.int i]/\d=.bool true
def tN (l:AC):PyData:=.tuple (nI l)
abbrev tD (d:AA):PyData:=.tuple (d.map tN)
abbrev vD (d:AA):Sl:=.val (tD d)
def dE9 (ds:AF)(d:PyData):Prop:=∃l:AC,l≠[]/\l.length<=10000/\ds=[lN l]/\d=tN (TT.M5 l)
theorem aB8 (M:Nat):∀l:AC,(l.map λ(x:Nat)=>(x:Int)).idxOf (M:Int)=l.idxOf M
 | []=>rfl
 | b::l=>by
  rw[Ac7,List.idxOf_cons,List.idxOf_cons,aB8 M l];by_cases e:b=M
  .subst e;simp
  .have e':¬(b:Int)=(M:Int):=by lia
   have h1:(b==M)=false:=by simpa using e
   have y:((b:Int)==(M:Int))=false:=by simpa using e'
   rw[h1,y]
section
variable {P:Program}{w:World}{K:Frag}{mg:Str->Option Value}{base:Heap}{a:Ad}
theorem cI0 (T:Tx K mg a):J0 P w K mg base CX0 1 a.aD2 a.aC6 ["_law_script", "_law_k"] (spV K cI5):=by
 refine T.M8.F.ok aV7 (W7 (by rintro ds d ⟨_,_,_,rfl,_⟩;rfl)) (λz A outer s H vs Q E m h=>?_)
 obtain⟨ds,S,d,j,r,⟨e,k,c,rfl,rfl⟩,q⟩:=h;refine⟨_,(A3 (G9 (C1 bD3 (pv 1) (B5 N8 (by rfl) T.M4 Am (A0 (pv 0) A1)) (C6 _)) (A6 (B7 (B8 C8 (pv 0) (pv 1) (λ_ _=>rfl)))) C5)
   (A6 (B7 A4))),L6 j r ?_ q⟩
 refine A8 (O8 (C4 (aD3 (B0 rfl) (P5 (A2 (B0 rfl) A5)))) (λh=>(E1 (d:=.int (cl e k)) (G0 (B0 rfl) (B0 rfl) rfl ?_) rfl)) (λh=>E2 ?_))
 .have h:k<(e.map PyData.int).length:=An h
  rw[Aa3]at h;refine S1 k.toNat (by lia) ?_
  have y:k.toNat<e.length:=by lia
  rw[Aa9,Aa2 y];unfold cl;rw[Aa2 y];rfl
 have h:¬k<((e.map PyData.int).length:Int):=Ao h
 rw[Aa3]at h;refine(E1 A7 ?_);show PyData.int 0=.int (cl e k);unfold cl;rw[Ad6 (by lia)];rfl
theorem bU6 (T:Tx K mg a):J0 P w K mg base CX0 1 a.aO1 a.aM0 ["_law_turn"] (spV K dE9):=by
 refine T.w5.F.ok aH8 (W7 (by rintro ds d ⟨_,_,_,rfl,_⟩;rfl)) (λU A outer s H vs Q E B h=>?_)
 obtain⟨ds,S,d,M,r,⟨l,Y,D,rfl,rfl⟩,q⟩:=h;refine⟨_,(A3 (psS 1 aH8 (N3 Ab1 PySem.F.slot_list_index PySem.F.type_list_index (bI3 K) (pv 0) (A0 (B5 (bJ8 K rfl) (by rfl) T.bH1 boot_min (A0 (pv 0) A1)) A1)))
   (A6 (B7 (L7 S4 (by rfl) T.R8 boot_tuple (A0 (B2 (Q1 K) (Q7 bM5 (pv 0) (T1 (pv 1)) W9) (Q7 bM5 (pv 0) W9 (T1 (pv 1)))) A1))))),L6 M r ?_ q⟩
 obtain⟨k,c⟩:=TT.bM8 Y;have J:lN l=lI (l.map λ(x:Nat)=>(x:Int)):=by unfold lN lI nI;simp
 have X:((TT.mn l:Nat):Int)∈(l.map λ(x:Nat)=>(x:Int))/\∀z∈(l.map λ(x:Nat)=>(x:Int)),((TT.mn l:Nat):Int)<=z:=⟨Aa8.mpr ⟨_,k,rfl⟩,λz R=>by
  obtain⟨y,N,rfl⟩:=Aa8.mp R
  have:=c y N
  lia⟩
 have j:=aB8 (TT.mn l) l
 have e:l.idxOf (TT.mn l)<=l.length:=Cw (Ac4 k)
 refine A8 (C9 (d:=.int (l.idxOf (TT.mn l):Nat)) ?_ ?_)
 .have h:=bW2 (K:=K) (m:=true) (ρ:=sl0 ["_law_turn", "_law_at"].length [lI (l.map λ(x:Nat)=>(x:Int))]) (ta:=F0 0) v0 (dS1 (A2 v0 A5) X) X.1
  rw[j]at h;rw[J];exact h
 refine E1 (X1 (A2 (EF.e' (bP4 (EF.e' (cV1 (ds:=nI l) (B0 rfl) (X6 (B0 rfl)) aS2 (M0 l))) (EF.e' (cV1 (ds:=nI l) (B0 rfl) aS2 (X6 (B0 rfl)) (M0 l))) (X5 _ _ (M0 l)) (X5 _ _ (M0 l)) ?_)) A5) ?_) ?_
 .rw[aY8 (by rw[G5];exact e),bP7 (by rw[G5];exact e),Bb,Ad1,G5];unfold sizeLine;lia
 .rw[aE6,X5 _ _ (M0 l),X5 _ _ (M0 l)];rfl
 .show PyData.tuple _=tN _
  rw[aY8 (by rw[G5];exact e),bP7 (by rw[G5];exact e)]
  unfold tN TT.M5 nI
  simp
end
end K05
namespace LV
open PySem L2
section
theorem dD3 {i:Nat}{k:Int}{R:AE}(n:Nat)(Y:E K true t ρ d)(hi:ρ[i]? = some (.own ds))(X:E K false tb ρ (.int k))(y:k=n)(J:n<ds.length)(U:R.nx (ρ.set i (.own (ds.set n d))))(nb:V7 ρ=true:=by rfl) :
  W K (aK1 t (dX2 (F0 i) tb cS1)) ρ R:=λS B D σ H o I s=>by
 refine Y S B σ H o I _ λx m j M=>?_
 obtain⟨p,hp,a,xs,b,c⟩:=(I.grow j).own i ds hi;refine⟨_,a,?_⟩;refine X S B σ m o (I.grow j) _ λw N e z=>?_
 cases z
 have Q:=c.length
 refine⟨p,xs,k,n,rfl,rfl,e _ _ b,by unfold ixN;rw[Ae (by lia),Ae (by lia)];simp[y],?_⟩
 exact s.nx _ σ _ _ (((I.grow j).grow e).upd hi hp ((c.mono (N5 e)).set n (M.mono (N5 e))) (N7 nb)) U
theorem Reps.rep (r:Reps K H xs ds):∀n:Nat,Reps K H (List.replicate n xs).flatten (List.replicate n ds).flatten
 | 0=>.nil
 | n+1=>by
  rw[Be,Be,Ci,Ci];exact r.append (Reps.rep r n)
theorem bT9 (h:M9 ds=true):∀n:Nat,M9 (List.replicate n ds).flatten=true
 | 0=>rfl
 | n+1=>by rw[Be,Ci,aE6,h,bT9 h n];rfl
theorem dD6 {k:Int}(X:EF K ta ρ ds)(U:E K false tb ρ (.int k))(hi:M9 ds=true)(h1 : -(2^63)<=k)(Y:k<2^63)(J:ds.length*k.toNat<=sizeLine):EF K (tOp eD5 ta tb) ρ (List.replicate k.toNat ds).flatten:=λS B σ H o I Q q=>
 X S B σ H o I _ λp xs c z D m N=>U S B σ c o (I.grow z) _ λy s w R=>by
  cases R
  have j:Reps K s xs ds:=(N.mono T5).mono w
  refine⟨p,k,xs,rfl,rfl,w _ _ m,h1,Y,by rw[j.length];exact J,λM e=>?_⟩
  exact q M _ _ (L2.Same.tr (L2.Same.tr z w) (D4 e)) (S8 (L2.Same.tr z w) e) B6 (aE8 (I.grow (L2.Same.tr z w)).lists e (j.rep _) (bT9 hi _))
end
section
theorem bT6 {H:Hp}:∀{ts:AB} {vs:List V},Reps K H vs (ts.map tI)->(∀t∈ts,t≠[])->TupsV K H vs ts
 | [],_,r,_=>by cases r;exact trivial
 | t::ts,_,r,h=>by
  cases r with
  | cons a b=>
   refine⟨?_,bT6 b λt e=>h t (by simp[e])⟩
   cases a with
   | tup s r=>rw[r.ints]at s;exact⟨_,rfl,s,h t (by simp)⟩
theorem bJ9 {H:Hp}{vs:List V}{ts:AB}(r:Reps K H vs (ts.map tI)):∀{q:AC},(∀i∈q,i<vs.length)->Reps K H (q.map λi=>vs.getD i .non) ((q.map λi=>ts.getD i []).map tI)
 | [],_=>.nil
 | i::q,h=>by
  have hi:=h i (by simp)
  have z:=r.length
  rw[Aa3]at z;obtain⟨v,h1,y⟩:=r.get' (i:=i) (d:=tI (ts.getD i [])) (by
   rw[Aa9,Aa2 (by lia)]
   simp[List.getD,Aa2 (show i<ts.length by lia)])
  have e:vs.getD i .non=v:=by simp[List.getD,h1]
  rw[Ac7,Ac7,Ac7,e];exact .cons y (bJ9 r λj w=>h j (by simp[w]))
theorem bS6 {t:TA}{ts ss:AB}(U:A K false t ρ [.list (ts.map tI)])(k:∀t∈ts,t≠[])(X:ts.length<64)(hp:ss.Perm ts)(N:ss.Pairwise O2) :
  EF K (tCB (λxs H Q=>∃(p:Addr) (ys:List V) (ts:AB),xs=[.ref p]/\SqL K H p ys/\TupsV K H ys ts/\ys.length<64 /\
   ∀a (q:AC),H a=none->q.Perm (List.range ys.length)->(q.map λi=>ts.getD i []).Pairwise O2->Q (.ref a) (upd H a (.lst (q.map λi=>ys.getD i .non)))) t) ρ (ss.map tI):=
 eJ3 U (aC8 dB1 ss) λH vs Q r q=>by
  cases r with
  | cons a b=>
   cases b
   cases a with
   | @lst p xs _ s r=>
    have M:=r.length
    rw[Aa3]at M;refine⟨p,xs,ts,rfl,s,bT6 r k,by lia,λa z h1 w m=>q a _ h1 ?_⟩
    have e:(z.map λi=>ts.getD i [])=ss:=by
     have y:(z.map λi=>ts.getD i []).Perm ts:=by
      have c:(z.map λi=>ts.getD i []).Perm ((List.range xs.length).map λi=>ts.getD i []):=w.map _
      have Y:(List.range xs.length).map (λi=>ts.getD i [])=ts:=by
       refine List.ext_getElem? λj=>?_
       by_cases J:j<xs.length
       .rw[S3 J];simp[List.getD,Aa2 (show j<ts.length by lia)]
       .rw[Ad6 (by simp;lia),Ad6 (by lia)]
      rw[Y]at c;exact c
     exact List.Perm.eq_of_pairwise (le:=O2) (λa b _ _ h1 w=>bV9 a b h1 w) m N (y.trans hp.symm)
    have:=bJ9 r (q:=z) λi hi=>Ab5.mp (w.mem_iff.mp hi)
    rw[e]at this;exact this
end
end LV
namespace K05
open PySem L2 LV PyProof.Rows
theorem bE9:C3 ["_law_cell", "_law_k"] ["_law_cell", "_law_k"] (B1 aA6):={}
theorem cO5 (h : -1000000000000000000<i/\i<1000000000000000000)(h' : -1000000000000000000<j/\j<1000000000000000000):CMulB i j:=by
 have:(1000000000000000000:Nat)<2^512:=by decide
 constructor <;> lia
def mx0 (c k:Int):Int:=(c % 1000000007*(k+3)*48271+(k+1)*(k+5)*69621) % 2147483647
def mx (c k:Int):Int:=mx0 c k*40692 % 2147483399
theorem eF8 (c k:Int):0<=mx0 c k/\mx0 c k<2147483647:=⟨Bs _ (by decide),Ce _ (by decide)⟩
theorem eB5 (c k:Int):0<=mx c k/\mx c k<2147483399:=⟨Bs _ (by decide),Ce _ (by decide)⟩
def bT1 (ds:AF)(d:PyData):Prop:=∃c k,(0<=k/\k<=1000)/\ds=[.int c,.int k]/\d=.int (mx c k)
theorem dF9 {x y A B:Int}(h:0<=x/\x<=A)(h':0<=y/\y<=B):0<=x*y/\x*y<=A*B:=⟨Int.mul_nonneg h.1 h'.1,Int.mul_le_mul h.2 h'.2 h'.1 (Int.le_trans h.1 h.2)⟩
section
variable {P:Program}{w:World}{K:Frag}{mg:Str->Option Value}{base:Heap}{a:Ad}
theorem bC2 (T:Tx K mg a):J0 P w K mg base CX0 1 a.aN5 a.aN7 ["_law_cell", "_law_k"] (spV K bT1):=by
 refine T.P6.F.ok bE9 (W7 (by rintro ds d ⟨_,_,_,rfl,_⟩;rfl)) (λz A outer s H vs Q E U h=>?_)
 obtain⟨ds,S,d,j,r,⟨c,k,⟨X,h1⟩,rfl,rfl⟩,q⟩:=h;have e:0<=c % 1000000007/\c % 1000000007<=1000000007:=⟨Bs _ (by decide),Int.le_of_lt (Ce _ (by decide))⟩
 have m:=dF9 e (y:=k+3) (B:=2000) ⟨by lia,by lia⟩
 have Y:=dF9 (x:=k+1) (A:=2000) (y:=k+5) (B:=2000) ⟨by lia,by lia⟩ ⟨by lia,by lia⟩
 have b4:=eF8 c k
 refine⟨_,(A6 (B7 (B2 K7 (B2 k7 (B2 K7 (B2 K8 (B2 k7 (B2 k7 (B2 K7 (pv 0) A4) (B2 K8 (pv 1) A4)) A4) (B2 k7 (B2 k7 (B2 K8 (pv 1) A4) (B2 K8 (pv 1) A4)) A4)) A4) A4) A4))),L6 j r ?_ q⟩;refine E1 (d:=.int (mx c k)) (e_i (e_i (i:=mx0 c k) (e_i (P3 (e_i (e_i (e_i (B0 rfl) A7 ?_) (P3 (B0 rfl) A7) ?_) A7 ?_) (e_i (e_i (P3 (B0 rfl) A7) (P3 (B0 rfl) A7) ?_) A7 ?_)) A7 ?_) A7 (cO5 (by lia) (by lia))) A7 (by decide)) rfl
 .decide
 .exact cO5 (by lia) (by lia)
 .exact cO5 (by lia) (by lia)
 .exact cO5 (by lia) (by lia)
 .exact cO5 (by lia) (by lia)
 .decide
end
end K05
namespace TT
def pk:Nat->Int->AC->AC
 | 0,_,_=>[]
 | n+1,r,l=>l.getD (r % l.length).toNat 0::pk n (r / l.length) (l.eraseIdx (r % l.length).toNat)
theorem cH7 {r:Int}{l:AC}(h:l≠[]):(r % l.length).toNat<l.length:=by
 have y:0<l.length:=Dc.mpr h
 have h1:=Bs r (b:=(l.length:Int)) (by lia)
 have e:=Ce r (b:=(l.length:Int)) (by lia)
 lia
theorem bB7:∀(l:AC) (i:Nat) (h:i<l.length),(l[i]::l.eraseIdx i).Perm l
 | a::l,0,h=>.refl _
 | a::l,i+1,h=>by
  have ih:=bB7 l i (by simpa using h)
  simp only[List.getElem_cons_succ,List.eraseIdx_cons_succ];exact(List.Perm.swap _ _ _).trans (ih.cons a)
theorem bL8:∀(n:Nat) (r:Int) (l:AC),l.length=n->(pk n r l).Perm l
 | 0,r,l,h=>by rw[List.length_eq_zero_iff.mp h];exact .nil
 | n+1,r,l,h=>by
  have y:l≠[]:=λe=>by rw[e]at h;simp at h
  have hi:=cH7 (r:=r) y
  unfold pk;have e:l.getD (r % l.length).toNat 0=l[(r % l.length).toNat]:=by simp[List.getD,Aa2 hi]
  rw[e];have w:=bL8 n (r / l.length) (l.eraseIdx (r % l.length).toNat) (by rw[List.length_eraseIdx_of_lt hi];lia)
  exact(w.cons _).trans (bB7 l _ hi)
theorem eI1 (h:l.Perm ((List.range m).map (· + 3))):Nm (m+3) λv=>([0,1,2]++l).getD v 0:=by
 have s:l.length=m:=by rw[h.length_eq];simp
 have nd:([0,1,2]++l).Nodup:=by
  have h1:l.Nodup:=h.nodup_iff.mpr (Ae0.mpr (Dj.imp λh e=>h (by lia)))
  have k:∀x∈l,3<=x:=λx hx=>by
   obtain⟨y,_,e⟩:=Aa8.mp (h.mem_iff.mp hx)
   lia
  refine Aa4.mpr ⟨by decide,h1,λa j b c e=>?_⟩
  have:=k b c
  simp at j;lia
 have lt:∀x∈[0,1,2]++l,x<m+3:=λx hx=>by
  rcases Aa0.mp hx with hx | hx
  .simp at hx;lia
  .obtain⟨y,X,e⟩:=Aa8.mp (h.mem_iff.mp hx)
   have:=Ab5.mp X
   lia
 have len:([0,1,2]++l).length=m+3:=by simp[s]
 have at_:∀v,(z:v<m+3)->([0,1,2]++l).getD v 0=([0,1,2]++l)[v]'(by lia):=λv z=>by rw[Ac0,Aa2 (by lia)];rfl
 refine⟨λv z=>?_,λv w z Y e=>?_,rfl,rfl,rfl⟩
 .show([0,1,2]++l).getD v 0<m+3
  rw[at_ v z];exact lt _ (Cs _)
 .have e:([0,1,2]++l).getD v 0=([0,1,2]++l).getD w 0:=e
  rw[at_ v z,at_ w Y]at e;exact(List.getElem_inj nd).mp e
end TT
namespace K05
open PySem L2 LV PyProof.Rows
theorem K9:C3 ["_law_cell", "_law_m", "_law_names_here", "_law_rest", "_law_k", "_law_left", "_law_ranks"] ["_law_cell", "_law_m"] (B1 w4):={}
def rs (c:Int):Nat->Int
 | 0=>c / 2
 | j+1=>rs c j / 4096
def prs (c:Int)(m:Nat):AB:=(List.range m).map λ(k:Nat)=>[mx c (40+(k:Int)),(k:Int)]
def srt (c:Int)(m:Nat):AB:=(prs c m).mergeSort λa b => !HT.k8 b a
def nm (c:Int)(m:Nat):AC:=[0,1,2]++(if c % 2=1 then TT.pk m (rs c m) ((List.range m).map (· + 3)) else(srt c m).map λt=>(t.getD 1 0).toNat+3)
theorem aC2 (c:Int)(m:Nat):(srt c m).Perm (prs c m):=List.mergeSort_perm _ _
theorem dB3 (c:Int)(m:Nat):(srt c m).Pairwise O2:=by
 have:=List.pairwise_mergeSort (le:=λa b:AD => !HT.k8 b a) (λa b d h1 e=>by
  have:=aF8 a b d (by unfold O2;simpa using h1) (by unfold O2;simpa using e)
  unfold O2 at this;simp[this]) (λa b=>by
  rcases bK0 a b with h | h <;> unfold O2 at h <;> simp[h]) (prs c m)
 refine this.imp λh=>?_
 unfold O2;simpa using h
theorem eG6 (c:Int)(m:Nat):TT.Nm (m+3) λv=>(nm c m).getD v 0:=by
 unfold nm;refine TT.eI1 ?_;split
 .exact TT.bL8 _ _ _ (by simp)
 .refine((aC2 c m).map _).trans ?_
  have:(prs c m).map (λt=>(t.getD 1 0).toNat+3)=(List.range m).map (· + 3):=by
   unfold prs;rw[Ae3];rfl
  rw[this]
theorem eC4 (c:Int)(m:Nat):(nm c m).length=m+3:=by
 unfold nm;split
 .rw[Ab7,(TT.bL8 m (rs c m) _ (by simp)).length_eq];simp;lia
 .rw[Ab7,Aa3,(aC2 c m).length_eq];simp[prs];lia
def dC9 (ds es:AF):Prop:=∃(c:Int) (m:Nat),m<=20/\ds=[.int c,.int (m:Int)]/\es=nI (nm c m)
theorem bJ6:∀(l:List α) (n:Nat),(l.map f).eraseIdx n=(l.eraseIdx n).map f
 | [],n=>rfl
 | a::l,0=>rfl
 | a::l,n+1=>by simp[List.eraseIdx_cons_succ,bJ6 l n]
def f1 (c:Int):PyData->Option PyData
 | .int k=>some (tI [mx c (40+k),k])
 | _=>none
def f2:PyData->Option PyData
 | .tuple [_,.int k]=>some (.int (3+k))
 | _=>none
theorem S7 {α β:Type}{f g:α->Option β}:∀{l:List α},(∀x∈l,f x=g x)->l.filterMap f=l.filterMap g
 | [],_=>rfl
 | a::l,h=>by rw[Ay,Ay,h a (by simp),S7 λx e=>h x (by simp[e])]
theorem eC1 (c:Int)(m:Nat):(Y9 0 m).filterMap (f1 c)=(prs c m).map tI:=by
 unfold Y9 prs;rw[Ar,Ae3,<- List.filterMap_eq_map];refine S7 λx _=>?_
 show f1 c (.int (0+(x:Int)))=_
 rw[Int.zero_add];rfl
theorem cK6 (h:t∈srt c m):∃k:Nat,t=[mx c (40+(k:Int)),(k:Int)]:=by
 have:=(aC2 c m).mem_iff.mp h
 obtain⟨k,_,e⟩:=Aa8.mp this;exact⟨k,e.symm⟩
theorem dT7 (c:Int)(m:Nat):((srt c m).map tI).filterMap f2=nI ((srt c m).map λt=>(t.getD 1 0).toNat+3):=by
 unfold nI;rw[Ar,Ae3,<- List.filterMap_eq_map];refine S7 λt e=>?_
 obtain⟨k,rfl⟩:=cK6 e;show some (PyData.int (3+(k:Int)))=some (PyData.int ((((k:Int)).toNat+3:Nat):Int))
 congr 2
 lia
theorem nd1:(["_law_k", "_law_cell"]:AH).Nodup:=by decide +kernel
theorem nd2:(["_law_rank"]:AH).Nodup:=by decide +kernel
section
variable {P:Program}{w:World}{K:Frag}{mg:Str->Option Value}{base:Heap}{a:Ad}
theorem cX4 (T:Tx K mg a):J0 P w K mg base CX0 2 a.aP1 a.aQ0 ["_law_cell", "_law_m"] (spL K dC9):=by
 have y := @bC2 P w K mg base a T
 refine T.aM6.F.ok K9 (cQ3 (by rintro ds d ⟨_,_,_,rfl,_⟩;rfl)) (λcdv A outer s H vs Q E hr h=>?_)
 obtain⟨ds,S,es,hS,r,⟨c,m,hm,rfl,rfl⟩,q⟩:=h;refine⟨_,(A3 (psS 2 K9 (D5 (A0 A4 (A0 A4 (A0 A4 A1)))))
   (A3 (G9 (C1 a8 (B2 K7 (pv 0) A4) A4 (C6 _)) (A3 (psS 3 K9 (B2 O5 (pv 0) A4))
   (A3 (G6 Ai rfl (D9 rfl T.F7 (A0 (pv 1) A1)) (pgN 4 K9) (A6 (psS 3 K9 (B2 O5 (pv 3) A4))))
   (A3 (psS 5 K9 (L7 (bE2 rfl) (by rfl) T.bA8 boot_list (A0 (dO6 rfl T.F7 (A0 A4 (A0 (B2 K8 (pv 1) A4) A1))) A1)))
   (A3 (G6 Ai rfl (D9 rfl T.F7 (A0 (pv 1) A1)) (pgN 4 K9) (A3 (G7 (N3 Ab1 Ah Ag E6 (pv 2) (A0 (N3 Ab1 PySem.F.slot_list_pop PySem.F.type_list_pop cT1 (pv 5) (A0 (B2 K7 (pv 3) (B5 N8 (by rfl) T.M4 Am (A0 (pv 5) A1))) A1)) A1)))
   (A6 (psS 3 K9 (B2 O5 (pv 3) (B2 K8 (B5 N8 (by rfl) T.M4 Am (A0 (pv 5) A1)) A4))))))
   (A6 (B7 (pv 2))))))) C5)
   (A3 (psS 6 K9 (B5 (bB4 K) (by rfl) T.aQ6 boot_sorted (A0 (L9 (T:=["_law_k"]) (N':=["_law_k", "_law_cell"]) (is:=[0]) rfl (.of rfl rfl rfl (by exact⟨rfl,trivial⟩) rfl rfl rfl (by first | exact⟨⟨_,rfl,.inl rfl,.inl rfl⟩,trivial⟩ | exact⟨⟨_,rfl,.inr rfl,.inl rfl⟩,trivial⟩)) (D9 rfl T.F7 (A0 (pv 1) A1)) (K2 (by decide)) λ_ _ _ _=>⟨(F1 (i:=0) nd1 rfl (Or.inl rfl)),G4,(E9 (A0 (pcl y hr T.P6 (A0 (pv 1) (A0 (B2 K8 A4 (pv 0)) A1))) (A0 (pv 0) A1)))⟩) A1)))
   (A6 (B7 (B2 (Q1 K) (pv 2) (L9 (T:=["_law_rank"]) (N':=["_law_rank"]) (is:=[]) rfl (.of rfl rfl rfl trivial rfl rfl rfl trivial) (T3 (pv 6)) (K2 (by decide)) λ_ _ _ _=>⟨(F1 (i:=0) nd2 rfl (Or.inl rfl)),G4,(B2 K8 A4 (B8 (ixK K) (pv 0) A4 (λ_ _=>rfl)))⟩))))))),aR9 hS r ?_ q⟩
 refine A8 (K6 (K5 (A2 A7 (A2 A7 (A2 A7 A5)))) ?_ (show 2<7 by decide))
 show W K _ [vI c,vI (m:Int),.own (nI [0,1,2]),.no,.no,.no,.no] _
 refine A8 (O8 (C4 (Y6 (e_i (B0 rfl) A7 (by decide)) A7)) (λh=>?_) (λh=>E2 ?_))
 .have h:c % 2=1:=An h
  refine A8 (C9 (d:=.int (rs c 0)) (e_i (B0 rfl) A7 ⟨by decide,by decide⟩) ?_)
  refine A8 (O4 (N1 (A2 (B0 rfl) A5) ?_ ?_) (λj ρ=>∃X,X.nb=true/\ρ=[vI c,vI (m:Int),.own (nI [0,1,2]),vI (rs c j),X,.no,.no]) ⟨.no,rfl,rfl⟩ ?_ ?_)
  .lia
  .lia
  .rintro j d _ J ⟨X,b4,rfl⟩;obtain⟨rfl,hj⟩:=N0 J;refine⟨_,B9,?_⟩;exact C9 (d:=.int (rs c (j+1))) (e_i (B0 rfl) A7 ⟨by decide,by decide⟩) ⟨.val (.int (j:Int)),rfl,rfl⟩
  rintro _ ⟨X,b4,rfl⟩;rw[rng_len,Ac8];refine A8 (K6 (ds:=nI ((List.range m).map (· + 3))) ?_ ?_ (show 5<7 by decide))
  .have:=dV2 (K:=K) (ρ:=[vI c,vI (m:Int),.own (nI [0,1,2]),vI (rs c m),X,.no,.no]) (i:=3) (j:=(m:Int)+3) (A2 A7 (A2 (P3 v1 A7) A5)) (by lia)
   have e:Y9 3 ((m:Int)+3-3).toNat=nI ((List.range m).map (· + 3)):=by
    have e':((m:Int)+3-3).toNat=m:=by lia
    rw[e'];unfold Y9 nI;rw[Ae3];refine Av λx _=>?_
    show PyData.int (3+(x:Int))=PyData.int ((x+3:Nat):Int)
    congr 1;lia
   rw[e]at this;exact this
  refine A8 (O4 (N1 (A2 (B0 rfl) A5) ?_ ?_) (λj ρ=>∃X pre l r,X.nb=true/\TT.pk m (rs c m) ((List.range m).map (· + 3))=pre++TT.pk (m-j) r l/\l.length=m-j/\pre.length<=j/\ρ=[vI c,vI (m:Int),.own (nI ([0,1,2]++pre)),vI r,X,.own (nI l),.no]) ⟨X,[],(List.range m).map (· + 3),rs c m,b4,by simp,by simp,by simp,rfl⟩ ?_ ?_)
  .lia
  .lia
  .rintro j d _ J ⟨X,pre,l,Y,b4,U,M,hpl,rfl⟩;obtain⟨rfl,hj⟩:=N0 J;have hj:j<m:=by lia
   have N:l≠[]:=λe=>by rw[e]at M;simp at M;lia
   have hpos:0<l.length:=Dc.mpr N
   have z:=TT.cH7 (r:=Y) N
   have hnn:=Bs Y (b:=(l.length:Int)) (by lia)
   generalize hn:(Y % (l.length:Int)).toNat=n at z;refine⟨_,B9,?_⟩;show W K _ [vI c,vI (m:Int),.own (nI ([0,1,2]++pre)),vI Y,vI (j:Int),.own (nI l),.no] _;refine A8 (aR0 (i:=2) (j:=5) (ds:=nI ([0,1,2]++pre)) (d:=.int (l[n]:Nat)) (cT9 n (ds:=nI l) rfl (e_i (B0 rfl) (P5 (A2 (J8 rfl) A5)) ?_) ?_ ?_ ?_) rfl rfl ?_ ?_)
   .rw[G5];lia
   .rw[G5,<- hn];lia
   .unfold nI;rw[Aa9,Aa2 z];rfl
   .lia
   .rw[G5];simp;unfold sizeLine;lia
   have el:(nI l).eraseIdx n=nI (l.eraseIdx n):=by unfold nI;rw[bJ6]
   have B:((nI (l.eraseIdx n)).length:Int)+1=(l.length:Int):=by rw[G5,List.length_eraseIdx_of_lt z];lia
   have ea:nI ([0,1,2]++pre)++[PyData.int (l[n]:Nat)]=nI ([0,1,2]++(pre++[l[n]])):=by simp[nI]
   show W K _ [vI c,vI (m:Int),.own (nI ([0,1,2]++pre)++[PyData.int (l[n]:Nat)]),vI Y,vI (j:Int),.own ((nI l).eraseIdx n),.no] _
   rw[el,ea];refine C9 (d:=.int (Y / (l.length:Int))) ?_ ⟨.val (.int (j:Int)),pre++[l[n]],l.eraseIdx n,Y / (l.length:Int),rfl,?_,?_,?_,rfl⟩
   .rw[<- B];exact e_i (B0 rfl) (P3 (P5 (A2 (J8 rfl) A5)) A7) ⟨by lia,by lia⟩
   .rw[U];obtain⟨k,hk⟩:∃k,m-j=k+1:=⟨m-j-1,by lia⟩
    have hk':m-(j+1)=k:=by lia
    rw[hk,hk'];show pre++(l.getD (Y % (l.length:Int)).toNat 0::TT.pk k (Y / (l.length:Int)) (l.eraseIdx (Y % (l.length:Int)).toNat))=_;rw[hn,Ac0,Aa2 z]
    simp
   .rw[List.length_eraseIdx_of_lt z];lia
   .simp;lia
  rintro _ ⟨X,pre,l,Y,b4,U,M,hpl,rfl⟩;rw[rng_len,Ac8,Nat.sub_self]at U;refine bZ3 (ds:=nI ([0,1,2]++pre)) rfl ?_;show nI _=nI (nm c m);unfold nm;rw[Ae h,U];simp[TT.pk]
 have h:¬c % 2=1:=Ao h
 have D:(srt c m).length=m:=by rw[(aC2 c m).length_eq];simp[prs]
 have c1:=G8 (K:=K) (m:=true) (ρ:=[vI c,vI (m:Int),.own (nI [0,1,2]),.no,.no,.no,.no]) (n:=1) (is:=[0]) (g:=Q3 0) (tt:=bE1)
  (te:=cB1 (J9 (aO9 (spV K bT1) [] E0 (J9 (F0 1) (J9 (tOp (rI0 λi j=>V.int (i+j)) (tC (.int 40)) (F0 0)) W2))) (J9 (F0 0) W2))) (f1 c) (N1 (A2 v1 A5) (by lia) (by lia)) (by rw[rng_len];unfold sizeLine;lia) (λd J=>by
   obtain⟨i,hi⟩:=List.mem_iff_getElem?.mp J;obtain⟨rfl,hi⟩:=N0 hi;have hi:i<m:=by lia
   exact⟨_,B9,U3,N2 (A2 (G1 (A2 (B0 rfl) (A2 (P3 A7 (B0 rfl)) A5)) ⟨c,40+(i:Int),by lia,rfl,rfl⟩) (A2 (B0 rfl) A5))⟩)
 rw[Ac8,eC1]at c1;refine A8 (K6 (ds:=(srt c m).map tI) (bS6 (ts:=prs c m) (A2 (EF.e' c1) A5) (λt ht=>?_) ?_ (aC2 c m) (dB3 c m)) ?_ (show 6<7 by decide))
 .obtain⟨k,_,rfl⟩:=Aa8.mp ht;simp
 .simp[prs];lia
 show W K _ [vI c,vI (m:Int),.own (nI [0,1,2]),.no,.no,.no,.own ((srt c m).map tI)] _
 have c2:=G8 (K:=K) (m:=false) (ρ:=[vI c,vI (m:Int),.own (nI [0,1,2]),.no,.no,.no,.own ((srt c m).map tI)]) (n:=1) (is:=[]) (g:=Q3 0) (tt:=bE1)
  (te:=tOp (rI0 λi j=>V.int (i+j)) (tC (.int 3)) (tOp (rIx K) (F0 0) (tC (.int 1)))) f2 (W5 (J8 (i:=6) rfl)) (by rw[Aa3,D];unfold sizeLine;lia) (λd J=>by
   obtain⟨t,ht,rfl⟩:=Aa8.mp J;obtain⟨k,rfl⟩:=cK6 ht;exact⟨_,B9,U3,P3 A7 (G0 (bI9 rfl) A7 rfl rfl)⟩)
 rw[dT7]at c2
 have:=bQ2 (R:={nx:=λ_=>False,rl:=λe=>e=nI (nm c m)}) (bP4 (J8 (i:=2) rfl) (EF.e' c2) (M0 _) (M0 _) (by rw[G5,G5,Aa3,D];unfold sizeLine;simp;lia)) (by
  show _=nI (nm c m)
  unfold nm;rw[Ac h,<- aJ1])
 exact this
end
end K05
namespace TT
def pfg (N:Nat->Int):Nat->Nat×Nat
 | 0=>(0,0)
 | j+1=>((pfg N j).1+(N j % ((j:Int)+1-(pfg N j).1)).toNat,(pfg N j).2+(N j / 64 % ((((pfg N j).1+(N j % ((j:Int)+1-(pfg N j).1)).toNat:Nat):Int)+1-(pfg N j).2)).toNat)
def rF (N:Nat->Int)(j:Nat):Nat:=(pfg N (j+1)).1
def rG (N:Nat->Int)(j:Nat):Nat:=(pfg N (j+1)).2
theorem eI9 (N:Nat->Int):∀j,pv (rF N) j=(pfg N j).1
 | 0=>rfl
 | _+1=>rfl
theorem eH4 (N:Nat->Int):∀j,pv (rG N) j=(pfg N j).2
 | 0=>rfl
 | _+1=>rfl
theorem bW7 (N:Nat->Int)(j:Nat):rF N j=(pfg N j).1+(N j % ((j:Int)+1-(pfg N j).1)).toNat:=rfl
theorem cX7 (N:Nat->Int)(j:Nat):rG N j=(pfg N j).2+(N j / 64 % ((rF N j:Int)+1-(pfg N j).2)).toNat:=rfl
theorem bQ3 (N:Nat->Int):∀j,(pfg N j).1<=j/\(pfg N j).2<=(pfg N j).1/\(pfg N (j+1)).1<=j/\(pfg N (j+1)).2<=(pfg N (j+1)).1
 | j=>by
  have e:(pfg N j).1<=j/\(pfg N j).2<=(pfg N j).1:=by
   cases j with
   | zero=>exact⟨Aa7 _,Aa7 _⟩
   | succ i=>
    have:=bQ3 N i
    exact⟨by lia,this.2.2.2⟩
  have h1:rF N j<=j:=by
   rw[bW7];have h:=Ce (N j) (b:=(j:Int)+1-(pfg N j).1) (by lia)
   have y:=Bs (N j) (b:=(j:Int)+1-(pfg N j).1) (by lia)
   lia
  have z:(pfg N j).1<=rF N j:=by rw[bW7];lia
  have w:rG N j<=rF N j:=by
   rw[cX7];have h:=Ce (N j / 64) (b:=(rF N j:Int)+1-(pfg N j).2) (by lia)
   have y:=Bs (N j / 64) (b:=(rF N j:Int)+1-(pfg N j).2) (by lia)
   lia
  exact⟨e.1,e.2,h1,w⟩
theorem v9 (N:Nat->Int)(m:Nat):Rws (rF N) (rG N) m where
 f1:=λi _=>by rw[eI9,bW7];lia
 f2:=λi _=>(bQ3 N i).2.2.1
 g1:=λi _=>by rw[eH4,cX7];lia
 g2:=λi _=>(bQ3 N i).2.2.2
end TT
namespace K05
open PySem L2 LV PyProof.Rows
theorem sc__law_built:C3 ["_law_cell", "_law_cells", "_law_m", "_law_first", "_law_second", "_law_rest", "_law_i", "_law_number", "_law_low", "_law_turns", "_law_outs", "_law_names_here", "_law_called", "_law_triples", "_law_v"] ["_law_cell", "_law_cells", "_law_m"] (B1 z6):={}
def rr (c:Int)(j:Nat):Int:=if c % 2=1 then rs c j else c / 2
def nu (c:Int)(cells:AD)(j:Nat):Int:=if c % 2=1 then rs c j % 4096 else mx (cl cells j) j
def nf (c:Int)(m:Nat)(v:Nat):Nat:=(nm c m).getD v 0
def dA1 (ds:AF)(d:PyData):Prop:=∃(c:Int) (cells:AD) (m:Nat) (dr tr:AA),m<=7/\TT.Bt (TT.rF (nu c cells)) (TT.rG (nu c cells)) m (nf c m) dr tr/\ds=[.int c,lI cells,.int (m:Int)]/\d=.tuple [tD dr,tD tr]
def rb (c:Int)(cells:AD)(m:Nat)(f g:AD)(r:Int)(x6 x7 x8:Sl):List Sl:=[vI c,.val (lI cells),vI (m:Int),.own (f.map PyData.int),.own (g.map PyData.int),vI r,x6,x7,x8,.no,.no,.no,.no,.no,.no]
theorem dR8 {c:Int}{cells:AD}{m:Nat}{f g:AD}{r:Int}{x6 x7 x8:Sl}(e:x6.nb=true)(y:x7.nb=true)(w:x8.nb=true):V7 (rb c cells m f g r x6 x7 x8)=true:=by
 unfold rb;simp only[t9,e,y,w,Bool.true_and];rfl
theorem aW8 (F:Nat->Nat)(j:Nat):fl F (j+1)=fl F j++[(F j:Int)]:=by simp[fl,Ca]
def rc (c:Int)(cells:AD)(m:Nat)(x3 x4 r:PyData)(x6 x7 x8:Sl)(tD oD:PyData)(nmD L T:AF)(x14:Sl):List Sl:=[vI c,.val (lI cells),vI (m:Int),.val x3,.val x4,.val r,x6,x7,x8,.val tD,.val oD,.own nmD,.own L,.own T,x14]
theorem dP4 {c:Int}{cells:AD}{m:Nat}{x3 x4 r:PyData}{x6 x7 x8:Sl}{tD oD:PyData}{nmD L T:AF}{x14:Sl}(y:x6.nb=true)(w:x7.nb=true)(z:x8.nb=true)(e:x14.nb=true):V7 (rc c cells m x3 x4 r x6 x7 x8 tD oD nmD L T x14)=true:=by
 unfold rc;simp only[t9,y,w,z,e,Bool.true_and];rfl
def f3 (f:Nat->Nat):PyData->Option PyData
 | .int k=>some (.int (f k.toNat:Nat))
 | _=>none
theorem cS9 (f:Nat->Nat)(l:AC):(nI l).filterMap (f3 f)=nI (l.map f):=by
 unfold nI;rw[Ar,Ae3,<- List.filterMap_eq_map];exact S7 λx _=>rfl
theorem aZ8 (a:α):∀n:Nat,(List.replicate n [a]).flatten=List.replicate n a
 | 0=>rfl
 | n+1=>by rw[Be,Ci,aZ8 a n];rfl
theorem EF.to {K:Frag}{t:TE}{ρ:List Sl}{ds es:AF}(h:LV.EF K t ρ ds)(e:ds=es):LV.EF K t ρ es:=e▸h
theorem dX9 {F G:Nat->Nat}{m v:Nat}(R:TT.Rws F G m)(z:v<m+3):(TT.gst F G m).row v≠[]:=by
 have e:=TT.X0 R m (Aa7 _)
 obtain⟨p,hp⟩:=e.inv.pe;by_cases y:v=0
 .subst y;rw[TT.aL4];simp
 .by_cases h1:v=1
  .subst h1;rw[TT.bD8];simp
  .by_cases w:v=2
   .subst w;rw[TT.aP7,hp];simp
   .rw[TT.U0 (by lia) (by rw[e.k];exact z)];simp
theorem cJ6 {c:Int}{m p:Nat}(h:p<m+3):atI (nI (nm c m)) (p:Int)=some (.int (nf c m p:Nat)):=by
 refine S1 p rfl ?_;unfold nI nf;rw[Aa9,Ac0,Aa2 (by rw[eC4];exact h)];rfl
theorem bX1 {L:AF}{f:Nat->Nat}{n j:Nat}{g:Nat->PyData}{x:PyData}(y:f j<L.length)(inj:∀v,v<j->f v≠f j)(h:∀v,v<j->L[f v]? = some (g v))(w:x=g j):∀v,v<j+1->(L.set (f j) x)[f v]? = some (g v):=λv k=>by
 by_cases e:v=j
 .subst e;rw[As y,w]
 .rw[Ad0 (λz=>inj v (by lia) z.symm)];exact h v (by lia)
theorem bC3 {x:PyData}(e:imm x=true):∀{L:AF} (n:Nat),M9 L=true->M9 (L.set n x)=true
 | [],_,h=>h
 | a::L,0,h=>by simp[M9]at h ⊢;exact⟨e,h.2⟩
 | a::L,n+1,h=>by simp[M9]at h ⊢;exact⟨h.1,bC3 e n h.2⟩
theorem cC2 (l:AC):imm (tN l)=true:=by unfold tN;simp[imm,M0]
theorem nd3:(["_law_place", "_law_names_here"]:AH).Nodup:=by decide +kernel
section
variable {P:Program}{w:World}{K:Frag}{mg:Str->Option Value}{base:Heap}{a:Ad}
theorem cT0 (T:Tx K mg a):J0 P w K mg base CX0 3 a.aM9 a.aL0 ["_law_cell", "_law_cells", "_law_m"] (spV K dA1):=by
 have M := @bC2 P w K mg base a T
 have Y := @cI0 P w K mg base a T
 have J := @cW2 P w K mg base a T
 have R := @cX4 P w K mg base a T
 have U := @bU6 P w K mg base a T
 refine T.aN9.F.ok sc__law_built (W7 (by rintro ds d ⟨_,_,_,_,_,_,_,rfl,_⟩;rfl)) (λcdv A outer s H vs Q E hr h=>?_)
 obtain⟨ds,S,d,hS,r,⟨c,y,m,dr,tr,hm,B,rfl,rfl⟩,q⟩:=h;refine⟨_,(A3 (psS 3 sc__law_built (D5 A1))
   (A3 (psS 4 sc__law_built (D5 A1))
   (A3 (psS 5 sc__law_built (B2 O5 (pv 0) A4))
   (A3 (G6 Ai rfl (D9 rfl T.F7 (A0 (pv 2) A1)) (pgN 6 sc__law_built) (A3 (psS 7 sc__law_built (pcl M hr T.P6 (A0 (pcl Y hr T.M8 (A0 (pv 1) (A0 (pv 6) A1))) (A0 (pv 6) A1))))
   (A3 (G9 (C1 a8 (B2 K7 (pv 0) A4) A4 (C6 _)) (A3 (psS 7 sc__law_built (B2 K7 (pv 5) A4))
   (A6 (psS 5 sc__law_built (B2 O5 (pv 5) A4)))) C5)
   (A3 (psS 8 sc__law_built (bT8 (C1 aH0 (pv 6) A4 (C6 _)) (B8 C8 (pv 3) (aU4 aC1 A4) (λ_ _=>rfl)) A4))
   (A3 (G7 (N3 Ab1 Ah Ag E6 (pv 3) (A0 (B2 K8 (pv 8) (B2 K7 (pv 7) (B2 V4 (B2 K8 (pv 6) A4) (pv 8)))) A1)))
   (A3 (psS 8 sc__law_built (bT8 (C1 aH0 (pv 6) A4 (C6 _)) (B8 C8 (pv 4) (aU4 aC1 A4) (λ_ _=>rfl)) A4))
   (A6 (G7 (N3 Ab1 Ah Ag E6 (pv 4) (A0 (B2 K8 (pv 8) (B2 K7 (B2 O5 (pv 7) A4) (B2 V4 (B2 K8 (B8 C8 (pv 3) (aU4 aC1 A4) (λ_ _=>rfl)) A4) (pv 8)))) A1))))))))))
   (A3 (bO3 (pcl J hr T.aL7 (A0 (pv 3) (A0 (pv 4) A1))) (aZ6 (n:=2) rfl (S6 (pgN 9 sc__law_built) (S6 (pgN 10 sc__law_built) aP5))))
   (A3 (aZ1 (i:=11) sc__law_built.nd rfl (Or.inr rfl) (pcl R hr T.aM6 (A0 (pv 0) (A0 (pv 2) A1))))
   (A3 (psS 12 sc__law_built (B2 dE4 (D5 (A0 (E9 A1) A1)) (B2 K8 (pv 2) A4)))
   (A3 (psS 13 sc__law_built (B2 dE4 (D5 (A0 (E9 A1) A1)) (pv 2)))
   (A3 (G6 Ai rfl (D9 rfl T.F7 (A0 (B2 K8 (pv 2) A4) A1)) (pgN 14 sc__law_built) (A6 (bO3 (pcl U hr T.w5 (A0 (L9 (T:=["_law_place"]) (N':=["_law_place", "_law_names_here"]) (is:=[11]) rfl (.of rfl rfl rfl (by exact⟨rfl,trivial⟩) rfl rfl rfl (by first | exact⟨⟨_,rfl,.inl rfl,.inl rfl⟩,trivial⟩ | exact⟨⟨_,rfl,.inr rfl,.inl rfl⟩,trivial⟩)) (T3 (B8 C8 (pv 9) (pv 14) (λ_ _=>rfl))) (K2 (by decide)) λ_ _ _ _=>⟨(F1 (i:=0) nd3 rfl (Or.inl rfl)),G4,(B8 (ixK K) (pv 1) (pv 0) (λ_ _=>rfl))⟩) A1)) (cE0 (pv 12) (B8 C8 (pv 11) (pv 14) (λ_ _=>rfl)) bC7))))
   (A3 (G6 Ai rfl (D9 rfl T.F7 (A0 (pv 2) A1)) (pgN 14 sc__law_built) (A6 (bO3 (L7 S4 (by rfl) T.R8 boot_tuple (A0 (L9 (T:=["_law_place"]) (N':=["_law_place", "_law_names_here"]) (is:=[11]) rfl (.of rfl rfl rfl (by exact⟨rfl,trivial⟩) rfl rfl rfl (by first | exact⟨⟨_,rfl,.inl rfl,.inl rfl⟩,trivial⟩ | exact⟨⟨_,rfl,.inr rfl,.inl rfl⟩,trivial⟩)) (T3 (B8 C8 (pv 10) (pv 14) (λ_ _=>rfl))) (K2 (by decide)) λ_ _ _ _=>⟨(F1 (i:=0) nd3 rfl (Or.inl rfl)),G4,(B8 (ixK K) (pv 1) (pv 0) (λ_ _=>rfl))⟩) A1)) (cE0 (pv 13) (B2 V4 (B8 C8 (pv 11) (B2 K8 A4 (pv 14)) (λ_ _=>rfl)) A4) bC7))))
   (A6 (B7 (E9 (A0 (L7 S4 (by rfl) T.R8 boot_tuple (A0 (pv 12) A1)) (A0 (L7 S4 (by rfl) T.R8 boot_tuple (A0 (pv 13) A1)) A1))))))))))))))),L6 hS r ?_ q⟩
 generalize hN:nu c y=N at B;refine A8 (K6 (K5 A5) ?_ (show 3<15 by decide))
 refine A8 (K6 (K5 A5) ?_ (show 4<15 by decide))
 refine A8 (C9 (d:=.int (c / 2)) (e_i (B0 rfl) A7 ⟨by decide,by decide⟩) ?_)
 have r0:rr c 0=c / 2:=by unfold rr rs;split <;> rfl
 rw[<- r0];refine A8 (O4 (N1 (A2 (B0 rfl) A5) ?_ ?_) (λj ρ=>∃x6 x7 x8,(x6.nb=true/\x7.nb=true/\x8.nb=true)/\ρ=rb c y m (fl (TT.rF N) j) (fl (TT.rG N) j) (rr c j) x6 x7 x8) ⟨.no,.no,.no,⟨rfl,rfl,rfl⟩,rfl⟩ ?_ ?_)
 .lia
 .lia
 .rintro j d _ hd ⟨x6,x7,x8,⟨b6,b7,b8⟩,rfl⟩;obtain⟨rfl,hj⟩:=N0 hd;have hj:j<m:=by lia
  have PF:=TT.bQ3 N j
  have nuj:N j=nu c y j:=by rw[hN]
  have nn:0<=N j:=by
   rw[nuj];unfold nu;split
   .exact Bs _ (by decide)
   .exact(eB5 _ _).1
  refine⟨_,B9,?_⟩;refine A8 (C9 (d:=.int (mx (cl y j) j)) (G1 (A2 (G1 (A2 (B0 rfl) (A2 (B0 rfl) A5)) ⟨y,j,by lia,rfl,rfl⟩) (A2 (B0 rfl) A5)) ⟨_,j,by lia,rfl,rfl⟩) ?_)
  show W K _ (rb c y m (fl (TT.rF N) j) (fl (TT.rG N) j) (rr c j) (.val (.int (j:Int))) (.val (.int (mx (cl y j) j))) x8) _
  refine A8 (cF7 (rb c y m (fl (TT.rF N) j) (fl (TT.rG N) j) (rr c (j+1)) (.val (.int (j:Int))) (.val (.int (N j))) x8) (C4 (Y6 (e_i (B0 rfl) A7 (by decide)) A7)) (λh=>A8 (C9 (d:=.int (rr c j % 4096)) (e_i (B0 rfl) A7 (by decide)) (C9 (d:=.int (rr c j / 4096)) (e_i (B0 rfl) A7 ⟨by decide,by decide⟩) ?_))) (λh=>E2 ?_) ?_)
  .have h:c % 2=1:=An h
   have e1:rr c (j+1)=rr c j / 4096:=by unfold rr;rw[Ae h,Ae h];rfl
   have e2:N j=rr c j % 4096:=by rw[nuj];unfold nu rr;rw[Ae h,Ae h]
   rw[e1,e2];rfl
  .have h:¬c % 2=1:=Ao h
   have e1:rr c (j+1)=rr c j:=by unfold rr;rw[Ac h,Ac h]
   have e2:N j=mx (cl y j) j:=by rw[nuj];unfold nu;rw[Ac h]
   rw[e1,e2]
  have low:∀(X:Nat->Nat) (p:Nat),p=TT.pv X j->((j:Int)>0->atI ((fl X j).map PyData.int) (-1)=some (.int (p:Int))):=λX p hp h=>by
   obtain⟨i,rfl⟩:∃i,j=i+1:=⟨j-1,by lia⟩
   rw[aW8,Ad2,hp];exact aK9
  refine A8 (C9 (d:=.int ((TT.pfg N j).1:Nat)) (eG0 (C4 (aD3 (B0 rfl) A7)) (λh=>LV.E.imm (G0 (J8 rfl) (aU1 A7) rfl (low (TT.rF N) _ (TT.eI9 N j).symm (An h)))) (λh=>?_)) ?_)
  .have h:¬(j:Int)>0:=Ao h
   have:j=0:=by lia
   subst this;exact A7
  show W K _ (rb c y m (fl (TT.rF N) j) (fl (TT.rG N) j) (rr c (j+1)) (.val (.int (j:Int))) (.val (.int (N j))) (.val (.int ((TT.pfg N j).1:Nat)))) _
  have eF:((TT.pfg N j).1:Int)+N j % ((j:Int)+1-((TT.pfg N j).1:Int))=(TT.rF N j:Int):=by
   rw[TT.bW7]
   have:=Bs (N j) (b:=(j:Int)+1-(TT.pfg N j).1) (by lia)
   lia
  refine A8 (P9 rfl (P3 (B0 rfl) (e_i (B0 rfl) (P3 (P3 (B0 rfl) A7) (B0 rfl)) (by lia))) (by rw[Aa3];simp[fl];unfold sizeLine;lia) ?_ (dR8 rfl rfl rfl))
  rw[eF];have eF2:(fl (TT.rF N) j).map PyData.int++[PyData.int (TT.rF N j:Int)]=(fl (TT.rF N) (j+1)).map PyData.int:=by rw[aW8];simp
  rw[eF2];show W K _ (rb c y m (fl (TT.rF N) (j+1)) (fl (TT.rG N) j) (rr c (j+1)) (.val (.int (j:Int))) (.val (.int (N j))) (.val (.int ((TT.pfg N j).1:Nat)))) _;refine A8 (C9 (d:=.int ((TT.pfg N j).2:Nat)) (eG0 (C4 (aD3 (B0 rfl) A7)) (λh=>LV.E.imm (G0 (J8 rfl) (aU1 A7) rfl (low (TT.rG N) _ (TT.eH4 N j).symm (An h)))) (λh=>?_)) ?_)
  .have h:¬(j:Int)>0:=Ao h
   have:j=0:=by lia
   subst this;exact A7
  show W K _ (rb c y m (fl (TT.rF N) (j+1)) (fl (TT.rG N) j) (rr c (j+1)) (.val (.int (j:Int))) (.val (.int (N j))) (.val (.int ((TT.pfg N j).2:Nat)))) _
  have rFj:TT.rF N j=(TT.pfg N (j+1)).1:=rfl
  have rFle:(TT.pfg N j).1<=TT.rF N j:=by rw[TT.bW7];lia
  have eG:((TT.pfg N j).2:Int)+N j / 64 % ((TT.rF N j:Int)+1-((TT.pfg N j).2:Int))=(TT.rG N j:Int):=by
   rw[TT.cX7]
   have:=Bs (N j / 64) (b:=(TT.rF N j:Int)+1-(TT.pfg N j).2) (by lia)
   lia
  have hlF:atI ((fl (TT.rF N) (j+1)).map PyData.int) (-1)=some (.int (TT.rF N j:Int)):=by rw[aW8,Ad2];exact aK9
  refine P9 rfl (P3 (B0 rfl) (e_i (e_i (B0 rfl) A7 ⟨by decide,by decide⟩) (P3 (P3 (G0 (J8 rfl) (aU1 A7) rfl hlF) A7) (B0 rfl)) (by lia))) (by rw[Aa3];simp[fl];unfold sizeLine;lia) ?_ (dR8 rfl rfl rfl)
  rw[eG];have eG2:(fl (TT.rG N) j).map PyData.int++[PyData.int (TT.rG N j:Int)]=(fl (TT.rG N) (j+1)).map PyData.int:=by rw[aW8];simp
  rw[eG2];exact⟨.val (.int (j:Int)),vI (N j),vI ((TT.pfg N j).2:Nat),⟨rfl,rfl,rfl⟩,rfl⟩
 rintro _ ⟨x6,x7,x8,⟨b6,b7,b8⟩,rfl⟩;rw[rng_len,Ac8];refine bU1 (i:=3) rfl (bU1 (i:=4) rfl ?_);refine A8 (dS4 (m:=true) (G1 (A2 (B0 rfl) (A2 (B0 rfl) A5)) ⟨TT.rF N,TT.rG N,m,TT.v9 N m,by lia,rfl,rfl⟩) (bT4 (X2 B9 (X2 B9 aX9))) ?_)
 refine A8 (K6 (w9 (A2 (B0 rfl) (A2 (B0 rfl) A5)) ⟨c,m,by lia,rfl,rfl⟩) ?_ (show 11<15 by decide))
 have ND:=B.N
 have LT:=(TT.X0 (TT.v9 N m) m (Aa7 _)).inv.lt
 have LR:=TT.aX3 (TT.X0 (TT.v9 N m) m (Aa7 _)).inv
 rw[(TT.X0 (TT.v9 N m) m (Aa7 _)).k]at LT LR;refine A8 (K6 (ds:=List.replicate (m+3) (.tuple [])) ?_ ?_ (show 12<15 by decide))
 .refine EF.to (dD6 (k:=(m:Int)+3) (ds:=[.tuple []]) (K5 (A2 (N2 A5) A5)) (P3 (B0 rfl) A7) rfl (by lia) (by lia) ?_) ?_
  .show 1*((m:Int)+3).toNat<=_;unfold sizeLine;lia
  .have e:((m:Int)+3).toNat=m+3:=by lia
   rw[aZ8,e]
 refine A8 (K6 (ds:=List.replicate m (.tuple [])) ?_ ?_ (show 13<15 by decide))
 .refine EF.to (dD6 (k:=(m:Int)) (ds:=[.tuple []]) (K5 (A2 (N2 A5) A5)) (B0 rfl) rfl (by lia) (by lia) ?_) ?_
  .show 1*(m:Int).toNat<=_;unfold sizeLine;lia
  .rw[aZ8,Ac8]
 generalize htD:(PyData.list ((List.range (m+3)).map λv=>lN ((TT.gst (TT.rF N) (TT.rG N) m).row v)))=tD
 generalize hoD:(PyData.list ((List.range m).map λv=>lN [(TT.gst (TT.rF N) (TT.rG N) m).o0 (v+3),(TT.gst (TT.rF N) (TT.rG N) m).o1 (v+3),(TT.gst (TT.rF N) (TT.rG N) m).o2 (v+3)]))=oD
 show W K _ (rc c y m (lI (fl (TT.rF N) m)) (lI (fl (TT.rG N) m)) (.int (rr c m)) x6 x7 x8 tD oD (nI (nm c m)) (List.replicate (m+3) (.tuple [])) (List.replicate m (.tuple [])) .no) _
 have sqt:sq tD=some ((List.range (m+3)).map λv=>lN ((TT.gst (TT.rF N) (TT.rG N) m).row v)):=by rw[<- htD];rfl
 have sqo:sq oD=some ((List.range m).map λv=>lN [(TT.gst (TT.rF N) (TT.rG N) m).o0 (v+3),(TT.gst (TT.rF N) (TT.rG N) m).o1 (v+3),(TT.gst (TT.rF N) (TT.rG N) m).o2 (v+3)]):=by rw[<- hoD];rfl
 have imr:∀n:Nat,M9 (List.replicate n (PyData.tuple []))=true:=λn=>by
  induction n with
  | zero=>rfl
  | succ n ih=>rw[Be];simp[M9,ih];rfl
 refine A8 (O4 (N1 (A2 (P3 (B0 rfl) A7) A5) ?_ ?_) (λj ρ=>∃D L,D.nb=true/\L.length=m+3/\M9 L=true/\(∀v,v<j->L[nf c m v]? = some (tN (TT.M5 (((TT.gst (TT.rF N) (TT.rG N) m).row v).map (nf c m)))))/\ρ=rc c y m (lI (fl (TT.rF N) m)) (lI (fl (TT.rG N) m)) (.int (rr c m)) x6 x7 x8 tD oD (nI (nm c m)) L (List.replicate m (.tuple [])) D) ⟨.no,_,rfl,by simp,imr _,λv hv=>by lia,rfl⟩ ?_ ?_)
 .lia
 .lia
 .rintro j d _ hd ⟨D,L,b14,hL,hiL,hv,rfl⟩;obtain⟨rfl,hj⟩:=N0 hd;have hj:j<m+3:=by lia
  refine⟨_,B9,?_⟩;show W K _ (rc c y m (lI (fl (TT.rF N) m)) (lI (fl (TT.rG N) m)) (.int (rr c m)) x6 x7 x8 tD oD (nI (nm c m)) L (List.replicate m (.tuple [])) (.val (.int (j:Int)))) _;have cm:=G8 (K:=K) (m:=true) (ρ:=rc c y m (lI (fl (TT.rF N) m)) (lI (fl (TT.rG N) m)) (.int (rr c m)) x6 x7 x8 tD oD (nI (nm c m)) L (List.replicate m (.tuple [])) (.val (.int (j:Int)))) (n:=1) (is:=[11]) (g:=Q3 0) (tt:=bE1) (te:=tOp (rIx K) (F0 1) (F0 0)) (f3 (nf c m)) (W5 (ds:=nI ((TT.gst (TT.rF N) (TT.rG N) m).row j)) (G0 (B0 (i:=9) rfl) (B0 (i:=14) rfl) sqt (aP3 hj))) (by rw[G5];have:=LR j;unfold sizeLine;lia) (λd hd=>by
   obtain⟨p,hp,rfl⟩:=Aa8.mp hd;exact⟨_,B9,U3,LV.E.imm (d:=.int (nf c m p:Nat)) (G0 (bI9 rfl) (B0 rfl) rfl (cJ6 (LT j p hp)))⟩)
  rw[cS9]at cm;refine dD3 (nf c m j) (G1 (A2 (EF.e' cm) A5) ⟨_,?_,?_,rfl,rfl⟩) rfl (G0 (J8 rfl) (B0 rfl) rfl (cJ6 hj)) rfl ?_ ⟨.val (.int (j:Int)),L.set (nf c m j) (tN (TT.M5 (((TT.gst (TT.rF N) (TT.rG N) m).row j).map (nf c m)))),rfl,by rw[Dm];exact hL,bC3 (cC2 _) _ hiL,bX1 (n:=0) (by rw[hL];exact ND.lt j hj) (λv hv e=>by have:=ND.inj v j (by lia) hj e;lia) hv rfl,rfl⟩ (dP4 b6 b7 b8 rfl)
  .intro e;exact dX9 (TT.v9 N m) hj (List.map_eq_nil_iff.mp e)
  .rw[Aa3];have:=LR j;lia
  .rw[hL];exact ND.lt j hj
 rintro _ ⟨D,L,b14,hL,hiL,hv,rfl⟩;have e3:(Y9 0 ((m:Int)+3).toNat).length=m+3:=by rw[rng_len];lia
 rw[e3]at hv;refine A8 (O4 (N1 (A2 (B0 rfl) A5) ?_ ?_) (λj ρ=>∃D T,D.nb=true/\T.length=m/\M9 T=true/\(∀v,v<j->T[nf c m (v+3)-3]? = some (tN [nf c m ((TT.gst (TT.rF N) (TT.rG N) m).o0 (v+3)),nf c m ((TT.gst (TT.rF N) (TT.rG N) m).o1 (v+3)),nf c m ((TT.gst (TT.rF N) (TT.rG N) m).o2 (v+3))]))/\ρ=rc c y m (lI (fl (TT.rF N) m)) (lI (fl (TT.rG N) m)) (.int (rr c m)) x6 x7 x8 tD oD (nI (nm c m)) L T D) ⟨D,_,b14,by simp,imr _,λv hv=>by lia,rfl⟩ ?_ ?_)
 .lia
 .lia
 .rintro j d _ hd ⟨y14,T',c14,hT,hiT,hvT,rfl⟩;obtain⟨rfl,hj⟩:=N0 hd;have hj:j<m:=by lia
  refine⟨_,B9,?_⟩;have rI:(TT.gst (TT.rF N) (TT.rG N) m).row (j+3)=_:=TT.U0 (by lia) (by rw[(TT.X0 (TT.v9 N m) m (Aa7 _)).k];lia)
  have l0:(TT.gst (TT.rF N) (TT.rG N) m).o0 (j+3)<m+3:=LT (j+3) _ (by rw[rI];simp)
  have l1:(TT.gst (TT.rF N) (TT.rG N) m).o1 (j+3)<m+3:=LT (j+3) _ (by rw[rI];simp)
  have l2:(TT.gst (TT.rF N) (TT.rG N) m).o2 (j+3)<m+3:=LT (j+3) _ (by rw[rI];simp)
  have ge3:3<=nf c m (j+3):=by
   have:=ND.lo (by lia) (q:=j+3) (by lia)
   lia
  have lt3:nf c m (j+3)<m+3:=ND.lt (j+3) (by lia)
  have hat:atI (nI (nm c m)) (3+(j:Int))=some (.int (nf c m (j+3):Nat)):=by
   rw[show(3:Int)+(j:Int)=((j+3:Nat):Int) by lia];exact cJ6 (by lia)
  show W K _ (rc c y m (lI (fl (TT.rF N) m)) (lI (fl (TT.rG N) m)) (.int (rr c m)) x6 x7 x8 tD oD (nI (nm c m)) L T' (.val (.int (j:Int)))) _
  have cm:=G8 (K:=K) (m:=true) (ρ:=rc c y m (lI (fl (TT.rF N) m)) (lI (fl (TT.rG N) m)) (.int (rr c m)) x6 x7 x8 tD oD (nI (nm c m)) L T' (.val (.int (j:Int)))) (n:=1) (is:=[11]) (g:=Q3 0) (tt:=bE1) (te:=tOp (rIx K) (F0 1) (F0 0)) (f3 (nf c m)) (W5 (ds:=nI [(TT.gst (TT.rF N) (TT.rG N) m).o0 (j+3),(TT.gst (TT.rF N) (TT.rG N) m).o1 (j+3),(TT.gst (TT.rF N) (TT.rG N) m).o2 (j+3)]) (G0 (B0 (i:=10) rfl) (B0 (i:=14) rfl) sqo (aP3 hj))) (by rw[G5];show 3<_;unfold sizeLine;lia) (λd hd=>by
   obtain⟨p,hp,rfl⟩:=Aa8.mp hd;have hp:p<m+3:=by
    rcases Aa1.mp hp with rfl | hp
    .exact l0
    .rcases Aa1.mp hp with rfl | hp
     .exact l1
     .rw[Ad8.mp hp];exact l2
   exact⟨_,B9,U3,LV.E.imm (d:=.int (nf c m p:Nat)) (G0 (bI9 rfl) (B0 rfl) rfl (cJ6 hp))⟩)
  rw[cS9]at cm;refine dD3 (nf c m (j+3)-3) (X1 (A2 (EF.e' cm) A5) (M0 _)) rfl (P3 (G0 (J8 rfl) (P3 A7 (B0 rfl)) rfl hat) A7) (by lia) ?_ ⟨.val (.int (j:Int)),T'.set (nf c m (j+3)-3) (tN [nf c m ((TT.gst (TT.rF N) (TT.rG N) m).o0 (j+3)),nf c m ((TT.gst (TT.rF N) (TT.rG N) m).o1 (j+3)),nf c m ((TT.gst (TT.rF N) (TT.rG N) m).o2 (j+3))]),rfl,by rw[Dm];exact hT,bC3 (cC2 _) _ hiT,bX1 (n:=0) (f:=λv=>nf c m (v+3)-3) (g:=λv=>tN [nf c m ((TT.gst (TT.rF N) (TT.rG N) m).o0 (v+3)),nf c m ((TT.gst (TT.rF N) (TT.rG N) m).o1 (v+3)),nf c m ((TT.gst (TT.rF N) (TT.rG N) m).o2 (v+3))]) (by rw[hT];show nf c m (j+3)-3<m;lia) (λv hv e=>by
   have e:nf c m (v+3)-3=nf c m (j+3)-3:=e
   have g3:=ND.lo (by lia) (q:=v+3) (by lia)
   have:=ND.inj (v+3) (j+3) (by lia) (by lia) (by lia)
   lia) hvT rfl,rfl⟩ (dP4 b6 b7 b8 rfl)
  rw[hT];lia
 rintro _ ⟨y14,T',c14,hT,hiT,hvT,rfl⟩;rw[rng_len,Ac8]at hvT;refine E1 (N2 (A2 (X1 (A2 (J8 rfl) A5) hiL) (A2 (X1 (A2 (J8 rfl) A5) hiT) A5))) ?_;have eL:L=dr.map tN:=by
  refine List.ext_getElem? λz=>?_
  by_cases hz:z<m+3
  .obtain⟨v,hv1,rfl⟩:=ND.surj z hz;rw[hv v hv1,Aa9,B.dr v hv1];rfl
  .rw[Ad6 (by lia),Ad6 (by rw[Aa3,B.dl];lia)]
 have eT:T'=tr.map tN:=by
  refine List.ext_getElem? λz=>?_
  by_cases hz:z<m
  .obtain⟨v,hv1,hv2⟩:=ND.surj (z+3) (by lia)
   have h3:3<=v:=by
    have:=ND.lo (by lia) hv1
    lia
   obtain⟨u,rfl⟩:∃u,v=u+3:=⟨v-3,by lia⟩
   have hzz:z=nf c m (u+3)-3:=by lia
   rw[hzz,hvT u (by lia),Aa9,B.tr (u+3) h3 hv1];rfl
  .rw[Ad6 (by lia),Ad6 (by rw[Aa3,B.tl];lia)]
 rw[eL,eT]
end
theorem eG5 {F G:Nat->Nat}{m:Nat}{f:Nat->Nat}(R:TT.Rws F G m)(N:TT.Nm (m+3) f):∃dr tr,TT.Bt F G m f dr tr:=by
 have ex:∀q,∃v,q<m+3->v<m+3/\f v=q:=λq=>by
  by_cases h:q<m+3
  .obtain⟨v,h1,j⟩:=N.surj q h;exact⟨v,λ_=>⟨h1,j⟩⟩
  .exact⟨0,λz=>absurd z h⟩
 have ⟨g,k⟩:∃g:Nat->Nat,∀q,q<m+3->g q<m+3/\f (g q)=q:=⟨λq=>Classical.choose (ex q),λq h=>Classical.choose_spec (ex q) h⟩
 have w:∀v,v<m+3->g (f v)=v:=λv y=>N.inj _ _ (k _ (N.lt v y)).1 y (k _ (N.lt v y)).2
 refine⟨(List.range (m+3)).map λq=>TT.M5 (((TT.gst F G m).row (g q)).map f),(List.range m).map λq=>[f ((TT.gst F G m).o0 (g (q+3))),f ((TT.gst F G m).o1 (g (q+3))),f ((TT.gst F G m).o2 (g (q+3)))],R,N,by simp,λv y=>?_,by simp,λv c y=>?_⟩
 .rw[S3 (N.lt v y),w v y]
 .have h:=N.lo (by lia) y
  have s:=N.lt v y
  rw[S3 (by lia)]
  have e:f v-3+3=f v:=by lia
  rw[e,w v y]
end K05
namespace TT
end TT
namespace LV
open PySem PyProof.Rows L2
theorem cY8 {α:Type}[DecidableEq α]:∀{l m:List α},l.Nodup->(∀x∈l,x∈m)->l.length<=m.length
 | [],_,_,_=>Bv _
 | a::l,m,nd,h=>by
  obtain⟨h1,z⟩:=Aa5.mp nd;have y:=h a (by simp)
  have:=cY8 (l:=l) (m:=m.erase a) z λx w=>(List.mem_erase_of_ne (show x≠a from λe=>h1 (by rw[<- e];exact w))).mpr (h x (by simp[w]))
  rw[Cz y]at this
  have:=Cq y
  simp;lia
theorem bY3 (val:Nat->Int):∀i,(firstMet val i).Nodup
 | 0=>by rw[firstMet_zero];exact .nil
 | i+1=>by
  rw[firstMet_succ];have y:=bY3 val i;unfold step_dedup;split
  .exact y
  .rename_i h;refine Aa4.mpr ⟨y,by simp,λa w b z e=>h ?_⟩
   rw[Ad8.mp z]at e;exact List.any_eq_true.mpr ⟨a,w,by simp[e]⟩
theorem cS3 {l w:AD}(Y:w.Nodup)(h:∀x,x∈w↔x∈l):(firstMet (λi=>l.getD i 0) l.length).length=w.length:=by
 have m:(List.range l.length).map (λi=>l.getD i 0)=l:=by
  refine List.ext_getElem? λj=>?_
  by_cases c:j<l.length
  .rw[S3 c];simp[List.getD,Aa2 c]
  .rw[Ad6 (by simp;lia),Ad6 (by lia)]
 have s:∀k,k∈firstMet (λi=>l.getD i 0) l.length↔k∈l:=λk=>by
  have:=firstMet_any (λi=>l.getD i 0) l.length k
  rw[m]at this;have y:∀z:AD,z.any (· == k)=true↔k∈z:=λz=>by simp
  rw[<- y,<- y,this]
 exact Nat.le_antisymm (cY8 (bY3 _ _) λx e=>(h x).mpr ((s x).mp e)) (cY8 Y λx e=>(s x).mpr ((h x).mp e))
section
variable {K:Frag}{ρ:List Sl}{m:Bool}
theorem dA0 {t:TA}{l w:AD}(z:A K false t ρ [lI l])(j:l.length<500)(c:w.Nodup)(h:∀x,x∈w↔x∈l) :
  E K m (tCB (λxs H Q=>∃a S n,xs=[.ref a]/\H a=some (.set S n)/\Q (.int n) H) (J9 (tCB (λxs H Q=>∃(p:Addr) (l:AD),xs=[.ref p]/\SqL K H p (l.map V.int)/\l.length<500/\∀a,H a=none->Q (.ref a) (upd H a (.set (λk=>(firstMet (λi=>l.getD i 0) l.length).any (· == k)) (firstMet (λi=>l.getD i 0) l.length).length))) t) W2)) ρ (.int w.length):=λS B σ H o I Q q=>
 z S B σ H o I _ λvs X Y r=>by
  cases r with
  | cons a b=>
   cases b
   obtain⟨p,rfl,s⟩:=bP6 a;refine⟨p,l,rfl,s,j,λy e=>⟨y,_,_,rfl,B6,?_⟩⟩
   rw[cS3 c h];exact q _ _ (L2.Same.tr Y (D4 e)) (.int _)
end
end LV
namespace TT
end TT
namespace K05
open PySem L2 LV PyProof.Rows
theorem bK5 (l:AC):tN l=tI (l.map λ(x:Nat)=>(x:Int)):=by unfold tN tI nI;simp
structure Dw (m:Nat)(dr tr:AA):Prop where
 m7:m<=7
 len:dr.length=m+3
 good:TT.Good (m+3) (TT.trn dr)
theorem aE1 {dr:AA}{p:Nat}(h:p<dr.length):dr[p]? = some (TT.trn dr p):=by
 unfold TT.trn;rw[Aa2 h];rfl
def pD (x:Int×Int):PyData:=tI [x.1,x.2]
theorem dF0 (x y:Int×Int):PyData.eqv (pD x) (pD y)=decide (x=y):=by
 unfold pD;rw[bN5];refine Bo.mpr ?_;constructor
 .intro h;simp at h;exact Prod.ext h.1 h.2
 .rintro rfl;rfl
theorem eC3 (q:Int)(l:AC):(nI l).any (λz=>PyData.eqv z (.int q))=decide (q∈l.map λ(x:Nat)=>(x:Int)):=by
 unfold nI;induction l with
 | nil=>rfl
 | cons y l e=>
  rw[Ac7,List.any_cons,e,aX5];by_cases h:(y:Int)=q
  .subst h;simp
  .have:¬q=(y:Int):=λz=>h z.symm
   simp[h,this]
def aS8 (ts:AB):AB:=ts.mergeSort λa b => !HT.k8 b a
theorem aR7 (ts:AB):(aS8 ts).Perm ts:=List.mergeSort_perm _ _
theorem cQ6 (ts:AB):(aS8 ts).Pairwise O2:=by
 have:=List.pairwise_mergeSort (le:=λa b:AD => !HT.k8 b a) (λa b d h1 e=>by
  have:=aF8 a b d (by unfold O2;simpa using h1) (by unfold O2;simpa using e)
  unfold O2 at this;simp[this]) (λa b=>by
  rcases bK0 a b with h | h <;> unfold O2 at h <;> simp[h]) ts
 refine this.imp λh=>?_
 unfold O2;simpa using h
end K05
namespace TT
open Classical
theorem cG5:∀{l:AC} {a b:Nat},lin l a b↔∃p s,l=p++a::b::s
 | [],a,b=>by simp[lin]
 | [c],a,b=>by
  simp only[lin,false_iff];rintro⟨p,s,e⟩
  have:=congrArg List.length e
  simp at this
  lia
 | c::d::l,a,b=>by
  rw[E4,cG5 (l:=d::l)];constructor
  .rintro (⟨rfl,rfl⟩ | ⟨p,s,e⟩)
   .exact⟨[],l,rfl⟩
   .exact⟨c::p,s,by rw[e];rfl⟩
  .rintro⟨p,s,e⟩;cases p with
   | nil=>simp at e;exact .inl ⟨e.1.symm,e.2.1.symm⟩
   | cons c' p=>simp at e;exact .inr ⟨p,s,e.2⟩
theorem adj_iff {l:AC}{a b:Nat}:adj l a b↔(∃p s,l=p++a::b::s)\/∃p,l=p++[a]/\l.head? = some b:=by
 unfold adj;rw[cG5];cases l with
 | nil=>simp
 | cons c l=>
  simp only[List.take_succ_cons,List.take_zero,List.head?_cons,Option.some.injEq];constructor
  .rintro⟨p,s,e⟩;rcases Ac5 s with y | ⟨w,d,y⟩
   .subst y;have e':(c::l)++[c]=(p++[a])++[b]:=by rw[e];simp
    have:=List.append_inj' e' rfl
    exact .inr ⟨p,this.1,by simpa using this.2⟩
   .subst y;have e':(c::l)++[c]=(p++a::b::w)++[d]:=by rw[e];simp
    exact .inl ⟨p,w,(List.append_inj' e' rfl).1⟩
  .rintro (⟨p,s,e⟩ | ⟨p,e,rfl⟩)
   .exact⟨p,s++[c],by rw[e];simp⟩
   .exact⟨p,[],by rw[e];simp⟩
section
variable {r:Nat->AC}{n:Nat}{rim:AC}{R:Nat->Prop}
def gi (rim:AC)(k:Nat):Nat:=rim.getD k 0
theorem aI2 {k:Nat}(h:k<rim.length):rim[k]? = some (gi rim k):=by
 unfold gi;rw[Ac0,Aa2 h];rfl
theorem dV5 (h:k+1<rim.length):adj rim (gi rim k) (gi rim (k+1)):=by
 refine adj_iff.mpr (.inl ⟨rim.take k,rim.drop (k+2),?_⟩);have h1:=aI2 (rim:=rim) (k:=k) (by lia)
 have e:=aI2 h
 rw[Aa2 (by lia)]at h1
 rw[Aa2 h]at e;rw[<- Ab4 h1,<- Ab4 e];rw[<- List.drop_eq_getElem_cons h,<- List.drop_eq_getElem_cons (show k<rim.length by lia),Ad3]
theorem dP2 (h:0<rim.length):adj rim (gi rim (rim.length-1)) (gi rim 0):=by
 refine adj_iff.mpr (.inr ⟨rim.take (rim.length-1),?_,?_⟩)
 .have h1:=aI2 (rim:=rim) (k:=rim.length-1) (by lia)
  rw[Aa2 (by lia)]at h1
  rw[<- Ab4 h1]
  have:=Ad3 (rim.length-1) rim
  rw[Cm (by lia),List.drop_eq_nil_of_le (by lia)]at this
  exact this.symm
 .rw[List.head?_eq_getElem?];exact aI2 h
end
theorem dA7 {L:AC}{q:Nat}(h:q∈L):gi L (L.idxOf q)=q:=by
 unfold gi;rw[Ac0,Aa2 (Cn.mpr h)]
 simp
def prd (l:AC)(x:Nat):Nat:=if l.idxOf x=0 then gi l (l.length-1) else gi l (l.idxOf x-1)
theorem bL7 (h:x∈l):adj l (prd l x) x:=by
 have y:=Cn.mpr h
 unfold prd;by_cases e:l.idxOf x=0
 .rw[Ae e]
  have:=dP2 (rim:=l) (by lia)
  rwa [<- e,dA7 h]at this
 .rw[Ac e]
  have:=dV5 (rim:=l) (k:=l.idxOf x-1) (by lia)
  rwa [show l.idxOf x-1+1=l.idxOf x by lia,dA7 h]at this
section
variable {n:Nat}{r:Nat->AC}
def gps (r:Nat->AC)(n:Nat):List (Nat×Nat):=((List.range n).map λp=>(r p).map λq=>(p,q)).flatten
theorem W6 {α:Type}[DecidableEq α]{l:List α}(nd:l.Nodup):∀{m:List α},(∀x∈l,x∈m)->l.length<=m.length:=by
 induction l with
 | nil=>intro m _;simp
 | cons a l w=>
  intro m h;rw[Aa5]at nd
  have:=w nd.2 (m:=m.erase a) λx y=>by
   refine(List.mem_erase_of_ne ?_).mpr (h x (by simp[y]))
   intro e;subst e;exact nd.1 y
  rw[Cz (h a (by simp))]at this
  have hp:0<m.length:=Cq (h a (by simp))
  simp;lia
end
end TT
namespace L2
open PySem PySem.Spec PyProof.Rows
abbrev qn (κ:Bool):String:=match κ with | true => "list_iterator" | false => "tuple_iterator"
section
theorem cR5 {l b:Addr}{h h':Heap}{xs:AJ}(H:h.IsTuple l xs)(k:∀o,h.get? l=some o->h'.get? l=some o):h'.IsTuple l xs:=by
 obtain⟨o,e,r⟩:=H;exact⟨o,k o e,r⟩
abbrev zT1 (κ:Bool)(h:Heap)(l1:Addr):Heap:=h.push {cls:=.type (qn κ),data:=.fields #[.ref l1,.int 0 0]}
abbrev zT2 (κ:Bool)(h:Heap)(l1 l2:Addr):Heap:=(zT1 κ h l1).push {cls:=.type "tuple_iterator",data:=.fields #[.ref l2,.int 0 0]}
abbrev zT3 (κ:Bool)(h:Heap)(l1 l2:Addr):Heap:=(zT2 κ h l1 l2).push {cls:=.type "tuple",data:=.seq #[.ref h.objs.size,.ref (zT1 κ h l1).objs.size]}
abbrev zT4 (κ:Bool)(h:Heap)(l1 l2:Addr):Heap:=(zT3 κ h l1 l2).push {cls:=.type "tuple",data:=.seq #[.none,.none]}
abbrev zT5 (κ:Bool)(h:Heap)(l1 l2:Addr):Heap:=(zT4 κ h l1 l2).push {cls:=.type "zip",data:=.fields #[.none,.bool false,.bool false,.ref (zT2 κ h l1 l2).objs.size,.ref (zT3 κ h l1 l2).objs.size]}
end
end L2
namespace LV
open PySem PySem.Spec PyProof.Rows L2
section
variable {K:Frag}{B:Hp}{ρ ρ':List Sl}{m:Bool}{t ta tb:TE}{d d':PyData}{ds es:AF}
theorem cV9 {i:Nat}{t:TS}{R:AE}(hi:ρ[i]? = some (.own ds))(h:WB K B t (ρ.set i (.val (.list ds))) R):WB K B t ρ R:=λS D σ H o I s=>h S D σ H o (I.frz hi (.inl ⟨rfl,rfl⟩)) s
theorem dC4 (h:PySem.W.subIn K (.ref C) v=some true):L2.subIn K C v=true:=by
 have h:PySem.W.mroIn K C v=some true:=h
 unfold PySem.W.mroIn at h;obtain⟨y,a,b⟩:=Option.bind_eq_some_iff.mp h;split at b
 .cases b
 .unfold PySem.W.clsIn at a;unfold L2.subIn
  revert a
  split
  .rename_i e;intro z;cases z;rw[e];simpa using b
  .intro z;cases z
end
end LV
namespace L2
open PySem PySem.Spec PyProof.Rows
section
theorem cU6 {A:Around}{P:Program}{w:World}{E:Dy}{l:Addr}{xs:Array (Int×Tok)}{Q:Dy}(X:A.handled=none)(z:s.heap.IsTuple l (intItems xs))(k:0<xs.size)
  (h:∀v h' tk,(intItems xs)[argBest (λi j=>decide (numAt xs i<numAt xs j)) (xs.size-1)]? = some v->(∀b o,s.heap.get? b=some o->h'.get? b=some o)->Q v {s with heap:=h',toks:=tk}):wpAny (model P w) A (call (.builtin "min") [.ref l]) Q E s:=by
 have y:l<s.heap.objs.size:=by obtain⟨_,e,_⟩:=z;exact Ab3 e
 refine call_min_walk (wpAny_pyIter_tuple z ?_);refine⟨_,_,_,_,_,_,_,rfl,Walks.tuple (A:=A.in1) X _ l (Ab9 y) (intItems xs),⟨⟨_,Ac3 _ rfl,rfl,rfl⟩,cR5 (b:=l) z λo e=>Aa6 _ e⟩,λb c=>?_,by simpa[intItems]using k,CmpOf.ints_lt (numAt xs) (λ_ _=>intItems_at),λv h' tk Y U=>?_⟩
 .show b<(s.heap.push _).objs.size
  rw[By];simp only[Aa1,Ac2,or_false]at c;rcases c with rfl | rfl
  .exact Nat.lt_succ_self _
  .exact Dh y
 .exact h v h' tk (by simpa[intItems]using Y) λb o e=>U b o (λJ=>by
   have m:b=s.heap.objs.size:=by simpa using J
   exact absurd (m▸Ab3 e) (Ad9 _)) (Aa6 _ e)
theorem cM5 (K:Frag)(U:X.calm=true)(h:X.K=K:=by rfl):R4 X (.builtin "min") (λxs H Q=>∃(p:Addr) (l:AD),xs=[.ref p]/\SqT K H p (l.map V.int)/\l≠[]/\∀M,M∈l->(∀a∈l,M<=a)->Q (.int M) H):=by
 subst h;intro aA s σ H xs us Q I r ⟨p,F,e,R,w,q⟩;subst e;obtain⟨u,rfl,P⟩:=S0 r;cases P;obtain⟨its,B,m,_⟩:=I.tuple R;have hi:=LV.R7 B;obtain⟨xs,e⟩:=hi.allInts.items;have y:F=xs.toList.map (·.1):=by rw[<- hi.numsOf,<- nums_intItems,<- e]
 have z:0<xs.size:=by
  have k:=Dc.mpr w;rw[y,Aa3,Bl]at k;exact k
 rw[e]at m;refine cU6 (I.ok.hd U) m z λv h' tk D N=>?_
 obtain⟨t,rfl⟩:=intItems_at D;obtain⟨h1,Y⟩:=argBest_lt (numAt xs) (xs.size-1);refine⟨.int _,H,I.kept N,⟨_,rfl⟩,q _ ?_ λa c=>?_⟩
 .rw[y,numAt_eq];exact getD_mem (by rw[Aa3,Bl];lia)
 .rw[y]at c;obtain⟨j,J,rfl⟩:=mem_getD c;rw[Aa3,Bl]at J;rw[<- numAt_eq];exact Y j (by lia)
end
end L2
namespace LV
open PySem PySem.Spec PyProof.Rows L2
section
variable {K:Frag}{ρ:List Sl}{m:Bool}{t ta tb:TE}{d d':PyData}{ds es:AF}
theorem dY1 {t:TA}{l:AD}{M:Int}(z:A K false t ρ [tI l])(e:M∈l/\∀a∈l,M<=a):E K m (tCB (λxs H Q=>∃(p:Addr) (l:AD),xs=[.ref p]/\SqT K H p (l.map V.int)/\l≠[]/\∀M,M∈l->(∀a∈l,M<=a)->Q (.int M) H) t) ρ (.int M):=bV4 z λH vs Q r q=>by
 cases r with
 | cons a b=>
  cases b
  obtain⟨p,rfl,s⟩:=aW1 a;refine⟨p,l,rfl,s,List.ne_nil_of_mem e.1,λy h1 w=>?_⟩
  have:y=M:=Int.le_antisymm (w M e.1) (e.2 y h1)
  rw[this];exact q _ λ_=>.int _
end
end LV
namespace K05
open PySem L2 LV PyProof.Rows
theorem aG6:C3 ["ring"] ["ring"] (B1 T8):={}
theorem bE6:C3 ["ring"] ["ring"] (B1 z0):={}
theorem bV1:C3 ["turn", "place"] ["turn", "place"] (B1 aJ3):={}
theorem O1:C3 ["turns", "p", "q", "corners", "here", "there", "behind"] ["turns", "p", "q"] (B1 aB3):={}
theorem aI1:C3 ["ring", "first", "at"] ["ring", "first"] (B1 aA8):={}
theorem cM0 (l:AC)(k:Nat):(nI l).drop k=nI (l.drop k):=by simp[nI]
theorem dK5 (l:AC)(k:Nat):(nI l).take k=nI (l.take k):=by simp[nI]
def eC9 (ds:AF)(d:PyData):Prop:=∃(l:AC) (x:Nat),x∈l/\l.length<=10000/\ds=[tN l,.int (x:Int)]/\d=tN (l.drop (l.idxOf x)++l.take (l.idxOf x))
def eD2 (ds:AF)(d:PyData):Prop:=∃(l:AC) (x:Nat),x∈l/\l.length<=10000/\ds=[tN l,.int (x:Int)]/\d=.int (TT.prd l x:Nat)
theorem dB4 {l:AC}{x:Nat}(h:x∈l):atI (nI l) ((l.idxOf x:Nat)-1:Int)=some (.int (TT.prd l x:Nat)):=by
 have j:=Cn.mpr h
 unfold TT.prd;by_cases e:l.idxOf x=0
 .rw[Ae e,e];have w:l=l.dropLast++[TT.gi l (l.length-1)]:=by
   have h1:=List.dropLast_concat_getLast (l:=l) (by intro z;rw[z]at h;cases h)
   have k:TT.gi l (l.length-1)=l.getLast (by intro z;rw[z]at h;cases h):=by
    unfold TT.gi;rw[Ac0,Aa2 (by lia),List.getLast_eq_getElem];rfl
   rw[k];exact h1.symm
  generalize TT.gi l (l.length-1)=y at w;rw[w,aJ1];exact aK9
 .rw[Ac e];refine S1 (l.idxOf x-1) (by lia) ?_
  unfold nI;rw[Aa9,TT.aI2 (by lia)];rfl
theorem Dw.tle (h:Dw m dr tr)(p:Nat):(TT.trn dr p).length<=10:=by
 have:=TT.cU1 (h.good.nd p) (h.good.lt p)
 have:=h.m7
 lia
section
variable {P:Program}{w:World}{K:Frag}{mg:Str->Option Value}{base:Heap}{a:Ad}
theorem bF8 (T:Tx K mg a):J0 P w K mg base CX0 1 a.aL8 a.aO6 ["ring", "first"] (spV K eC9):=by
 refine T.aO4.F.ok aI1 (W7 (by rintro ds d ⟨_,_,_,_,rfl,_⟩;rfl)) (λj A outer s H vs Q E X h=>?_)
 obtain⟨ds,S,d,c,r,⟨l,x,y,Y,rfl,rfl⟩,q⟩:=h;refine⟨_,(A3 (psS 2 aI1 (N3 PySem.F.plainAttrs_tuple PySem.F.slot_tuple_index PySem.F.type_tuple_index (bJ2 K) (pv 0) (A0 (pv 1) A1)))
   (A6 (B7 (B2 (cT4 K) (Q7 (eF5 K) (pv 0) (T1 (pv 2)) W9) (Q7 (eF5 K) (pv 0) W9 (T1 (pv 2))))))),L6 c r ?_ q⟩
 have e:l.idxOf x<l.length:=Ac4 y
 refine A8 (C9 (d:=.int (l.idxOf x:Nat)) ?_ ?_)
 .have h:=bS4 (K:=K) (m:=true) (ρ:=sl0 ["ring", "first", "at"].length [tI (l.map λ(x:Nat)=>(x:Int)),.int (x:Int)]) (ta:=F0 0) (tb:=F0 1) (k:=(x:Int)) v0 v1 (Aa8.mpr ⟨x,y,rfl⟩)
  rw[aB8 x l]at h;rw[bK5];exact h
 refine E1 (dW9 (bG6 (ds:=nI l) (B0 rfl) (X6 (B0 rfl)) aS2 (M0 l)) (bG6 (ds:=nI l) (B0 rfl) aS2 (X6 (B0 rfl)) (M0 l)) (X5 _ _ (M0 l)) (X5 _ _ (M0 l)) ?_ ?_) ?_
 .rw[aY8 (by rw[G5];lia),cM0]
  intro z
  have:=congrArg List.length z
  rw[G5,Bb]at this;simp at this
  lia
 .rw[aY8 (by rw[G5];lia),bP7 (by rw[G5];lia),Bb,Ad1,G5];unfold sizeLine;lia
 .show PyData.tuple _=tN _
  rw[aY8 (by rw[G5];lia),bP7 (by rw[G5];lia),cM0,dK5,<- aJ1]
  rfl
theorem cW6 (T:Tx K mg a):J0 P w K mg base CX0 1 a.bA0 a.aZ2 ["turn", "place"] (spV K eD2):=by
 refine T.aY3.F.ok bV1 (W7 (by rintro ds d ⟨_,_,_,_,rfl,_⟩;rfl)) (λy A outer s H vs Q E Y h=>?_)
 obtain⟨ds,S,d,z,r,⟨l,x,e,c,rfl,rfl⟩,q⟩:=h;refine⟨_,(A6 (B7 (B8 (ixK K) (pv 0) (B2 V4 (N3 PySem.F.plainAttrs_tuple PySem.F.slot_tuple_index PySem.F.type_tuple_index (bJ2 K) (pv 0) (A0 (pv 1) A1)) A4) (λ_ _=>rfl)))),L6 z r ?_ q⟩
 have h:=bS4 (K:=K) (m:=false) (ρ:=sl0 ["turn", "place"].length [tI (l.map λ(x:Nat)=>(x:Int)),.int (x:Int)]) (ta:=F0 0) (tb:=F0 1) (k:=(x:Int)) v0 v1 (Aa8.mpr ⟨x,e,rfl⟩)
 rw[aB8 x l,<- bK5]at h;exact E1 (G0 (ds:=nI l) v0 (P3 (g:=λi j=>i-j) h A7) rfl (dB4 e)) rfl
end
end K05
namespace RS
structure Rot (n:Nat)(r:Nat->AC):Prop where
 out:∀p,n<=p->r p=[]
 lt:∀p,∀q∈r p,q<n/\q≠p
 nd:∀p,(r p).Nodup
 bk:∀p,∀q∈r p,p∈r q
def nxt (r:Nat->AC)(d:Nat×Nat):Nat×Nat:=(d.2,TT.prd (r d.2) d.1)
def itr (r:Nat->AC):Nat->Nat×Nat->Nat×Nat
 | 0,d=>d
 | k+1,d=>nxt r (itr r k d)
theorem aG0 (r:Nat->AC)(j k:Nat)(d:Nat×Nat):itr r (j+k) d=itr r j (itr r k d):=by
 induction j with
 | zero=>rw[Nat.zero_add];rfl
 | succ j e=>rw[show j+1+k=(j+k)+1 by lia];show nxt r _=nxt r _;rw[e]
theorem cF6 (r:Nat->AC)(k:Nat)(d:Nat×Nat):(itr r (k+1) d).1=(itr r k d).2:=rfl
theorem cX5 {P:Nat->Prop}:∀k,P k->∃j,j<=k/\P j/\∀i,i<j->¬P i:=by
 intro k;induction k using Nat.strongRecOn with
 | _ k e=>
  intro h;by_cases c:∃i,i<k/\P i
  .obtain⟨i,hi,hp⟩:=c;obtain⟨j,y,q⟩:=e i hi hp;exact⟨j,by lia,q⟩
  .exact⟨k,Aa7 _,h,λi hi hp=>c ⟨i,hi,hp⟩⟩
structure Per (r:Nat->AC)(d:Nat×Nat)(k:Nat):Prop where
 pos:0<k
 back:itr r k d=d
 first:∀j,0<j->j<k->itr r j d≠d
theorem Per.uniq {r:Nat->AC}{d:Nat×Nat}{j k:Nat}(h:Per r d j)(h':Per r d k):j=k:=by
 rcases Nat.lt_trichotomy j k with c | c | c
 .exact absurd h.back (h'.first j h.pos c)
 .exact c
 .exact absurd h'.back (h.first k h'.pos c)
noncomputable def per (r:Nat->AC)(d:Nat×Nat):Nat:=Classical.epsilon (Per r d)
noncomputable def orb (r:Nat->AC)(d:Nat×Nat):List (Nat×Nat):=(List.range (per r d)).map λk=>itr r k d
noncomputable def rng (r:Nat->AC)(d:Nat×Nat):AC:=(List.range (per r d)).map λk=>(itr r k d).1
def wyR (l:AC):List (Nat×Nat):=(List.range l.length).map λk=>(TT.gi l (if k=0 then l.length-1 else k-1),TT.gi l k)
theorem rng_len (r:Nat->AC)(d:Nat×Nat):(rng r d).length=per r d:=by simp[rng]
theorem gps_mem' {n:Nat}{r:Nat->AC}(e:∀p,n<=p->r p=[]){x:Nat×Nat}:x∈TT.gps r n↔x.2∈r x.1:=by
 unfold TT.gps;simp only[List.mem_flatten,Aa8,Ab5];constructor
 .rintro⟨_,⟨p,hp,rfl⟩,h⟩;obtain⟨q,y,rfl⟩:=Aa8.mp h;exact y
 .intro h;have hp:x.1<n:=by
   rcases Bq x.1 n with c | c
   .exact c
   .rw[e _ c]at h;cases h
  exact⟨_,⟨x.1,hp,rfl⟩,Aa8.mpr ⟨x.2,h,rfl⟩⟩
section
variable {n:Nat}{r:Nat->AC}
theorem Rot.isD (R:Rot n r){d:Nat×Nat}(h:d.2∈r d.1):(nxt r d).2∈r (nxt r d).1:=(TT.aX7 (TT.bL7 (R.bk _ _ h))).1
theorem Rot.isDk (R:Rot n r){d:Nat×Nat}(h:d.2∈r d.1):∀k,(itr r k d).2∈r (itr r k d).1
 | 0=>h
 | k+1=>R.isD (R.isDk h k)
theorem Rot.inj (R:Rot n r){d e:Nat×Nat}(h:d.2∈r d.1)(h':e.2∈r e.1)(q:nxt r d=nxt r e):d=e:=by
 obtain⟨a,b⟩:=d;obtain⟨c,f⟩:=e;have w:b=f:=congrArg Prod.fst q;subst w;have z:TT.prd (r b) a=TT.prd (r b) c:=congrArg Prod.snd q;have h1:=TT.bL7 (R.bk _ _ h);have y:=TT.bL7 (R.bk _ _ h');have h1:TT.adj (r b) (TT.prd (r b) a) a:=h1;have y:TT.adj (r b) (TT.prd (r b) c) c:=y;rw[z]at h1;rw[TT.dO9 (R.nd b) h1 y]
theorem Rot.injk (R:Rot n r){d e:Nat×Nat}(h:d.2∈r d.1)(h':e.2∈r e.1):∀k,itr r k d=itr r k e->d=e
 | 0,q=>q
 | k+1,q=>R.injk h h' k (R.inj (R.isDk h k) (R.isDk h' k) q)
theorem Rot.ex (R:Rot n r){d:Nat×Nat}(h:d.2∈r d.1):∃k,k<=(TT.gps r n).length/\Per r d k:=by
 have:∃i j,i<j/\j<=(TT.gps r n).length/\itr r i d=itr r j d:=by
  apply Classical.byContradiction
  intro c;have nd:((List.range ((TT.gps r n).length+1)).map λk=>itr r k d).Nodup:=by
   rw[Ac6,Ae0];refine Cb (R:=(· < ·)) (λ{i j} hi z y e=>c ⟨i,j,y,?_,e⟩) List.pairwise_lt_range
   have:=Ab5.mp z
   lia
  have:=TT.W6 nd (m:=TT.gps r n) λx Y=>by
   obtain⟨k,_,rfl⟩:=Aa8.mp Y;exact(gps_mem' R.out).mpr (R.isDk h k)
  rw[Aa3,Bc]at this
  lia
 obtain⟨i,j,y,z,e⟩:=this;have s:itr r (j-i) d=d:=by
  have:itr r i (itr r (j-i) d)=itr r i d:=by rw[<- aG0,show i+(j-i)=j by lia,e]
  exact R.injk (R.isDk h _) h i this
 obtain⟨k,M,⟨X,U⟩,J⟩:=cX5 (P:=λk=>0<k/\itr r k d=d) (j-i) ⟨by lia,s⟩
 exact⟨k,by lia,X,U,λi hi w q=>J i w ⟨hi,q⟩⟩
theorem Rot.per (R:Rot n r){d:Nat×Nat}(h:d.2∈r d.1):Per r d (per r d):=by
 obtain⟨k,_,e⟩:=R.ex h;exact Classical.epsilon_spec (p:=Per r d) ⟨k,e⟩
theorem Rot.per_le (R:Rot n r){d:Nat×Nat}(h:d.2∈r d.1):RS.per r d<=(TT.gps r n).length:=by
 obtain⟨k,y,e⟩:=R.ex h;rw[(R.per h).uniq e];exact y
theorem Rot.mod (R:Rot n r){d:Nat×Nat}(h:d.2∈r d.1)(k:Nat):itr r k d=itr r (k % RS.per r d) d:=by
 have P:=R.per h
 have y:∀j,itr r (j*RS.per r d) d=d:=λj=>by
  induction j with
  | zero=>rw[Nat.zero_mul];rfl
  | succ j w=>rw[Nat.succ_mul,aG0,P.back,w]
 have e:=Nat.div_add_mod k (RS.per r d)
 have:itr r (k % RS.per r d+k / RS.per r d*RS.per r d) d=itr r (k % RS.per r d) d:=by rw[aG0,y]
 rw[<- this]
 congr 1
 rw[Nat.mul_comm (k / RS.per r d)]
 lia
theorem Rot.mem_orb (R:Rot n r){d e:Nat×Nat}(h:d.2∈r d.1):e∈orb r d↔∃k,itr r k d=e:=by
 constructor
 .intro x;obtain⟨k,_,rfl⟩:=Aa8.mp x;exact⟨k,rfl⟩
 .rintro⟨k,rfl⟩;exact Aa8.mpr ⟨k % RS.per r d,Ab5.mpr (Nat.mod_lt _ (R.per h).pos),(R.mod h k).symm⟩
theorem Rot.orb_self (R:Rot n r){d:Nat×Nat}(h:d.2∈r d.1):d∈orb r d:=(R.mem_orb h).mpr ⟨0,rfl⟩
theorem Rot.orb_isD (R:Rot n r){d e:Nat×Nat}(h:d.2∈r d.1)(x:e∈orb r d):e.2∈r e.1:=by
 obtain⟨k,rfl⟩:=(R.mem_orb h).mp x;exact R.isDk h k
theorem Rot.orb_symm (R:Rot n r){d e:Nat×Nat}(h:d.2∈r d.1)(x:e∈orb r d):d∈orb r e:=by
 have w:=R.orb_isD h x
 obtain⟨k,y,rfl⟩:=Aa8.mp x;have y:=Ab5.mp y;refine(R.mem_orb w).mpr ⟨RS.per r d-k,?_⟩;rw[<- aG0,show RS.per r d-k+k=RS.per r d by lia,(R.per h).back]
theorem Rot.orb_trans (R:Rot n r){d e f:Nat×Nat}(h:d.2∈r d.1)(x:e∈orb r d)(y:f∈orb r e):f∈orb r d:=by
 obtain⟨k,rfl⟩:=(R.mem_orb h).mp x;obtain⟨j,rfl⟩:=(R.mem_orb (R.isDk h k)).mp y;exact(R.mem_orb h).mpr ⟨j+k,aG0 r j k d⟩
theorem Rot.orb_iff (R:Rot n r){d e:Nat×Nat}(h:d.2∈r d.1)(x:e∈orb r d)(f:Nat×Nat):f∈orb r e↔f∈orb r d:=
 ⟨λy=>R.orb_trans h x y,λy=>R.orb_trans (R.orb_isD h x) (R.orb_symm h x) y⟩
theorem Rot.orb_nd (R:Rot n r){d:Nat×Nat}(h:d.2∈r d.1):(orb r d).Nodup:=by
 have P:=R.per h
 unfold orb;rw[Ac6,Ae0];refine Cb (R:=(· < ·)) (λ{i j} hi y w e=>?_) List.pairwise_lt_range
 have y:=Ab5.mp y
 have:itr r i (itr r (j-i) d)=itr r i d:=by rw[<- aG0,show i+(j-i)=j by lia,e]
 exact P.first (j-i) (by lia) (by lia) (R.injk (R.isDk h _) h i this)
theorem Rot.per_eq (R:Rot n r){d e:Nat×Nat}(h:d.2∈r d.1)(x:e∈orb r d):RS.per r e=RS.per r d:=by
 have w:=R.orb_isD h x
 have z:=TT.W6 (R.orb_nd h) (m:=orb r e) λf y=>(R.orb_iff h x f).mpr y
 have k:=TT.W6 (R.orb_nd w) (m:=orb r d) λf y=>(R.orb_iff h x f).mp y
 simp only[orb,Aa3,Bc]at z k
 lia
theorem Rot.rng_iff (R:Rot n r){d e:Nat×Nat}(h:d.2∈r d.1)(x:e∈orb r d)(p:Nat):p∈rng r e↔p∈rng r d:=by
 have k:∀{d:Nat×Nat},p∈rng r d↔∃f∈orb r d,f.1=p:=λ{d}=>by
  unfold rng orb;simp only[Aa8];constructor
  .rintro⟨k,hk,rfl⟩;exact⟨_,⟨k,hk,rfl⟩,rfl⟩
  .rintro⟨_,⟨k,hk,rfl⟩,rfl⟩;exact⟨k,hk,rfl⟩
 rw[k,k];constructor
 .rintro⟨f,hf,e'⟩;exact⟨f,(R.orb_iff h x f).mp hf,e'⟩
 .rintro⟨f,hf,e'⟩;exact⟨f,(R.orb_iff h x f).mpr hf,e'⟩
theorem bZ1 {r:Nat->AC}{d:Nat×Nat}{k:Nat}(e:k<per r d):TT.gi (rng r d) k=(itr r k d).1:=by
 unfold TT.gi rng;rw[Ac0,Aa9,List.getElem?_range e];rfl
theorem Rot.wyR_eq (R:Rot n r){d:Nat×Nat}(h:d.2∈r d.1):wyR (rng r d)=(List.range (RS.per r d)).map λk=>itr r (if k=0 then RS.per r d-1 else k-1) d:=by
 have P:=R.per h
 have y:=P.pos
 unfold wyR;rw[rng_len];refine Av λk e=>?_
 have e:=Ab5.mp e
 rw[bZ1 e,bZ1 (by split <;> lia)]
 refine Prod.ext rfl ?_;show(itr r k d).1=(itr r _ d).2;by_cases c:k=0
 .subst c;rw[Ae rfl,<- cF6,show RS.per r d-1+1=RS.per r d by lia,P.back];rfl
 .rw[Ac c,<- cF6,show k-1+1=k by lia]
theorem Rot.wyR_mem (R:Rot n r){d e:Nat×Nat}(h:d.2∈r d.1):e∈wyR (rng r d)↔e∈orb r d:=by
 have y:=(R.per h).pos
 rw[R.wyR_eq h];unfold orb;simp only[Aa8,Ab5];constructor
 .rintro⟨k,hk,rfl⟩;exact⟨_,by split <;> lia,rfl⟩
 .rintro⟨k,hk,rfl⟩;by_cases c:k+1=RS.per r d
  .exact⟨0,y,by rw[Ae rfl,<- c];rfl⟩
  .exact⟨k+1,by lia,by rw[Ac (by lia)];rfl⟩
end
noncomputable def repF (r:Nat->AC)(E:List (Nat×Nat))(d:Nat×Nat):List (Nat×Nat):=if(E.any λe=>decide (d∈orb r e))=true then E else E++[d]
noncomputable def reps (r:Nat->AC)(l:List (Nat×Nat)):List (Nat×Nat):=l.foldl (repF r) []
theorem cR8 (r:Nat->AC)(l m:List (Nat×Nat)):reps r (l++m)=m.foldl (repF r) (reps r l):=by unfold reps;rw[List.foldl_append]
theorem reps_snoc (r:Nat->AC)(l:List (Nat×Nat))(d:Nat×Nat):reps r (l++[d])=repF r (reps r l) d:=cR8 r l [d]
structure Rp (r:Nat->AC)(l E:List (Nat×Nat)):Prop where
 isd:∀e∈E,e.2∈r e.1
 sub:∀e∈E,e∈l
 cov:∀d∈l,∃e∈E,d∈orb r e
 prw:E.Pairwise λe f=>f∉orb r e
 fst:∀e∈E,∀d∈orb r e,e.1<=d.1
theorem any_orb {r:Nat->AC}{E:List (Nat×Nat)}{d:Nat×Nat}:(E.any λe=>decide (d∈orb r e))=true↔∃e∈E,d∈orb r e:=by
 rw[List.any_eq_true]
 simp
section
variable {n:Nat}{r:Nat->AC}
theorem Rp.nil:Rp r [] []:=⟨by simp,by simp,by simp,.nil,by simp⟩
theorem Rp.step (R:Rot n r){l E:List (Nat×Nat)}(h:Rp r l E){d:Nat×Nat}(s:d.2∈r d.1)(m:∀f:Nat×Nat,f.2∈r f.1->f.1<d.1->f∈l):Rp r (l++[d]) (repF r E d):=by
 unfold repF;split
 .rename_i c;obtain⟨e,w,Y⟩:=any_orb.mp c;refine⟨h.isd,λe w=>by simp[h.sub e w],λx X=>?_,h.prw,h.fst⟩
  rcases Aa0.mp X with z | z
  .exact h.cov x z
  .rw[Ad8.mp z];exact⟨e,w,Y⟩
 .rename_i c;have c:¬ ∃e∈E,d∈orb r e:=λz=>c (any_orb.mpr z)
  refine⟨λe w=>?_,λe w=>?_,λx X=>?_,?_,λe w f k=>?_⟩
  .rcases Aa0.mp w with z | z
   .exact h.isd e z
   .rw[Ad8.mp z];exact s
  .rcases Aa0.mp w with z | z
   .exact Aa0.mpr (.inl (h.sub e z))
   .exact Aa0.mpr (.inr z)
  .rcases Aa0.mp X with z | z
   .obtain⟨e,w,q⟩:=h.cov x z;exact⟨e,Aa0.mpr (.inl w),q⟩
   .rw[Ad8.mp z];exact⟨d,by simp,R.orb_self s⟩
  .rw[Dq];exact⟨h.prw,List.pairwise_singleton _ _,λe w f k=>by rw[Ad8.mp k];exact λz=>c ⟨e,w,z⟩⟩
  .rcases Aa0.mp w with z | z
   .exact h.fst e z f k
   .rw[Ad8.mp z]at k ⊢;rcases Bq f.1 d.1 with y | y
    .obtain⟨e',j,q⟩:=h.cov f (m f (R.orb_isD s k) y);exact absurd ⟨e',j,R.orb_trans (h.isd e' j) q (R.orb_symm s k)⟩ c
    .exact y
theorem Rp.run (R:Rot n r):∀(m l E:List (Nat×Nat)),Rp r l E->(∀d∈m,d.2∈r d.1)->(∀f:Nat×Nat,f.2∈r f.1->f∈l++m)->(m.Pairwise λx y=>x.1<=y.1)->Rp r (l++m) (m.foldl (repF r) E)
 | [],l,E,h,_,_,_=>by rw[Bm];exact h
 | d::m,l,E,h,hd,ha,hp=>by
  have hp:=Ae1.mp hp
  have s:=h.step R (hd d (by simp)) λf e w=>by
   have:=ha f e
   rcases Aa0.mp this with z | z
   .exact z
   .rcases Aa1.mp z with z | z
    .rw[z]at w;lia
    .have:=hp.1 f z;lia
  have:=Rp.run R m (l++[d]) _ s (λx k=>hd x (by simp[k])) (λf e=>by rw[Ad7];exact ha f e) hp.2
  rw[Ad7]at this;exact this
theorem gps_succ (r:Nat->AC)(n:Nat):TT.gps r (n+1)=TT.gps r n++(r n).map λq=>(n,q):=by
 unfold TT.gps;rw[Ca,Ad2,List.flatten_append];simp
theorem bQ1 (r:Nat->AC):∀n,∀x∈TT.gps r n,x.1<n
 | 0,x,h=>by simp[TT.gps]at h
 | n+1,x,h=>by
  rw[gps_succ]at h;rcases Aa0.mp h with z | z
  .have:=bQ1 r n x z;lia
  .obtain⟨q,_,rfl⟩:=Aa8.mp z;exact Nat.lt_succ_self _
theorem cJ9 (r:Nat->AC):∀n,(TT.gps r n).Pairwise λx y=>x.1<=y.1
 | 0=>by simp[TT.gps]
 | n+1=>by
  rw[gps_succ,Dq];refine⟨cJ9 r n,?_,λx e y w=>?_⟩
  .rw[Ae0];exact List.pairwise_of_forall (λ_ _=>Aa7 n)
  .obtain⟨q,_,rfl⟩:=Aa8.mp w;exact Cw (bQ1 r n x e)
theorem cI4 (h:∀p,(r p).Nodup):∀n,(TT.gps r n).Nodup
 | 0=>by simp[TT.gps]
 | n+1=>by
  rw[gps_succ,Aa4];refine⟨cI4 h n,?_,λx z y k e=>?_⟩
  .rw[Ac6,Ae0];exact(Ac6.mp (h n)).imp λw e=>w (congrArg Prod.snd e)
  .obtain⟨q,_,rfl⟩:=Aa8.mp k
   have:=bQ1 r n x z
   rw[e]at this;exact absurd this (Ad9 _)
theorem Rot.rp (R:Rot n r):Rp r (TT.gps r n) (reps r (TT.gps r n)):=by
 have:=Rp.run R (TT.gps r n) [] [] Rp.nil (λd e=>(gps_mem' R.out).mp e) (λf y=>by rw[List.nil_append];exact(gps_mem' R.out).mpr y) (cJ9 r n)
 rw[List.nil_append]at this;exact this
def le2 (a b:Nat×Nat):Prop:=a.1<b.1\/a.1=b.1/\a.2<=b.2
theorem dC3 {a b:Nat×Nat}(h:le2 a b)(h':le2 b a):a=b:=by
 unfold le2 at h h';exact Prod.ext (by lia) (by lia)
theorem cY9:∀{l:List (Nat×Nat)},l≠[]->∃M∈l,∀x∈l,le2 M x
 | [],h=>absurd rfl h
 | [a],_=>⟨a,by simp,λx hx=>by rw[Ad8.mp hx];exact .inr ⟨rfl,Aa7 _⟩⟩
 | a::b::l,_=>by
  obtain⟨M,hM,h⟩:=cY9 (l:=b::l) (by simp)
  by_cases c:le2 a M
  .refine⟨a,by simp,λx hx=>?_⟩
   rcases Aa1.mp hx with rfl | hx
   .exact .inr ⟨rfl,Aa7 _⟩
   .have:=h x hx
    unfold le2 at this c ⊢
    lia
  .refine⟨M,Ad4 _ hM,λx hx=>?_⟩
   rcases Aa1.mp hx with rfl | hx
   .unfold le2 at c ⊢;lia
   .exact h x hx
def dU3 (l:List (Nat×Nat))(M:Nat×Nat):Prop:=M∈l/\∀x∈l,le2 M x
noncomputable def mnO (r:Nat->AC)(d:Nat×Nat):Nat×Nat:=Classical.epsilon (dU3 (orb r d))
theorem Rot.mnO (R:Rot n r){d:Nat×Nat}(h:d.2∈r d.1):dU3 (orb r d) (mnO r d):=by
 obtain⟨M,y,q⟩:=cY9 (l:=orb r d) λe=>by have:=R.orb_self h;rw[e]at this;cases this
 exact Classical.epsilon_spec (p:=dU3 (orb r d)) ⟨M,y,q⟩
theorem Rot.mnO_eq (R:Rot n r){d e:Nat×Nat}(h:d.2∈r d.1)(x:e∈orb r d):RS.mnO r e=RS.mnO r d:=by
 have h1:=R.mnO h
 have y:=R.mnO (R.orb_isD h x)
 exact dC3 (y.2 _ ((R.orb_iff h x _).mpr h1.1)) (h1.2 _ ((R.orb_iff h x _).mp y.1))
theorem Rot.count (R:Rot n r):(reps r (TT.gps r n)).length=((TT.gps r n).filter λd=>decide (d=RS.mnO r d)).length:=by
 have P:=R.rp
 have nd1:((reps r (TT.gps r n)).map (RS.mnO r)).Nodup:=by
  rw[Ac6,Ae0];refine Cb (λ{e f} y j z q=>z ?_) P.prw
  have h1:=(R.mnO (P.isd e y)).1
  have w:=(R.mnO (P.isd f j)).1
  rw[<- q]at w;exact R.orb_trans (P.isd e y) h1 (R.orb_symm (P.isd f j) w)
 have nd2:=(cI4 R.nd n).filter λd=>decide (d=RS.mnO r d)
 have c:=TT.W6 nd1 (m:=(TT.gps r n).filter λd=>decide (d=RS.mnO r d)) λx k=>by
  obtain⟨e,y,rfl⟩:=Aa8.mp k;have h1:=(R.mnO (P.isd e y)).1;exact Cu.mpr ⟨(gps_mem' R.out).mpr (R.orb_isD (P.isd e y) h1),Bh (R.mnO_eq (P.isd e y) h1).symm⟩
 have s:=TT.W6 nd2 (m:=(reps r (TT.gps r n)).map (RS.mnO r)) λx k=>by
  obtain⟨h1,w⟩:=Cu.mp k;obtain⟨e,y,q⟩:=P.cov x h1;refine Aa8.mpr ⟨e,y,?_⟩;rw[<- R.mnO_eq (P.isd e y) q];exact(An w).symm
 rw[Aa3]at c s
 lia
noncomputable def oddB (r:Nat->AC)(n p:Nat):Bool:=(reps r (TT.gps r n)).any λe=>decide ((rng r e).length≠3)&&decide (p∈rng r e)
theorem Rot.odd_iff (R:Rot n r){p:Nat}:oddB r n p=true↔∃d∈TT.gps r n,(rng r d).length≠3/\p∈rng r d:=by
 have P:=R.rp
 unfold oddB;rw[List.any_eq_true];simp only[Bu,Df];constructor
 .rintro⟨e,y,q⟩;exact⟨e,P.sub e y,q⟩
 .rintro⟨d,hd,q1,q2⟩;obtain⟨e,y,q⟩:=P.cov d hd;have hi:=P.isd e y;refine⟨e,y,?_,(R.rng_iff hi q p).mp q2⟩;rw[rng_len]at q1 ⊢;rw[<- R.per_eq hi q];exact q1
theorem Rot.outer (R:Rot n r):[0,2,1]∈(reps r (TT.gps r n)).map (rng r)↔∃d∈TT.gps r n,rng r d=[0,2,1]:=by
 have P:=R.rp
 constructor
 .intro h;obtain⟨e,w,q⟩:=Aa8.mp h;exact⟨e,P.sub e w,q⟩
 .rintro⟨d,hd,q⟩;obtain⟨e,w,x⟩:=P.cov d hd;have hi:=P.isd e w;have m:=(gps_mem' R.out).mp hd;have Y:=R.orb_symm hi x;have c:RS.per r d=3:=by rw[<- rng_len,q];rfl
  have g:∀k,k<3->TT.gi [0,2,1] k=(itr r k d).1:=λk y=>by rw[<- q];exact bZ1 (by rw[c];exact y)
  have le:=P.fst e w d x
  have X:d.1=0:=(g 0 (by decide)).symm
  obtain⟨k,y,j⟩:=Aa8.mp Y;have y:=Ab5.mp y;rw[c]at y;have z:=g k y;rw[j]at z
  have:k=0:=by
   match k,y with
   | 0,_=>rfl
   | 1,_=>have:(2:Nat)=e.1:=z;lia
   | 2,_=>have:(1:Nat)=e.1:=z;lia
  subst this;have s:d=e:=j;exact Aa8.mpr ⟨e,w,by rw[<- s];exact q⟩
theorem Rot.rng_lt (R:Rot n r){d:Nat×Nat}(h:d.2∈r d.1):∀p∈rng r d,p<n:=by
 intro p hp;obtain⟨k,_,rfl⟩:=Aa8.mp hp
 have:=R.isDk h k
 rcases Bq (itr r k d).1 n with c | c
 .exact c
 .rw[R.out _ c]at this;cases this
theorem Rot.gps_len (R:Rot n r):(TT.gps r n).length<=n*n:=by
 have:∀m,m<=n->(TT.gps r m).length<=m*n:=λm=>by
  induction m with
  | zero=>intro _;simp[TT.gps]
  | succ m y=>
   intro h
   have:=y (by lia)
   have l:=TT.W6 (R.nd m) (m:=List.range n) λx e=>Ab5.mpr (R.lt m x e).1
   rw[Bc]at l;rw[gps_succ,Ab7,Aa3,Nat.succ_mul]
   lia
 exact this n (Aa7 _)
end
inductive Rch (r:Nat->AC):Nat->Prop
 | zero:Rch r 0
 | step {p q:Nat}:Rch r p->q∈r p->Rch r q
theorem Rch.of_closed {r:Nat->AC}{L:AC}(h0:0∈L)(h:∀p∈L,∀q∈r p,q∈L){p:Nat}(x:Rch r p):p∈L:=by
 induction x with
 | zero=>exact h0
 | step _ e y=>exact h _ y _ e
def scn (r:Nat->AC)(L:AC)(p:Nat):AC:=if p∉L/\(r p).any (λq=>decide (q∈L))=true then L++[p] else L
def rnd (r:Nat->AC)(k:Nat)(L:AC):AC:=(List.range k).foldl (scn r) L
def rnds (r:Nat->AC)(n:Nat):Nat->AC
 | 0=>[0]
 | j+1=>rnd r n (rnds r n j)
theorem rnd_succ (r:Nat->AC)(k:Nat)(L:AC):rnd r (k+1) L=scn r (rnd r k L) k:=by unfold rnd;rw[Ca,List.foldl_append];rfl
theorem bN8 {r:Nat->AC}{L:AC}{p x:Nat}(h:x∈L):x∈scn r L p:=by
 unfold scn;split
 .exact Aa0.mpr (.inl h)
 .exact h
theorem cL9 {r:Nat->AC}{L:AC}{x:Nat}(h:x∈L):∀k,x∈rnd r k L
 | 0=>h
 | k+1=>by rw[rnd_succ];exact bN8 (cL9 h k)
structure Mt (r:Nat->AC)(n:Nat)(L:AC):Prop where
 zero:0∈L
 nd:L.Nodup
 lt:∀x∈L,x<n
 rch:∀x∈L,Rch r x
theorem Mt.scn {r:Nat->AC}{n:Nat}{L:AC}(h:Mt r n L)(bk:∀p,∀q∈r p,p∈r q){p:Nat}(hp:p<n):Mt r n (scn r L p):=by
 unfold RS.scn;split
 .rename_i c;obtain⟨k,j⟩:=c;obtain⟨q,s,e⟩:=List.any_eq_true.mp j;have e:=An e;refine⟨by simp[h.zero],?_,λx w=>?_,λx w=>?_⟩
  .rw[Aa4];exact⟨h.nd,by simp,λx w y m e=>k (by rw[<- Ad8.mp m,<- e];exact w)⟩
  .rcases Aa0.mp w with z | z
   .exact h.lt x z
   .rw[Ad8.mp z];exact hp
  .rcases Aa0.mp w with z | z
   .exact h.rch x z
   .rw[Ad8.mp z];exact .step (h.rch q e) (bk p q s)
 .exact h
theorem Mt.rnd {r:Nat->AC}{n:Nat}{L:AC}(h:Mt r n L)(bk:∀p,∀q∈r p,p∈r q):∀k,k<=n->Mt r n (rnd r k L)
 | 0,_=>h
 | k+1,hk=>by rw[rnd_succ];exact(h.rnd bk k (by lia)).scn bk (by lia)
theorem Mt.one {r:Nat->AC}{n:Nat}(h:0<n):Mt r n [0]:=⟨by simp,by simp,λx e=>by rw[Ad8.mp e];exact h,λx e=>by rw[Ad8.mp e];exact .zero⟩
theorem Mt.rnds {r:Nat->AC}{n:Nat}(h:0<n)(bk:∀p,∀q∈r p,p∈r q):∀j,Mt r n (rnds r n j)
 | 0=>Mt.one h
 | j+1=>(Mt.rnds h bk j).rnd bk n (Aa7 _)
theorem aX1 (r:Nat->AC)(L:AC)(p:Nat):L.length<=(scn r L p).length:=by
 unfold scn;split
 .simp
 .exact Aa7 _
theorem bO0 (r:Nat->AC)(L:AC):∀k,L.length<=(rnd r k L).length
 | 0=>Aa7 _
 | k+1=>by rw[rnd_succ];exact Ax (bO0 r L k) (aX1 r _ k)
theorem bT0 {r:Nat->AC}{L:AC}{p q:Nat}(hp:p∉L)(s:q∈r p)(w:q∈L):∀k,p<k->L.length+1<=(rnd r k L).length/\p∈rnd r k L
 | 0,h=>absurd h (Nat.not_lt_zero _)
 | k+1,h=>by
  rw[rnd_succ];by_cases c:p<k
  .have ⟨a,b⟩:=bT0 hp s w k c
   exact⟨Ax a (aX1 r _ k),bN8 b⟩
  .have e:p=k:=by lia
   subst e;by_cases d:p∈rnd r p L
   .refine⟨?_,bN8 d⟩
    have:∀j,p∈rnd r j L->L.length+1<=(rnd r j L).length:=by
     intro j;induction j with
     | zero=>intro z;exact absurd z hp
     | succ j m=>
      rw[rnd_succ];intro z;by_cases y:p∈rnd r j L
      .exact Ax (m y) (aX1 r _ j)
      .have l:=bO0 r L j
       unfold scn at z ⊢;split
       .rw[Ab7];simp;lia
       .rename_i c;rw[Ac c]at z;exact absurd z y
    exact Ax (this p d) (aX1 r _ p)
   .have e:scn r (rnd r p L) p=rnd r p L++[p]:=by
     unfold scn;exact Ae ⟨d,List.any_eq_true.mpr ⟨q,s,Bh (cL9 w p)⟩⟩
    rw[e];have l:=bO0 r L p;exact⟨by rw[Ab7];simp;lia,by simp⟩
def Clo (r:Nat->AC)(n:Nat)(L:AC):Prop:=∀p,p<n->p∉L->∀q∈r p,q∉L
theorem Clo.rnd {r:Nat->AC}{n:Nat}{L:AC}(h:Clo r n L):∀k,k<=n->rnd r k L=L
 | 0,_=>rfl
 | k+1,hk=>by
  rw[rnd_succ,h.rnd k (by lia)]
  unfold scn;refine Ac λj=>?_
  obtain⟨y,w⟩:=j;obtain⟨q,z,e⟩:=List.any_eq_true.mp w;exact h k (by lia) y q z (An e)
theorem bU5 {r:Nat->AC}{n:Nat}(h:0<n)(bk:∀p,∀q∈r p,p∈r q):∀j,Clo r n (rnds r n j)\/j+1<=(rnds r n j).length
 | 0=>.inr (Aa7 _)
 | j+1=>by
  show Clo r n (rnd r n (rnds r n j))\/j+2<=(rnd r n (rnds r n j)).length
  rcases bU5 h bk j with c | c
  .rw[c.rnd n (Aa7 _)];exact .inl c
  .by_cases d:Clo r n (rnds r n j)
   .rw[d.rnd n (Aa7 _)];exact .inl d
   .obtain⟨p,hp,y,q,w,e⟩:∃p,p<n/\p∉rnds r n j/\∃q,q∈r p/\q∈rnds r n j:=by
     apply Classical.byContradiction
     intro z;exact d λp hp y q w e=>z ⟨p,hp,y,q,w,e⟩
    have:=(bT0 y w e n hp).1
    exact .inr (by lia)
theorem rnds_iff {r:Nat->AC}{n:Nat}(h:0<n)(lt:∀p,∀q∈r p,q<n)(bk:∀p,∀q∈r p,p∈r q)(p:Nat):p∈rnds r n n↔Rch r p:=by
 have M:=Mt.rnds h bk n
 refine⟨M.rch p,λx=>?_⟩
 have c:Clo r n (rnds r n n):=by
  rcases bU5 h bk n with c | c
  .exact c
  .have:=TT.W6 M.nd (m:=List.range n) λx w=>Ab5.mpr (M.lt x w)
   rw[Bc]at this
   lia
 refine x.of_closed M.zero λq y s e=>?_
 apply Classical.byContradiction
 intro z;exact c s (lt q s e) z q (bk q s e) y
end RS
namespace L2
open PySem PySem.Spec PyProof.Rows
def ltP (x y:Int×Int):Bool:=decide (x.1<y.1\/x.1=y.1/\x.2<y.2)
def TwoI (h:Heap)(x:Int×Int)(a:Addr):Prop:=∃t u,h.IsTuple a #[.int x.1 t,.int x.2 u]
theorem TwoI.typeIs {s:Shared}{x:Int×Int}{a:Addr}(h:TwoI s.heap x a):s.TypeIs (.ref a) "tuple" := by
 obtain⟨_,_,o,e,c,_⟩:=h;exact⟨o,e,c⟩
section
variable {P:Program}{w:World}{A:Around}{E:Dy}{s:Shared}
theorem dD2 {x y:Int×Int}{a b:Addr}{Z:Fin->Shared->Prop}(N:TwoI s.heap x a)(m:TwoI s.heap y b)(h:Z (.done (.ret (.bool (ltP x y)))) s):wpAny (model P w) A (Builtin.«tuple.__lt__» ⟨[.ref a,.ref b],[]⟩) Z E s:=by
 have D:=m.typeIs
 obtain⟨t,u,oa,J,_,na,X⟩:=N;obtain⟨R,B,ob,M,_,nb,U⟩:=m;show wpAny _ _ (isInstance (.ref b) (.type "tuple") >>= _) _ _ s;refine Aa (wpAny_isInstance D isSubtype_tuple_tuple ?_);rw[Ac (by decide)]
 refine Aa (wpAny_tupleItemsOf J X (Aa (wpAny_tupleItemsOf M U ?_)));have Y:∀(i j:Int) (e z:Tok) (Q:Dy),Q (.bool (decide (i<j))) s->wpAny (model P w) A (richCompare .Lt (.int i e) (.int j z)) Q E s:=λi j e z Q q=>
  richCompare_gives (op:=.Lt) (typeIs_int s _ e) (typeIs_int s _ z) F.slot_int_lt F.entry_int_lt (F.args_int_lt_2 _ _) (gives_int_lt _ _ e z) (λx=>nomatch x) q
 show wpAny _ _ (forIn [(Value.int x.1 t,Value.int y.1 R),(Value.int x.2 u,Value.int y.2 B)] _ _ >>= _) _ _ s
 rw[List.forIn_cons];refine Aa (Aa (Aa (wpAny_eqBool_int ?_)));by_cases c:x.1=y.1
 .rw[beq_iff_eq.mpr c];simp only[Bool.not_true,Cd,if_false];refine Ab ?_;dsimp only;rw[List.forIn_cons];refine Aa (Aa (wpAny_eqBool_int ?_));by_cases k:x.2=y.2
  .rw[beq_iff_eq.mpr k];simp only[Bool.not_true,Cd,if_false];refine Ab ?_;dsimp only;rw[List.forIn_nil];refine Ab ?_;dsimp only;rw[show ltP x y=false from Aj (by lia)]at h
   exact Ab h
  .rw[show(x.2==y.2)=false from beq_eq_false_iff_ne.mpr k]
   simp only[Bool.not_false,if_true];rw[show ltP x y=decide (x.2<y.2) from Bo.mpr (by lia)]at h
   exact Aa (wpAny_rule (Aa (Y _ _ _ _ _ (Aa (Ab (Ab (Ab (Ab h))))))))
 .rw[show(x.1==y.1)=false from beq_eq_false_iff_ne.mpr c]
  simp only[Bool.not_false,if_true];rw[show ltP x y=decide (x.1<y.1) from Bo.mpr (by lia)]at h
  exact Aa (wpAny_rule (Aa (Y _ _ _ _ _ (Aa (Ab (Ab (Ab (Ab h))))))))
theorem dX0 {x y:Int×Int}{a b:Addr}{Q:Dy}(j:A.units<cLine)(z:TwoI s.heap x a)(k:TwoI s.heap y b)(h:Q (.bool (ltP x y)) s):wpAny (model P w) A (richCompare .Lt (.ref a) (.ref b)) Q E s:=
 wpAny_richCompare_same_room (op:=.Lt) z.typeIs k.typeIs F.slot_tuple_lt (Dd F.slot_tuple_lt z.typeIs F.entry_tuple_lt (dD2 z k ⟨_,rfl,(λe=>nomatch e),h⟩) (F.args_tuple_lt_2 _ _)) j
def Kpt (wr:AL)(S:Addr)(h h':Heap):Prop:=∀b o,b∉wr->b≠S->h.get? b=some o->h'.get? b=some o
theorem Kpt.tr {wr:AL}{S:Addr}{h h' h'':Heap}(a:Kpt wr S h h')(b:Kpt wr S h' h''):Kpt wr S h h'':=λc o x y e=>b c o x y (a c o x y e)
theorem aK0 {I S:Addr}{fp wr:AL}{n:Nat}{Pi:Nat->Value->Prop}{St:Nat->Heap->Prop}{R:Result->Shared->Prop}{h0:Heap}(W:Walks P w A.in1 I fp wr n Pi St)(bt:Nat->Nat->Bool)(M:S∉fp)
  (B:∀i j u v (s:Shared) (Q:Dy) (E:Dy),Kpt wr S h0 s.heap->Pi i u->Pi j v->Q (.bool (bt i j)) s->wpAny (model P w) A.in1 (richCompare .Lt u v) Q E s) :
  ∀(k j:Nat) (s:Shared) (v:Value) (c:Nat),j+1+k=n->Kpt wr S h0 s.heap->St (j+1) s.heap->Pi (argBest bt j) v->s.heap.get? S=some {cls:=.type "list",dict:=none,data:=.seq #[v,v] c,slots := #[]} ->
   (∀u h' tk,Pi (argBest bt (n-1)) u->Kpt wr S s.heap h'->R (.ok (.ret u)) {s with heap:=h',toks:=tk})->codeAny (model P w) A (.builtin "min.loop" ⟨[.ref I,.none,.ref S],[]⟩) R s
 | 0,j,s,v,c,hn,k0,st,hv,eS,q=>by
  have hw:S∉wr:=λz=>M (W.sub _ z)
  have hj:j+1=n:=hn
  refine codeAny_builtin F.entry_min_loop ?_;rw[Around.under_plainId F.plain_min_loop _];refine Aa (m:=seqItems? (.ref S)) (wpAny_seqItems eS rfl ?_);refine Aa (m:=tryCatch (pyNext (.ref I)) _) (wpAny_tryCatch (W.done s _ _ (hj▸st) λh' tk J=>?_))
  have Y:=J S _ hw eS
  refine Aa (m:=updateSeq S _) (wpAny_updateSeq Y rfl (Aa (wpAny_letGo (Ab ?_))));refine q v _ tk (by rw[<- hj];exact hv) λb o y z e=>?_
  rw[Au _ _ (Ne.symm z)];exact J b o y e
 | k+1,j,s,v,c,hn,k0,st,hv,eS,q=>by
  have hw:S∉wr:=λz=>M (W.sub _ z)
  have nm:(toString "min" ++ toString ".loop" : String) = "min.loop" := by decide
  refine codeAny_builtin F.entry_min_loop ?_;rw[Around.under_plainId F.plain_min_loop _];refine Aa (m:=seqItems? (.ref S)) (wpAny_seqItems eS rfl ?_);refine Aa (m:=tryCatch (pyNext (.ref I)) _) (wpAny_tryCatch (W.item (j+1) s _ _ (by lia) st λu h' tk hu N J=>?_))
  have Y:=J S _ hw eS
  have k1:Kpt wr S s.heap h':=λb o y _ e=>J b o y e
  refine Aa (m:=tryCatch (holding [u,u] _) _) (wpAny_tryCatch (Bz (Aa (B (j+1) (argBest bt j) u v _ _ _ (k0.tr k1) hu hv ?_))));refine Aa (Bz (wpAny_truthy_bool (Aa (wpAny_letGo (Ab ?_)))));cases hb:bt (j+1) (argBest bt j) with
  | false=>
   rw[Ac (by decide)]
   refine Aa (wpAny_letGo ?_);rw[nm];refine Ab ⟨plainId_quiet F.plain_min_loop _,aK0 W bt M B k (j+1) _ v c (by lia) (k0.tr k1) N ?_ Y λz X U hz kz=>q z X U hz (k1.tr kz)⟩
   show Pi (if bt (j+1) (argBest bt j)=true then j+1 else argBest bt j) v
   rw[hb];exact hv
  | true=>
   rw[Ae rfl];refine Aa (m:=updateSeq S _) (wpAny_updateSeq Y rfl (Aa (wpAny_letGo ?_)));rw[nm];have k2:∀f:Obj->Obj,Kpt wr S s.heap (h'.update S f):=λf b o y z e=>by
    rw[Au _ _ (Ne.symm z)];exact J b o y e
   refine Ab ⟨plainId_quiet F.plain_min_loop _,aK0 W bt M B k (j+1) _ u _ (by lia) (k0.tr (k2 _)) (W.frame _ _ _ N λb D o e=>?_) ?_ (Bw _ Y rfl) λz X U hz kz=>q z X U hz ((k2 _).tr kz)⟩
   .rw[Au _ _ (λz:S=b=>M (z▸D))];exact e
   .show Pi (if bt (j+1) (argBest bt j)=true then j+1 else argBest bt j) u
    rw[hb];exact hu
theorem cD0 {l:Addr}{its:AG}{Q:Dy}{bt:Nat->Nat->Bool}(hh:A.handled=none)(M:s.heap.IsList l its.toArray)(hn:0<its.length)
  (hc:∀i j u v (s':Shared) (Q:Dy) (E:Dy),(∀b o,s.heap.get? b=some o->s'.heap.get? b=some o)->its[i]? = some u->its[j]? = some v->Q (.bool (bt i j)) s'->wpAny (model P w) A.in1 (richCompare .Lt u v) Q E s')
  (q:∀v h' tk,its[argBest bt (its.length-1)]? = some v->(∀b o,s.heap.get? b=some o->h'.get? b=some o)->Q v {s with heap:=h',toks:=tk}):wpAny (model P w) A (call (.builtin "min") [.ref l]) Q E s:=by
 have nm:(toString "min" ++ toString ".loop" : String) = "min.loop" := by decide
 have X:l<s.heap.objs.size:=by obtain⟨_,e,_⟩:=M;exact Ab3 e
 refine call_function_tree F.kind_min F.plain_min F.entry_min (F.args_min1 _) ?_;refine Aa (m:=Builtin.Builtins.bindParams "min" ["key", "default"] 0 ⟨[],[]⟩) (wpAny_of_eq (show Builtin.Builtins.bindParams "min" ["key", "default"] 0 ⟨[],[]⟩=pure [none,none] from rfl) ?_)
 refine Aa (Ab (Aa (wpAny_pyIter_list M (Aa (Cg ?_)))));rw[nm];generalize k:s.heap.push {cls:=.type "list_iterator",data:=.fields #[.ref l,.int 0 0]}=h1;have sz:h1.objs.size=s.heap.objs.size+1:=by rw[<- k];exact By ..
 have g1:∀b o,s.heap.get? b=some o->h1.get? b=some o:=λb o e=>by rw[<- k];exact Aa6 _ e
 have W:=Walks.list (prog:=P) (w:=w) (A:=A.in1) hh s.heap.objs.size l (Ab9 X) its.toArray
 have c:s.heap.objs.size<h1.objs.size:=by rw[sz];exact Nat.lt_succ_self _
 have J:h1.objs.size∉[s.heap.objs.size,l]:=λz=>by
  rcases Aa1.mp z with z | z
  .exact Ab9 c z.symm
  .exact Ab9 (Nat.lt_trans X c) (Ad8.mp z).symm
 have y:∀b o,s.heap.get? b=some o->b∉[s.heap.objs.size]/\b≠h1.objs.size:=λb o e=>by
  have:=Ab3 e
  exact⟨λz=>Ab9 this (Ad8.mp z),Ab9 (Nat.lt_trans this c)⟩
 have st0:(h1.push {cls:=.type "list",dict:=none,data:=.seq #[] 0,slots := #[]}).IsListIter s.heap.objs.size l 0/\(h1.push {cls:=.type "list",dict:=none,data:=.seq #[] 0,slots := #[]}).IsList l its.toArray:=by
  constructor
  .refine⟨{cls:=.type "list_iterator",data:=.fields #[.ref l,.int 0 0]},Aa6 _ ?_,rfl,rfl⟩;rw[<- k];exact Ac3 _ rfl
  .obtain⟨o,e,r⟩:=M;exact⟨o,Aa6 _ (g1 _ _ e),r⟩
 refine Ab ⟨plainId_quiet F.plain_min_loop _,?_⟩;refine codeAny_builtin F.entry_min_loop ?_;rw[Around.under_plainId F.plain_min_loop _];have eS:(h1.push {cls:=.type "list",dict:=none,data:=.seq #[] 0,slots := #[]}).get? h1.objs.size=some {cls:=.type "list",dict:=none,data:=.seq #[] 0,slots := #[]}:=Ac3 _ rfl;refine Aa (m:=seqItems? (.ref h1.objs.size)) (wpAny_seqItems eS rfl ?_);refine Aa (m:=tryCatch (pyNext (.ref s.heap.objs.size)) _) (wpAny_tryCatch (W.item 0 _ _ _ (by simpa using hn) st0 λv h' tk R B kp=>?_))
 have Y:=kp _ _ (λz=>J (W.sub _ z)) eS
 refine Aa (m:=updateSeq h1.objs.size _) (wpAny_updateSeq Y rfl ?_);rw[nm];have g2:∀(f:Obj->Obj) b o,s.heap.get? b=some o->(h'.update h1.objs.size f).get? b=some o:=λf b o e=>by
  rw[Au _ _ (Ne.symm (y b o e).2)];exact kp b o (y b o e).1 (Aa6 _ (g1 b o e))
 refine Ab ⟨plainId_quiet F.plain_min_loop _,aK0 W bt J (h0:=s.heap) ?_ (its.length-1) 0 _ v _ ?_ ?_ (W.frame _ _ _ B λb hb o e=>?_) R (Bw _ Y rfl) λu U tk' N D=>?_⟩
 .intro i j u v s' Q E D N R q;exact hc i j u v s' Q E (λb o e=>D b o (y b o e).1 (y b o e).2 e) (by simpa using N) (by simpa using R) q
 .show 0+1+(its.length-1)=its.toArray.size
  rw[Ab2];lia
 .exact λb o _ _ e=>g2 _ b o e
 .rw[Au _ _ (λz:h1.objs.size=b=>J (z▸hb))];exact e
 .refine q u U tk' (by simpa using N) λb o e=>D b o (y b o e).1 (y b o e).2 (g2 _ b o e)
end
theorem bV5 (f:Nat->Int×Int):∀k,argBest (λi j=>ltP (f i) (f j)) k<=k/\∀j,j<=k->ltP (f j) (f (argBest (λi j=>ltP (f i) (f j)) k))=false
 | 0=>⟨Aa7 _,λj y=>by
  have:j=0:=by lia
  subst this;exact Aj (by show ¬((f 0).1<(f 0).1\/(f 0).1=(f 0).1/\(f 0).2<(f 0).2);lia)⟩
 | k+1=>by
  obtain⟨h1,e⟩:=bV5 f k;show(if ltP (f (k+1)) (f (argBest (λi j=>ltP (f i) (f j)) k))=true then k+1 else argBest (λi j=>ltP (f i) (f j)) k)<=k+1/\∀j,j<=k+1->ltP (f j) (f (if ltP (f (k+1)) (f (argBest (λi j=>ltP (f i) (f j)) k))=true then k+1 else argBest (λi j=>ltP (f i) (f j)) k))=false
  generalize argBest (λi j=>ltP (f i) (f j)) k=b at h1 e
  by_cases c:ltP (f (k+1)) (f b)=true
  .rw[Ae c];refine⟨Aa7 _,λj y=>?_⟩
   have c:=An c
   refine Aj λz=>?_
   rcases Bq k j with d | d
   .have:j=k+1:=by lia
    subst this;lia
   .have:=Ao (e j d)
    lia
  .rw[Ac c];refine⟨by lia,λj y=>?_⟩
   rcases Bq k j with d | d
   .have:j=k+1:=by lia
    subst this;exact Bool.eq_false_iff.mpr c
   .exact e j d
section
def dT2 (K:Frag)(xs:List V)(H:Hp)(Q:VK):Prop:=∃(p:Addr) (ys:List V) (ps:List (Int×Int)),xs=[.ref p]/\SqL K H p ys/\ys.length=ps.length/\(∀(i:Nat) (v:V) (x:Int×Int),ys[i]? = some v->ps[i]? = some x->∃a,v=.ref a/\SqT K H a [.int x.1,.int x.2])/\ps≠[]/\∀(i:Nat) (v:V) (x:Int×Int),ys[i]? = some v->ps[i]? = some x->(∀y∈ps,ltP y x=false)->Q v H
theorem cP0 (K:Frag){k:Nat}(hr:Room k X.A)(hc:X.calm=true:=by rfl)(h:X.K=K:=by rfl):R4 X (.builtin "min") (dT2 K):=by
 subst h;intro aA s σ H xs us Q I r ⟨p,ys,ps,e,hq,hl,hp,N,q⟩;subst e;obtain⟨u,rfl,rx⟩:=S0 r;cases rx;obtain⟨its,rv,pl,_⟩:=I.list hq;have il:=rv.length;have w:∀i,i<ps.length->ps[i]? = some (ps.getD i (0,0)):=λi hi=>by rw[Ac0,Aa2 hi];rfl
 have c:∀i u,its[i]? = some u->∃v a,ys[i]? = some v/\v=.ref a/\u=.ref a/\TwoI s.heap (ps.getD i (0,0)) a:=λi u U=>by
  have hi:i<its.length:=(Ab0.mp U).1
  have Y:ys[i]? = some (ys[i]'(by lia)):=Aa2 (by lia)
  obtain⟨u',m,rr⟩:=rv.get Y;rw[U]at m;cases m;obtain⟨a,ea,sa⟩:=hp i _ _ Y (w i (by lia))
  obtain⟨its',B,D,_⟩:=I.tuple sa;rw[ea]at rr;cases rr;refine⟨_,a,Y,ea,rfl,?_⟩;cases B with
  | cons x1 r1=>
   cases r1 with
   | cons x2 r2=>
    cases r2
    obtain⟨t1,rfl⟩:=x1;obtain⟨P,rfl⟩:=x2;exact⟨t1,P,D⟩
 have h0:0<its.length:=by rw[<- il,hl];exact Dc.mpr N
 refine cD0 (bt:=λi j=>ltP (ps.getD i (0,0)) (ps.getD j (0,0))) hr.hd pl.isList h0 (λi j u v s' Q' E' J U R q'=>?_) λv h' tk R J=>?_
 .obtain⟨_,a,_,_,rfl,t,t',o,eo,ro⟩:=c i u U;obtain⟨_,b,_,_,rfl,P,t2',o',M,F⟩:=c j v R;exact dX0 (by have:=hr.un;show X.A.units+1<cLine;lia) ⟨t,t',o,J _ _ eo,ro⟩ ⟨P,t2',o',J _ _ M,F⟩ q'
 .obtain⟨y,a,Y,ey,rfl,_⟩:=c _ v R;obtain⟨b1,b2⟩:=bV5 (λi=>ps.getD i (0,0)) (its.length-1)
  refine⟨.ref a,H,I.kept J,rfl,?_⟩;rw[<- ey];refine q _ y _ Y (w _ (by lia)) λz hz=>?_
  obtain⟨j,hj,e⟩:=List.getElem_of_mem hz
  have:=b2 j (by lia)
  rw[<- e];rw[show ps.getD j (0,0)=ps[j] by rw[Ac0,Aa2 hj];rfl]at this
  exact this
def cX2 (i:Nat)(ok:Nat->Addr->Prop)(sp:Nat->Sp)(E:XK)(t:TA):TE:=λσ H Q=>∃j f,σ[i]? = some (some (.ref f))/\ok j f/\t σ H λvs H1=>sp j (vs++[]) H1 Q E
theorem cS5 {ok:Nat->Addr->Prop}{sp:Nat->Sp}{ps:AH}{CX:CXT}{E:XK}{e:Expr}{es:AM}{t:TA}{x:Str}{p pos:Pos}(i:Nat)(F:∀j f,ok j f->∃fd k,Room k X.A/\J0 X.prog X.w X.K X.mg X.base CX k f fd ps (sp j)/\PySem.W.keepIn X.K (.ref f)=true/\Binds X.K fd ps [])(P:n5 CX X E)(U:PA X (e::es) t)
  (Y:X.N[i]? = some x:=by rfl) (B:Vis X.env.scope x:=by first | exact Or.inl rfl | exact Or.inr (Or.inl rfl) | exact Or.inr (Or.inr rfl)) (J:(x==("__debug__" : Str))=false:=by decide)
  (y:(x==("__classdict__" : Str))=false:=by decide) (M:starEach (e::es) X.env=(false,eval e X.env)::starEach es X.env:=by rfl) (c:(backTo pos (starEach es X.env)).any (·.1)=false:=by rfl) :
  PE X (.Call (.Name x p) (e::es) [] pos) (cX2 i ok sp E t):=by
 refine⟨?_⟩;rintro m s σ H Q I ⟨j,f,R,z,h⟩;have hp:=(cY1 (p:=p) (sp:=sp j) (ok:=λg=>g=f) (CX:=CX) (E:=E) i (λg D=>by subst D;exact F j g z) P U Y B J y M c)
 exact hp m s σ H Q I ⟨f,R,rfl,h⟩
end
end L2
namespace LV
open PySem PySem.Spec PyProof.Rows L2
section
variable {K:Frag}{ρ:List Sl}{m:Bool}{t:TA}{d:PyData}{ds:AF}
theorem bX7 {H:Hp}:∀{ys:List V} {ps:List (Int×Int)},Reps K H ys (ps.map λx=>tI [x.1,x.2])->ys.length=ps.length/\∀(i:Nat) (v:V) (x:Int×Int),ys[i]? = some v->ps[i]? = some x->∃a,v=.ref a/\SqT K H a [.int x.1,.int x.2]
 | _,[],r=>by cases r;exact⟨rfl,λi v x h=>by simp at h⟩
 | _,p::ps,r=>by
  cases r with
  | cons a b=>
   obtain⟨h1,w⟩:=bX7 b;refine⟨by simp[h1],λi v x e y=>?_⟩
   cases i with
   | zero=>
    cases e;cases y
    obtain⟨q,rfl,s⟩:=aW1 a;exact⟨q,rfl,s⟩
   | succ i=>exact w i v x e y
theorem dX7 {ps:List (Int×Int)}{M:Int×Int}(Y:A K false t ρ [.list (ps.map λx=>tI [x.1,x.2])])(k:M∈ps)(X:∀y∈ps,ltP y M=false):E K m (tCB (dT2 K) t) ρ (tI [M.1,M.2]):=E.bor (E.imm (m:=false) (λS B σ H o I Q q=>Y S B σ H o I _ λvs c J r=>by
 cases r with
 | cons a b=>
  cases b
  cases a with
  | lst s rr=>
   obtain⟨h1,z⟩:=bX7 rr;refine⟨_,_,ps,rfl,s,h1,z,List.ne_nil_of_mem k,λi v x U j w=>?_⟩
   have e:x=M:=by
    have N:=Ao (w M k)
    have R:=Ao (X x (Bf j))
    exact Prod.ext (by lia) (by lia)
   subst e;obtain⟨D,rfl,sq⟩:=z i v x U j;exact q _ c J (.tup sq (.cons (.int _) (.cons (.int _) .nil)))) (by rfl))
theorem dN4 {i:Nat}{ok:Nat->Addr->Prop}{f:Addr}{pre:Nat->AF->PyData->Prop}{X:XK}(j:Nat)(hi:ρ[i]? = some (.val (adD f)))(e:ok j f)(k:A K true t ρ ds)(hp:pre j ds d):E K m (cX2 i ok (λg=>spV K (pre g)) X t) ρ d:=E.bor λS B σ H o I Q q=>by
 obtain⟨v,y,s⟩:=I.val i _ hi;rw[dM7 s]at y;exact⟨j,f,y,e,k S B σ H o I _ λvs U w r=>⟨ds,D6 ρ o S,d,(I.grow w).lists,by rw[Bm];exact r,hp,λv z Y c=>q v z (L2.Same.tr w Y) c⟩⟩
end
end LV
namespace LH
open PySem PySem.SetTable
end LH
namespace L2
open PySem PySem.Spec PyProof.Rows
end L2
namespace LH
open PySem PySem.SetTable
end LH
namespace L2
open PySem PySem.Spec PyProof.Rows
end L2
namespace LH
open PySem
end LH
namespace L2
open PySem PySem.Spec PyProof.Rows
end L2
namespace LV
open PySem PySem.Spec PyProof.Rows L2
end LV
namespace L2
open PySem PySem.Spec PyProof.Rows
theorem bF9:isSubtype (.type "tuple") (.type "set")=pure false:=by rw[Ap];kernel_rfl
theorem aG4:isSubtype (.type "tuple") (.type "frozenset")=pure false:=by rw[Ap];kernel_rfl
section
theorem bT2 (a:Value)
  (h:Q₁ (.ref s.heap.objs.size) {s with heap:=s.heap.push {cls:=.type "set",dict:=none,data:=.set #[] 0 (.fresh 0 0 (!(w.params.followText "set-order")))}}) :
  codeAny (model prog w) A (.call (.builtin "set.__new__") ⟨[.type "set",a],[]⟩) (wants Q₁ E) s:=by
 refine codeAny_of_tree ?_;show wpAny _ A.in1 (do checkBuiltinCall "set.__new__" ⟨[.type "set",a],[]⟩;again (.builtin "set.__new__" ⟨[.type "set",a],[]⟩)) _ _ s;refine Aa (wpAny_of_eq (F.newCall_set_1 a) (Ab ⟨plainId_quiet F.plain_set_new _,codeAny_builtin F.entry_set_new ?_⟩));rw[Around.under_plainId F.plain_set_new _];unfold Builtin.«set.__new__» Builtin.Frozenset.newClass;have e:=sub_set_self;obtain⟨hp,g,d,y,os⟩:=s;dsimp only
 wp_walk
 refine wpAny_askSetting (Ab ?_);dsimp only;simp only[newObj];refine Aa (wpAny_alloc (Ab ?_));exact Ab h
end
open PySem.Calls
end L2
namespace LV
open PySem L2 PyProof.Rows
end LV
namespace L2
open PySem PySem.Spec PyProof.Rows
end L2
namespace LV
open PySem PyProof.Rows L2
end LV
set_option maxHeartbeats 1000000
namespace K05
open PySem L2 LV PyProof.Rows
theorem K1 (l:AC):(nI l).length=l.length:=by unfold nI;simp
def cI (x:Nat×Nat):Int×Int:=((x.1:Int),(x.2:Int))
theorem EI.to {K:Frag}{t:TE}{ρ:List Sl}{m:Bool}{i j:Int}(h:LV.E K m t ρ (.int i))(e:i=j):LV.E K m t ρ (.int j):=e▸h
structure Rt (ts:AA):Prop where
 lo:3<=ts.length
 hi:ts.length<=10
 rot:RS.Rot ts.length (TT.trn ts)
theorem Rt.tle {ts:AA}(R:Rt ts)(p:Nat):(TT.trn ts p).length<=10:=by
 have:=TT.W6 (R.rot.nd p) (m:=List.range ts.length) λx e=>Ab5.mpr (R.rot.lt p x e).1
 rw[Bc]at this
 have:=R.hi
 lia
theorem Rt.lt {ts:AA}(R:Rt ts){p q:Nat}(h:q∈TT.trn ts p):p<ts.length:=by
 rcases Bq p ts.length with c | c
 .exact c
 .rw[R.rot.out p c]at h;cases h
theorem Rt.at_ {ts:AA}{p:Nat}(h:p<ts.length):atI (ts.map tN) (p:Int)=some (tN (TT.trn ts p)):=S1 p rfl (by rw[Aa9,aE1 h];rfl)
theorem Rt.glen {ts:AA}(R:Rt ts):(TT.gps (TT.trn ts) ts.length).length<=100:=by
 have:=R.rot.gps_len
 have:=R.hi
 have:ts.length*ts.length<=10*10:=Nat.mul_le_mul R.hi R.hi
 lia
theorem Rt.plen {ts:AA}(R:Rt ts){d:Nat×Nat}(h:d.2∈TT.trn ts d.1):RS.per (TT.trn ts) d<=100:=Ax (R.rot.per_le h) R.glen
theorem aI2 {l:AC}{k:Nat}(h:k<l.length):(nI l)[k]? = some (.int (TT.gi l k:Nat)):=by
 unfold nI TT.gi;rw[Aa9,Ac0,Aa2 h];rfl
theorem dE2 {l:AC}{k:Nat}(h:k<l.length):atI (nI l) ((k:Int)-1)=some (.int (TT.gi l (if k=0 then l.length-1 else k-1):Nat)):=by
 by_cases c:k=0
 .subst c;rw[Ae rfl];unfold atI ixN;rw[Ac (by lia),Ae (by rw[K1];lia),K1]
  show(nI l)[(((0:Nat):Int)-1+(l.length:Int)).toNat]? = _
  rw[show(((0:Nat):Int)-1+(l.length:Int)).toNat=l.length-1 by lia]
  exact aI2 (by lia)
 .rw[Ac c];exact S1 (k-1) (by lia) (aI2 (by lia))
def fWr (l:AC):PyData->Option PyData
 | .int k=>some (pD (cI (TT.gi l (if k.toNat=0 then l.length-1 else k.toNat-1),TT.gi l k.toNat)))
 | _=>none
theorem cI3 (l:AC):(Y9 0 l.length).filterMap (fWr l)=(RS.wyR l).map λx=>pD (cI x):=by
 unfold Y9 RS.wyR;rw[Ar,Ae3,<- List.filterMap_eq_map]
 congr 1
 funext k
 show some _=some _
 simp only[Int.zero_add,Ac8];rfl
def eH9 (ds es:AF):Prop:=∃l:AC,l.length<=1000/\ds=[tN l]/\es=(RS.wyR l).map λx=>pD (cI x)
def eJ4 (ds:AF)(d:PyData):Prop:=∃(ts:AA) (p q:Nat),Rt ts/\q∈TT.trn ts p/\ds=[tD ts,.int (p:Int),.int (q:Int)]/\d=tN (RS.rng (TT.trn ts) (p,q))
def crn (r:Nat->AC)(d:Nat×Nat)(j:Nat):AC:=(List.range j).map λk=>(RS.itr r k d).1
theorem dQ5 (r:Nat->AC)(d:Nat×Nat)(j:Nat):crn r d (j+1)=crn r d j++[(RS.itr r j d).1]:=by unfold crn;rw[Ca,Ad2];rfl
section
variable {P:Program}{w:World}{K:Frag}{mg:Str->Option Value}{base:Heap}{a:Ad}
theorem eF4 (T:Tx K mg a):J0 P w K mg base CX0 1 a.aL2 a.aL9 ["ring"] (spL K eH9):=by
 refine T.aM5.F.ok bE6 (cQ3 (by rintro ds d ⟨_,_,rfl,_⟩;rfl)) (λe A outer s H vs Q E U h=>?_)
 obtain⟨ds,S,Y,k,r,⟨l,X,rfl,rfl⟩,q⟩:=h;refine⟨_,(A6 (B7 (L9 (T:=["k"]) (N':=["k", "ring"]) (is:=[0]) rfl (.of rfl rfl rfl (by exact⟨rfl,trivial⟩) rfl rfl rfl (by exact⟨⟨_,rfl,by first | exact .inl rfl | exact .inr rfl,by first | exact .inl rfl | exact .inr rfl⟩,trivial⟩)) (D9 rfl T.F7 (A0 (B5 (u7 K) (by rfl) T.M4 Am (A0 (pv 0) A1)) A1)) (K2 (by decide)) λ_ _ _ _=>⟨(F1 (i:=0) (by decide +kernel:(["k", "ring"]:AH).Nodup) rfl (Or.inl rfl)),G4,(E9 (A0 (B8 (ixK K) (pv 1) (B2 V4 (pv 0) A4) (λ_ _=>rfl)) (A0 (B8 (ixK K) (pv 1) (pv 0) (λ_ _=>rfl)) A1)))⟩))),aR9 k r ?_ q⟩
 refine bQ2 (EF.to (G8 (m:=true) (fWr l) (N1 (j:=(l.length:Int)) (A2 (EI.to (P5 (ds:=nI l) (A2 v0 A5)) (by rw[K1])) A5) (by lia) (by lia)) (by rw[rng_len];unfold sizeLine;lia) λd c=>?_) (by rw[Ac8];exact cI3 l)) rfl
 obtain⟨i,hi⟩:=List.mem_iff_getElem?.mp c;obtain⟨rfl,hi⟩:=N0 hi;have hi:i<l.length:=by lia
 refine⟨_,B9,U3,?_⟩;have y:LV.E K true (tOp (rIx K) (F0 1) (tOp (rI0 λi j=>.int (i-j)) (F0 0) (tC (.int 1)))) [vI (i:Int),.val (tN l)] (.int (TT.gi l (if i=0 then l.length-1 else i-1):Nat)):=G0 (ds:=nI l) v1 (P3 (g:=λi j=>i-j) v0 A7) rfl (dE2 hi)
 have z:LV.E K true (tOp (rIx K) (F0 1) (F0 0)) [vI (i:Int),.val (tN l)] (.int (TT.gi l i:Nat)):=G0 (ds:=nI l) v1 v0 rfl (S1 i rfl (aI2 hi))
 exact N2 (A2 y (A2 z A5))
theorem eJ7 (T:Tx K mg a):J0 P w K mg base CX0 2 a.aN3 a.aN6 ["turns", "p", "q"] (spV K eJ4):=by
 have y := @cW6 P w K mg base a T
 refine T.aL6.F.ok O1 (W7 (by rintro ds d ⟨_,_,_,_,_,rfl,_⟩;rfl)) (λD A outer s H vs Q E hr h=>?_)
 obtain⟨ds,S,d,hS,r,⟨ts,p,e,R,Y,rfl,rfl⟩,q⟩:=h;refine⟨_,(A3 (psS 3 O1 (D5 (A0 (pv 1) A1)))
   (A3 (psS 4 O1 (pv 1))
   (A3 (psS 5 O1 (pv 2))
   (A6 (aD5 Ai (V1 Z0) (A3 (psS 6 O1 (pcl y hr T.aY3 (A0 (B8 (ixK K) (pv 0) (pv 5) (λ_ _=>rfl)) (A0 (pv 4) A1))))
   (A3 (G9 (PW.pt (bB5 (C1 a8 (pv 5) (pv 1) (C6 _)) (aM2 (C1 a8 (pv 6) (pv 2) (C6 _))))) (A6 (B7 (L7 (cU2 K) (by rfl) T.R8 boot_tuple (A0 (pv 3) A1)))) C5)
   (A3 (G7 (N3 Ab1 Ah Ag E6 (pv 3) (A0 (pv 5) A1)))
   (A3 (psS 4 O1 (pv 5))
   (A6 (psS 5 O1 (pv 6)))))))))))),L6 hS r ?_ q⟩
 have P:=R.rot.per (d:=(p,e)) Y
 have N:=R.plen (d:=(p,e)) Y
 have isD:=R.rot.isDk (d:=(p,e)) Y
 have p0:=P.pos
 generalize hn:RS.per (TT.trn ts) (p,e)=n at *;refine A8 (K6 (ds:=nI (crn (TT.trn ts) (p,e) 1)) (K5 (A2 v1 A5) (show(1:Nat)<=PySem.sizeLine by decide)) ?_ (show 3<7 by decide))
 refine A8 (C9 (d:=.int ((RS.itr (TT.trn ts) 0 (p,e)).1:Nat)) v1 ?_);refine A8 (C9 (d:=.int ((RS.itr (TT.trn ts) 0 (p,e)).2:Nat)) v2 ?_);refine aQ5 (λk ρ=>∃j X,j+k=n/\0<k/\X.nb=true/\ρ=[vD ts,vI (p:Int),vI (e:Int),.own (nI (crn (TT.trn ts) (p,e) (j+1))),vI ((RS.itr (TT.trn ts) j (p,e)).1:Nat),vI ((RS.itr (TT.trn ts) j (p,e)).2:Nat),X]) ⟨n,0,.no,by lia,p0,rfl,rfl⟩ ?_
 rintro k _ ⟨j,X,hk,k0,b6,rfl⟩;refine⟨true,t_b bT3,?_⟩;rw[Ae rfl];have hd:=isD j;have J:=R.rot.bk _ _ hd;have m:=R.lt J;have e1:(RS.itr (TT.trn ts) (j+1) (p,e)).2=TT.prd (TT.trn ts (RS.itr (TT.trn ts) j (p,e)).2) (RS.itr (TT.trn ts) j (p,e)).1:=rfl;have U:(RS.itr (TT.trn ts) (j+1) (p,e)).1=(RS.itr (TT.trn ts) j (p,e)).2:=rfl;refine A8 (C9 (d:=.int ((RS.itr (TT.trn ts) (j+1) (p,e)).2:Nat)) (G1 (A2 (G0 (ds:=ts.map tN) v0 v5 rfl (Rt.at_ m)) (A2 v4 A5)) ⟨_,_,J,by have:=R.tle (RS.itr (TT.trn ts) j (p,e)).2;lia,rfl,by rw[e1]⟩) ?_)
 have B:(crn (TT.trn ts) (p,e) (j+1)).length=j+1:=by simp[crn]
 refine A8 (O8 (aT3 (C4 (Y6 (i:=((RS.itr (TT.trn ts) j (p,e)).2:Int)) (j:=(p:Int)) v5 v1)) λh=>(C4 (Y6 (i:=((RS.itr (TT.trn ts) (j+1) (p,e)).2:Int)) (j:=(e:Int)) v6 v2))) (λh=>?_) (λh=>E2 ?_))
 .rw[Bu]at h;have h1:=An h.1;have h2:=An h.2;have he:RS.itr (TT.trn ts) (j+1) (p,e)=(p,e):=Prod.ext (by rw[U];exact Int.ofNat_inj.mp h1) (Int.ofNat_inj.mp h2)
  have M:j+1=n:=by
   rcases Bq (j+1) n with c | c
   .exact absurd he (P.first (j+1) (by lia) c)
   .lia
  refine E1 (X1 (ds:=nI (crn (TT.trn ts) (p,e) (j+1))) (A2 (J8 rfl) A5) (M0 _)) ?_;rw[M];unfold RS.rng crn;rw[hn];rfl
 .have M:j+1≠n:=λz=>by
   have:=P.back
   rw[<- z]at this;have t1:(RS.itr (TT.trn ts) j (p,e)).2=p:=by rw[<- U,this]
   have t2:(RS.itr (TT.trn ts) (j+1) (p,e)).2=e:=by rw[this]
   rw[t1,t2]at h;simp at h
  refine A8 (P9 (d:=.int ((RS.itr (TT.trn ts) j (p,e)).2:Nat)) rfl v5 (by rw[K1];unfold sizeLine;lia) ?_)
  refine A8 (C9 (d:=.int ((RS.itr (TT.trn ts) (j+1) (p,e)).1:Nat)) v5 ?_);refine C9 (d:=.int ((RS.itr (TT.trn ts) (j+1) (p,e)).2:Nat)) v6 ⟨k-1,by lia,j+1,vI ((RS.itr (TT.trn ts) (j+1) (p,e)).2:Nat),by lia,by lia,rfl,?_⟩
  rw[dQ5 (TT.trn ts) (p,e) (j+1)];show _=[_,_,_,Sl.own (nI (_++[_])),_,_,_];unfold nI;rw[Ad2];rfl
end
set_option maxHeartbeats 1000000
theorem M3:C3 ["turns", "seen", "rounds", "p", "turn", "q", "corners", "way"] ["turns"] (B1 aB2):={}
def bE7 (kvs:List (AD×PyData))(ws:List (Nat×Nat)):List (AD×PyData):=ws.foldl (λa w=>aI8 a [(w.1:Int),(w.2:Int)] (.bool true)) kvs
theorem bU3:∀(ws:List (Nat×Nat)) (kvs:List (AD×PyData)) (x y:Nat),(bE7 kvs ws).any (λz=>decide (z.1=[(x:Int),(y:Int)]))=(kvs.any (λz=>decide (z.1=[(x:Int),(y:Int)]))||decide ((x,y)∈ws))
 | [],kvs,x,y=>by simp[bE7]
 | v::ws,kvs,x,y=>by
  have ih:=bU3 ws (aI8 kvs [(v.1:Int),(v.2:Int)] (.bool true)) x y
  show(bE7 (aI8 kvs [(v.1:Int),(v.2:Int)] (.bool true)) ws).any _=_
  rw[ih,dG1,Bool.or_assoc]
  congr 1
  rw[<- Bool.decide_or];refine Bo.mpr ?_;rw[Aa1];refine or_congr ⟨λh=>?_,λh=>?_⟩ Iff.rfl
  .simp only[Cc,and_true]at h;exact Prod.ext (by show x=v.1;lia) (by show y=v.2;lia)
  .rw[<- h]
theorem bD7:∀(ws:List (Nat×Nat)) (kvs:List (AD×PyData)),(bE7 kvs ws).length<=kvs.length+ws.length
 | [],kvs=>by simp[bE7]
 | v::ws,kvs=>by
  have ih:=bD7 ws (aI8 kvs [(v.1:Int),(v.2:Int)] (.bool true))
  have:=cZ7 kvs [(v.1:Int),(v.2:Int)] (.bool true)
  show(bE7 (aI8 kvs [(v.1:Int),(v.2:Int)] (.bool true)) ws).length<=_
  rw[Al];lia
def pre (r:Nat->AC)(i j:Nat):List (Nat×Nat):=TT.gps r i++((r i).take j).map λq=>(i,q)
theorem cI6 (r:Nat->AC)(i:Nat):pre r i 0=TT.gps r i:=by simp[pre]
theorem dR6 (r:Nat->AC){i j q:Nat}(h:(r i)[j]? = some q):pre r i (j+1)=pre r i j++[(i,q)]:=by
 unfold pre;rw[Di,h];simp
theorem bM3 (r:Nat->AC)(i:Nat):pre r i (r i).length=TT.gps r (i+1):=by
 unfold pre TT.gps;rw[Cr,Ca];simp
theorem bC4 (r:Nat->AC):∀l:List (Nat×Nat),∀E:List (Nat×Nat),(l.foldl (RS.repF r) E).length<=E.length+l.length
 | [],E=>by simp
 | d::l,E=>by
  have:=bC4 r l (RS.repF r E d)
  have h:(RS.repF r E d).length<=E.length+1:=by unfold RS.repF;split <;> simp
  rw[List.foldl_cons,Al];lia
def KS (r:Nat->AC)(kvs:List (AD×PyData))(E:List (Nat×Nat)):Prop:=∀a b,b∈r a->kvs.any (λz=>decide (z.1=[(a:Int),(b:Int)]))=E.any λe=>decide ((a,b)∈RS.orb r e)
theorem dT6 {n:Nat}{r:Nat->AC}(R:RS.Rot n r){kvs:List (AD×PyData)}{E:List (Nat×Nat)}{d:Nat×Nat}(y:d.2∈r d.1)(ks:KS r kvs E):KS r (bE7 kvs (RS.wyR (RS.rng r d))) (E++[d]):=λa b e=>by
 rw[bU3,ks a b e,List.any_append]
 congr 1
 show _=(decide ((a,b)∈RS.orb r d)||false)
 rw[Bool.or_false];exact Bo.mpr (R.wyR_mem y)
def dB2 (ds es:AF):Prop:=∃ts:AA,Rt ts/\ds=[tD ts]/\es=((RS.reps (TT.trn ts) (TT.gps (TT.trn ts) ts.length)).map (RS.rng (TT.trn ts))).map tN
theorem cI1 {ts:AA}(R:Rt ts){i j:Nat}(hi:i<ts.length):(pre (TT.trn ts) i j).length<=110:=by
 have g:=R.glen
 have t:=R.tle i
 have m:∀a b,a<=b->(TT.gps (TT.trn ts) a).length<=(TT.gps (TT.trn ts) b).length:=λa b=>by
  induction b with
  | zero=>intro h;rw[show a=0 by lia];exact Aa7 _
  | succ b e=>
   intro h;rcases Bq b a with c | c
   .rw[show a=b+1 by lia];exact Aa7 _
   .have:=e c
    rw[RS.gps_succ,Ab7];lia
 have:=m i ts.length (by lia)
 unfold pre;rw[Ab7,Aa3,Ad1]
 lia
section
variable {P:Program}{w:World}{K:Frag}{mg:Str->Option Value}{base:Heap}{a:Ad}
theorem dP5 (T:Tx K mg a):J0 P w K mg base CX0 3 a.aO2 a.aO7 ["turns"] (spL K dB2):=by
 have c := @eJ7 P w K mg base a T
 have Y := @eF4 P w K mg base a T
 refine T.u9.F.ok M3 (cQ3 (by rintro ds d ⟨_,_,rfl,_⟩;rfl)) (λcdv A outer s H vs Q E hr h=>?_)
 obtain⟨ds,S,es,hS,r,⟨ts,R,rfl,rfl⟩,q⟩:=h;refine⟨_,(A3 (psS 1 M3 cM4)
   (A3 (psS 2 M3 (D5 A1))
   (A3 (G6 Ai rfl (dD8 K rfl T.X3 (A0 (pv 0) A1)) (aZ6 (n:=2) rfl (S6 (pgN 3 M3) (S6 (pgN 4 M3) aP5))) (A6 (G6 Ai rfl (m9 (pv 4)) (pgN 5 M3) (A6 (G9 (C1 (bY0 K hr) (E9 (A0 (pv 3) (A0 (pv 5) A1))) (pv 1) rfl) (A3 (psS 6 M3 (pcl c hr T.aL6 (A0 (pv 0) (A0 (pv 3) (A0 (pv 5) A1)))))
   (A3 (G6 Ai rfl (T3 (pcl Y hr T.aM5 (A0 (pv 6) A1))) (pgN 7 M3) (A6 (cP8 K hr (pv 1) (pv 7) Z0)))
   (A6 (G7 (N3 Ab1 Ah Ag E6 (pv 2) (A0 (pv 6) A1)))))) C5)))))
   (A6 (B7 (pv 2)))))),aR9 hS r ?_ q⟩
 refine A8 (cC8 cD8 ?_ (show 1<8 by decide))
 refine A8 (K6 (K5 A5) ?_ (show 2<8 by decide))
 refine A8 (O4 (dM0 (ds:=ts.map tN) (A2 (B0 rfl) A5)) (λi ρ=>∃kvs x3 x4 U X k,(x3.nb=true/\x4.nb=true/\U.nb=true/\X.nb=true/\k.nb=true)/\KS (TT.trn ts) kvs (RS.reps (TT.trn ts) (TT.gps (TT.trn ts) i))/\kvs.length<=100*(RS.reps (TT.trn ts) (TT.gps (TT.trn ts) i)).length/\ρ=[vD ts,.tr (.dic kvs),.own (((RS.reps (TT.trn ts) (TT.gps (TT.trn ts) i)).map (RS.rng (TT.trn ts))).map tN),x3,x4,U,X,k]) ⟨[],.no,.no,.no,.no,.no,⟨rfl,rfl,rfl,rfl,rfl⟩,λx y _=>by simp[TT.gps,RS.reps],by simp,by simp[TT.gps,RS.reps];rfl⟩ ?_ ?_)
 .rintro i d _ hd ⟨kvs,x3,x4,U,X,k,⟨b3,b4,b5,b6,b7⟩,hks,hkl,rfl⟩;obtain⟨y,hy,rfl⟩:=aJ5 hd;rw[Aa9]at hy;obtain⟨row,h1,rfl⟩:=Ba.mp hy;have hi:i<ts.length:=(Ab0.mp h1).1;have er:TT.trn ts i=row:=by unfold TT.trn;rw[h1];rfl
  refine⟨_,bT4 (X2 B9 (X2 B9 aX9)),?_⟩;rw[<- er];show W K _ [vD ts,.tr (.dic kvs),.own (((RS.reps (TT.trn ts) (TT.gps (TT.trn ts) i)).map (RS.rng (TT.trn ts))).map tN),vI (i:Int),.val (tN (TT.trn ts i)),U,X,k] _;refine O4 (aH9 (ds:=nI (TT.trn ts i)) v4) (λj ρ=>∃kvs U X k,(U.nb=true/\X.nb=true/\k.nb=true)/\KS (TT.trn ts) kvs (RS.reps (TT.trn ts) (pre (TT.trn ts) i j))/\kvs.length<=100*(RS.reps (TT.trn ts) (pre (TT.trn ts) i j)).length/\ρ=[vD ts,.tr (.dic kvs),.own (((RS.reps (TT.trn ts) (pre (TT.trn ts) i j)).map (RS.rng (TT.trn ts))).map tN),vI (i:Int),.val (tN (TT.trn ts i)),U,X,k]) ⟨kvs,U,X,k,⟨b5,b6,b7⟩,by rw[cI6];exact hks,by rw[cI6];exact hkl,by rw[cI6]⟩ ?_ ?_
  .rintro j d _ hd ⟨kvs,U,X,k,⟨b5,b6,b7⟩,hks,hkl,rfl⟩;unfold nI at hd;rw[Aa9]at hd;obtain⟨z,N,rfl⟩:=Ba.mp hd;have B:z∈TT.trn ts i:=Bf N;have hps:=dR6 (TT.trn ts) N;have hpl:=cI1 R hi (j:=j);have hrl:(RS.reps (TT.trn ts) (pre (TT.trn ts) i j)).length<=110:=by
    have:=bC4 (TT.trn ts) (pre (TT.trn ts) i j) []
    unfold RS.reps;simp at this;lia
   refine⟨_,B9,?_⟩;have snoc:=RS.reps_snoc (TT.trn ts) (pre (TT.trn ts) i j) (i,z);rw[<- hps]at snoc;generalize RS.reps (TT.trn ts) (pre (TT.trn ts) i (j+1))=E' at snoc ⊢;generalize hE:RS.reps (TT.trn ts) (pre (TT.trn ts) i j)=E at *;have hFl:((E.map (RS.rng (TT.trn ts))).map tN).length<=110:=by simp;lia
   generalize hF:(E.map (RS.rng (TT.trn ts))).map tN=F at hFl ⊢;show W K _ [vD ts,.tr (.dic kvs),.own F,vI (i:Int),.val (tN (TT.trn ts i)),vI (z:Int),X,k] _;have J:=dK9 (K:=K) (m:=false) (neg:=true) (i:=1) (kvs:=kvs) (ks:=[(i:Int),(z:Int)]) (ρ:=[vD ts,.tr (.dic kvs),.own F,vI (i:Int),.val (tN (TT.trn ts i)),vI (z:Int),X,k]) (N2 (A2 v3 (A2 v5 A5))) rfl;rw[hks i z B]at J;cases D:(E.any λe=>decide ((i,z)∈RS.orb (TT.trn ts) e)) with
   | true=>
    rw[D]at J;have e1:E'=E:=by rw[snoc];unfold RS.repF;rw[Ae D]
    rw[e1];exact O8 (b:=false) (C4 J) (λh=>by cases h) (λ_=>E2 ⟨kvs,vI (z:Int),X,k,⟨rfl,b6,b7⟩,hks,hkl,by rw[hF]⟩)
   | false=>
    rw[D]at J;have e1:E'=E++[(i,z)]:=by rw[snoc];unfold RS.repF;rw[Ac (by rw[D];decide)]
    rw[e1];refine O8 (b:=true) (C4 J) (λ_=>?_) (λh=>by cases h)
    have hrg:(RS.rng (TT.trn ts) (i,z)).length<=100:=by rw[RS.rng_len];exact R.plen (d:=(i,z)) B
    have hwl:(RS.wyR (RS.rng (TT.trn ts) (i,z))).length<=100:=by unfold RS.wyR;rw[Aa3,Bc];exact hrg
    refine A8 (C9 (d:=tN (RS.rng (TT.trn ts) (i,z))) (G1 (A2 v0 (A2 v3 (A2 v5 A5))) ⟨ts,i,z,R,B,rfl,rfl⟩) ?_);show W K _ [vD ts,.tr (.dic kvs),.own F,vI (i:Int),.val (tN (TT.trn ts i)),vI (z:Int),.val (tN (RS.rng (TT.trn ts) (i,z))),k] _;refine A8 (O4 (W5 (ds:=(RS.wyR (RS.rng (TT.trn ts) (i,z))).map λx=>pD (cI x)) (EF.e' (w9 (A2 v6 A5) ⟨_,by lia,rfl,rfl⟩))) (λl ρ=>∃k,k.nb=true/\ρ=[vD ts,.tr (.dic (bE7 kvs ((RS.wyR (RS.rng (TT.trn ts) (i,z))).take l))),.own F,vI (i:Int),.val (tN (TT.trn ts i)),vI (z:Int),.val (tN (RS.rng (TT.trn ts) (i,z))),k]) ⟨k,b7,rfl⟩ ?_ ?_)
    .rintro l d _ hd ⟨k,b7,rfl⟩;rw[Aa9]at hd;obtain⟨v,hv,rfl⟩:=Ba.mp hd;have hvl:=(Ab0.mp hv).1;refine⟨_,B9,?_⟩;have M:=bD7 ((RS.wyR (RS.rng (TT.trn ts) (i,z))).take l) kvs;rw[Ad1]at M;refine dD9 (ks:=[(v.1:Int),(v.2:Int)]) bT3 (i:=1) rfl (LV.E.imm (m:=false) v7) (by unfold sizeLine;lia) ⟨.val (pD (cI v)),rfl,?_⟩
     rw[Di,hv];unfold bE7;rw[List.foldl_append];rfl
    .rintro _ ⟨k,b7,rfl⟩;have M:=bD7 (RS.wyR (RS.rng (TT.trn ts) (i,z))) kvs;rw[Aa3,Cr];refine P9 (d:=tN (RS.rng (TT.trn ts) (i,z))) rfl v6 (by unfold sizeLine;lia) ⟨bE7 kvs (RS.wyR (RS.rng (TT.trn ts) (i,z))),vI (z:Int),.val (tN (RS.rng (TT.trn ts) (i,z))),k,⟨rfl,rfl,b7⟩,dT6 R.rot (d:=(i,z)) B hks,by rw[Ab7,List.length_singleton];lia,?_⟩ (by cases k <;> first | rfl | cases b7)
     rw[Ad2,Ad2,hF];rfl
  .rintro _ ⟨kvs,U,X,k,⟨b5,b6,b7⟩,hks,hkl,rfl⟩;rw[G5]at *;rw[bM3]at hks hkl;exact⟨kvs,_,_,U,X,k,⟨rfl,rfl,b5,b6,b7⟩,hks,hkl,by rw[bM3]⟩
 rintro _ ⟨kvs,x3,x4,U,X,k,_,_,_,rfl⟩;rw[aO0,Aa3];exact bZ3 rfl rfl
end
end K05
namespace L2
open PySem PySem.Spec PyProof.Rows
section
variable {prog:Program}{w:World}{A:Around}{E:Dy}{s:Shared}
set_option maxHeartbeats 3200000 in
theorem bF7 {l:Addr}{vs:AG}{ns:AD}{Q:Dy}
  (hh:A.handled=none) (hl:s.heap.IsTuple l vs.toArray) (hi:IntsAre vs ns) (N:ns.length+1<scanBound)
  (h:∀(h':Heap) (tk:Nat),h'.SetOf (intKind prog w) s.heap.objs.size (λk'=>(firstMet (λi=>ns.getD i 0) ns.length).any (· == k')) (firstMet (λi=>ns.getD i 0) ns.length).length ->
   (∀b o,b<s.heap.objs.size->s.heap.get? b=some o->h'.get? b=some o)->Q (.ref s.heap.objs.size) {s with heap:=h',toks:=tk}) :
  wpAny (model prog w) A (call (.type "set") [.ref l]) Q E s:=by
 obtain⟨c,tl,hmro⟩:=F.called_set.mro;have hmade:=F.called_set.made;have hsub:=F.called_set.sub;refine wpAny_call (codeAny_of_tree ?_);show wpAny _ _ (callAny (.type "set") _) _ _ _;refine Ab ⟨Code.quiet_builtin _ (by decide +kernel),codeAny_builtin F.entry_type_call ?_⟩
 rw[Around.under_plain (weight_type_call_type "set" [.ref l] []) rfl];have h1:=F.called_set.notType;have h2:=F.called_set.canCreate;have hct:=F.typeCall_set_1 (.ref l)
 repeat (any_goals (first | assumption | wp_step))
 refine codeAny_mono (bT2 (.ref l) (E:=E) (Q₁:=λobj s₁=>∃y:Bool,y = !(w.params.followText "set-order")/\obj=.ref s.heap.objs.size/\s₁={s with heap:=s.heap.push {cls:=.type "set",dict:=none,data:=.set #[] 0 (.fresh 0 0 y)}}) ⟨_,rfl,rfl,rfl⟩) λr s₁ hr=>?_
 cases r with
 | error e=>exact hr
 | ok fl=>
  cases fl with
  | ret obj=>
   obtain⟨y,hled,rfl,rfl⟩:=hr;have hS:(s.heap.push {cls:=.type "set",dict:=none,data:=.set #[] 0 (.fresh 0 0 y)}).get? s.heap.objs.size=some {cls:=.type "set",dict:=none,data:=.set #[] 0 (.fresh 0 0 y)}:=Ac3 _ rfl;have hT:Shared.TypeIs {s with heap:=s.heap.push {cls:=.type "set",dict:=none,data:=.set #[] 0 (.fresh 0 0 y)}} (.ref s.heap.objs.size) "set" := ⟨_,hS,rfl⟩
   have hli:=F.called_set.init.lookup
   have hbi:=F.called_set.init.bind (.ref s.heap.objs.size)
   repeat (any_goals (first | assumption | wp_step))
   refine codeAny_mono (codeAny_call_builtin (R:=wants (λr s₂=>r=.none/\∃h' tk,s₂={s with heap:=h',toks:=tk} /\
     h'.SetOf (intKind prog w) s.heap.objs.size (λk'=>(firstMet (λi=>ns.getD i 0) ns.length).any (· == k')) (firstMet (λi=>ns.getD i 0) ns.length).length /\
     (∀b o,b<s.heap.objs.size->s.heap.get? b=some o->h'.get? b=some o)) E) F.called_set.init.plain F.entry_set_init (check_set_init_1 hT ?_)) λr₂ s₂ j=>?_
   .obtain⟨ol,B,Y,nl,X⟩:=hl;obtain⟨ocls,m,odata,k⟩:=ol;simp only at Y X;subst Y;subst X;have P:(s.heap.push {cls:=.type "set",dict:=none,data:=.set #[] 0 (.fresh 0 0 y)}).get? l=some {cls:=.type "tuple",dict:=m,data:=.seq vs.toArray nl,slots:=k}:=Aa6 _ B;have hsls:=bF9;have hslf:=aG4;have hne:(Value.type "tuple" == Value.type "dict")=false:=by decide
    have J:(s.heap.push {cls:=.type "set",dict:=none,data:=.set #[] 0 (.fresh 0 0 y)}).IsTuple l vs.toArray:=⟨_,P,rfl,nl,rfl⟩
    unfold Builtin.«set.__init__» noKeywords Builtin.Frozenset.updateFrom;generalize hPI:pyIter=PI
    wp_walk
    subst hPI;refine wpAny_pyIter_tuple J ?_;refine Aa (wpAny_runValue ?_);have M:l<s.heap.objs.size:=Ab3 B;have hh3:A.in1.in1.in1.handled=none:=by simp[hh]
    have D:l≠(s.heap.push {cls:=.type "set",dict:=none,data:=.set #[] 0 (.fresh 0 0 y)}).objs.size:=by
     rw[By];exact Ab9 (Dh M)
    have hSf:s.heap.objs.size∉[(s.heap.push {cls:=.type "set",dict:=none,data:=.set #[] 0 (.fresh 0 0 y)}).objs.size,l]:=by
     rw[By];simp only[Aa1,Ad8,Ac2,or_false,not_or];exact⟨Ab9 (Nat.lt_succ_self _),Nat.ne_of_gt M⟩
    have hvn:vs.length=ns.length:=IntsAre.length hi
    have hsz:vs.toArray.size=ns.length:=by simp[hvn]
    have hval:∀(i:Nat) (v:Value),vs.toArray[i]? = some v->∃t,v=.int ((λi=>ns.getD i 0) i) t:=λi v hv=>
     PyProof.Rows.IntsAre.int_at hi i v (by simpa using hv)
    refine codeAny_set_update_loopS ((Walks.tuple hh3 _ l D vs.toArray).toS) s.heap.objs.size
     hSf (λi=>ns.getD i 0) hval (by rw[hsz];exact N) (vs.toArray.size-0) 0 _ (by lia) (Bv _)
     ⟨⟨_,Ac3 _ rfl,rfl,rfl⟩,(J.push _)⟩ ?hS0 ?hR
    case hS0=>
     have U:((s.heap.push {cls:=.type "set",dict:=none,data:=.set #[] 0 (.fresh 0 0 y)}).push {cls:=.type "tuple_iterator",data:=.fields #[.ref l,.int 0 0]}).get? s.heap.objs.size
       = some {cls:=.type "set",dict:=none,data:=.set #[] 0 (.fresh 0 0 y)}:=Aa6 _ hS
     exact SetOf_congr ((setObjOf_fresh (knd:=intKind prog w) y).setOf U (by unfold scanBound;lia)) (λ_=>rfl) rfl
    case hR=>
     intro s' hm z;obtain⟨h',g',d',tk',os'⟩:=s';have eg:g'=s.gens:=hm.gens;have ed:d'=s.drawn:=hm.drawn;have eo:os'=s.os:=hm.os;subst eg;subst ed;subst eo;show wpAny _ _ _ _ _ _;refine Ab ?_;show wpAny _ _ (ret Value.none) _ _ _;rw[hsz]at z;refine Ab ⟨rfl,h',tk',rfl,z,λb o hb e=>?_⟩
     have hb1:b≠s.heap.objs.size:=Ab9 hb
     have hb2:b≠(s.heap.push {cls:=.type "set",dict:=none,data:=.set #[] 0 (.fresh 0 0 y)}).objs.size:=by
      rw[By];exact Ab9 (Dh hb)
     exact hm.heap b o (by simp only[Aa1,Ad8,Ac2,or_false,not_or];exact⟨hb1,hb2⟩) (Aa6 _ (Aa6 _ e))
   .cases r₂ with
    | error e=>exact j
    | ok fl₂ =>
     cases fl₂ with
     | ret r=>
      obtain⟨rfl,h',tk,rfl,z,hk'⟩:=j
      repeat (any_goals (first | assumption | wp_step))
      exact h _ _ z hk'
     | _=>exact j.elim
  | _=>exact hr.elim
end
section
def cW4 (K:Frag):List V->Hp->VK->Prop:=λxs H Q=>∃(p:Addr) (l:AD),xs=[.ref p]/\SqT K H p (l.map V.int)/\l.length<500/\∀a,H a=none->Q (.ref a) (upd H a (.set (λk=>(firstMet (λi=>l.getD i 0) l.length).any (· == k)) (firstMet (λi=>l.getD i 0) l.length).length))
theorem cE1 (K:Frag)(z:X.calm=true)(h:X.K=K:=by rfl):R4 X (.type "set") (cW4 K):=by
 subst h;intro J s σ H xs R Q I r ⟨p,l,e,j,M,q⟩;subst e;obtain⟨u,rfl,U⟩:=S0 r;cases U;obtain⟨its,Y,m,_⟩:=I.tuple j;refine bF7 (ns:=l) (I.ok.hd z) m (LV.R7 Y) (by unfold PySem.scanBound;lia) λy N c k=>?_
 exact⟨.ref _,_,I.laid (λb o e=>k b o (Ab3 e) e) (Aa7 _) (show ObjOk X.prog X.w _ y _ (.set _ _) from c),rfl,q _ (I.hok.fresh (Aa7 _))⟩
end
end L2
namespace LV
open PySem PyProof.Rows L2
section
variable {K:Frag}{ρ:List Sl}{m:Bool}
theorem cP5 {t:TA}{l w:AD}(z:A K false t ρ [tI l])(k:l.length<500)(j:w.Nodup)(h:∀x,x∈w↔x∈l) :
  E K m (tCB (λxs H Q=>∃a S n,xs=[.ref a]/\H a=some (.set S n)/\Q (.int n) H) (J9 (tCB (cW4 K) t) W2)) ρ (.int w.length):=E.bor (E.imm (m:=false) λS B σ H o I Q q=>
 z S B σ H o I _ λvs Y c r=>by
  cases r with
  | cons a b=>
   cases b
   obtain⟨p,rfl,s⟩:=aW1 a;refine⟨p,l,rfl,s,k,λy e=>⟨y,_,_,rfl,B6,?_⟩⟩
   rw[cS3 j h];exact q _ _ (L2.Same.tr c (D4 e)) (.int _))
end
end LV
set_option maxHeartbeats 1000000
namespace K05
open PySem L2 LV PyProof.Rows
theorem sc_is_misplaced:C3 ["turns", "p", "strange"] ["turns", "p"] (B1 j6):={}
theorem bF6:C3 ["turns", "p"] ["turns", "p"] (B1 y7):={}
theorem aV6:C3 ["turns", "p"] ["turns", "p"] (B1 Y7):={}
theorem sc_is_apart:C3 ["turns", "p", "reached", "k", "q"] ["turns", "p"] (B1 aJ4):={}
theorem aN4:C3 ["turns", "p"] ["turns", "p"] (B1 W3):={}
theorem aS4 {l:AC}{d:PyData}(h:d∈nI l):∃q∈l,d=.int (q:Int):=by
 unfold nI at h;obtain⟨q,e,rfl⟩:=Aa8.mp h;exact⟨q,e,rfl⟩
theorem u8 (p:Nat)(l:AC):(nI l).any (λz=>PyData.eqv z (.int (p:Int)))=decide (p∈l):=by
 rw[eC3];refine Bo.mpr ⟨λh=>?_,λh=>Aa8.mpr ⟨p,h,rfl⟩⟩
 obtain⟨q,y,e⟩:=Aa8.mp h
 have:q=p:=by lia
 rw[<- this];exact y
def cL (l:AC):AD:=l.map λ(x:Nat)=>(x:Int)
theorem dF5 (l:AC):tN l=tI (cL l):=bK5 l
theorem dY3 (L:AA):L.map tN=(L.map cL).map tI:=by rw[Ae3];exact Av λl _=>dF5 l
theorem cU4 {a b:AC}(h:cL a=cL b):a=b:=by
 unfold cL at h
 have:=congrArg (List.map Int.toNat) h
 simpa[Ae3,Function.comp_def]using this
theorem bN5 (a b:AD):PyData.eqv (tI a) (tI b)=decide (a=b):=by
 unfold tI;rw[PyData.eqv];exact aA3 (f:=PyData.int) aX5 a b
theorem dF6 {x y:Nat×Nat}(h:cI x=cI y):x=y:=by
 have h1:=congrArg Prod.fst h
 have e:=congrArg Prod.snd h
 simp only[cI]at h1 e;exact Prod.ext (by lia) (by lia)
theorem cU7 (l:AC):Fit (tN l):=by rw[bK5];exact FitN.fit (bD6 _)
theorem cG0 (L:AA):M9 (L.map tN)=true:=aC8 cC2 L
theorem aD1 (l:AC):Fit (.list (nI l)):=(aY1 (n:=0) λd e=>by obtain⟨q,_,rfl⟩:=aS4 e;exact bD1 0 _).fit
def aJ0 (us:AB)(p:Nat):Bool:=decide ((us.getD p []).length=0)||(us.getD p []).any λq=>decide (q<0\/(us.length:Int)<=q\/q=(p:Int))
def fMi (n p:Nat):PyData->Option PyData
 | .int q=>if q<0\/(n:Int)<=q\/q=(p:Int) then some (.int q) else none
 | _=>none
theorem dM2 (n p:Nat)(l:AD):(l.map PyData.int).filterMap (fMi n p)=(l.filter λq=>decide (q<0\/(n:Int)<=q\/q=(p:Int))).map PyData.int:=by
 induction l with
 | nil=>rfl
 | cons q l e=>
  rw[Ac7,Ay,List.filter_cons];by_cases c:q<0\/(n:Int)<=q\/q=(p:Int)
  .rw[show fMi n p (.int q)=some (.int q) from Ae c,Ae (Bh c),Ac7];dsimp only;rw[e]
  .rw[show fMi n p (.int q)=none from Ac c,Ac (by rw[Aj c];decide)];dsimp only;rw[e]
theorem dJ8 {α:Type}(f:α->Bool)(l:List α):decide (((l.filter f).length:Int)>0)=l.any f:=by
 rw[Cv,decide_eq_true_iff,List.any_eq_true];constructor
 .intro h
  have:0<(l.filter f).length:=by lia
  obtain⟨x,e⟩:=List.exists_mem_of_length_pos this;exact⟨x,(Cu.mp e).1,(Cu.mp e).2⟩
 .rintro⟨x,e,hf⟩
  have:=Cq (Cu.mpr ⟨e,hf⟩)
  lia
theorem eK8 {us:AB}{p:Nat}(h:p<us.length):atI (us.map tI) (p:Int)=some (tI (us.getD p [])):=S1 p rfl (by rw[Aa9,Ac0,Aa2 h];rfl)
def dS5 (ds:AF)(d:PyData):Prop:=∃(us:AB) (p:Nat),p<us.length/\(∀u∈us,u.length<=150)/\ds=[.tuple (us.map tI),.int (p:Int)]/\d=.bool (aJ0 us p)
structure Pls (ts:AA):Prop where
 lo:3<=ts.length
 hi:ts.length<=10
 ln:∀p,(TT.trn ts p).length<=150
 ne:∀p,p<ts.length->TT.trn ts p≠[]
 lt:∀p,∀q∈TT.trn ts p,q<ts.length/\q≠p
def aS5 (ts:AA)(p:Nat):Bool:=decide (¬(TT.trn ts p).Nodup)
def dR5 (ds:AF)(d:PyData):Prop:=∃(ts:AA) (p:Nat),Pls ts/\p<ts.length/\ds=[tD ts,.int (p:Int)]/\d=.bool (aS5 ts p)
theorem cH0 {l w:AC}(z:w.Nodup)(h:∀x,x∈w↔x∈l):w.length<=l.length/\(w.length=l.length↔l.Nodup):=by
 have h1:=TT.W6 z λx y=>(h x).mp y
 refine⟨h1,λe=>?_,λnd=>?_⟩
 .apply Classical.byContradiction
  intro c;obtain⟨m,s,X⟩:∃m:AC,(∀x∈l,x∈m)/\m.length<l.length:=by
   clear h h1 z e
   induction l with
   | nil=>exact absurd List.nodup_nil c
   | cons a l Y=>
    by_cases k:a∈l
    .exact⟨l,λx y=>(Aa1.mp y).elim (λe=>by rw[e];exact k) id,by simp⟩
    .obtain⟨m,h1,j⟩:=Y λnd=>c (Aa5.mpr ⟨k,nd⟩)
     exact⟨a::m,λx y=>(Aa1.mp y).elim (λe=>by rw[e];simp) (λy=>by simp[h1 x y]),by simpa using j⟩
  have:=TT.W6 z (m:=m) λx y=>s x ((h x).mp y)
  lia
 .have:=TT.W6 nd λx y=>(h x).mpr y
  lia
theorem dT4 {w:AC}(h:w.Nodup):(cL w).Nodup:=by
 unfold cL;rw[Ac6,Ae0];exact(Ac6.mp h).imp λh e=>h (by lia)
theorem bN3 {w:AC}{x:Int}:x∈cL w↔∃y∈w,(y:Int)=x:=by unfold cL;rw[Aa8]
theorem bB9 (w:AC):(cL w).length=w.length:=by unfold cL;simp
theorem bY7 (l:AC):∃w:AC,w.Nodup/\∀x,x∈w↔x∈l:=by
 induction l with
 | nil=>exact⟨[],List.nodup_nil,λ_=>Iff.rfl⟩
 | cons a l j=>
  obtain⟨w,h1,y⟩:=j;by_cases k:a∈w
  .exact⟨w,h1,λx=>by rw[Aa1,y];exact⟨.inr,λz=>z.elim (λe=>by rw[e];exact(y a).mp k) id⟩⟩
  .exact⟨a::w,Aa5.mpr ⟨k,h1⟩,λx=>by rw[Aa1,Aa1,y]⟩
structure Pln (ts:AA):Prop extends Pls ts where
 nd:∀p,(TT.trn ts p).Nodup
def aT0 (ts:AA)(p:Nat):Bool:=(TT.trn ts p).any λq=>decide (p∉TT.trn ts q)
def dR7 (ds:AF)(d:PyData):Prop:=∃(ts:AA) (p:Nat),Pln ts/\p<ts.length/\ds=[tD ts,.int (p:Int)]/\d=.bool (aT0 ts p)
theorem Pln.rt {ts:AA}(h:Pln ts)(w:∀p,p<ts.length->aT0 ts p=false):Rt ts:=by
 have e:∀p,ts.length<=p->TT.trn ts p=[]:=λp hp=>by unfold TT.trn;rw[Ad6 hp];rfl
 refine⟨h.lo,h.hi,e,h.lt,h.nd,λp q y=>?_⟩
 have hp:p<ts.length:=by
  rcases Bq p ts.length with c | c
  .exact c
  .rw[e p c]at y;cases y
 apply Classical.byContradiction
 intro c
 have:=w p hp
 unfold aT0 at this;rw[List.any_eq_false]at this;exact this q y (Bh c)
noncomputable def apB (ts:AA)(p:Nat):Bool := @decide (¬RS.Rch (TT.trn ts) p) (Classical.propDecidable _)
def dR2 (ds:AF)(d:PyData):Prop:=∃(ts:AA) (p:Nat),Rt ts/\p<ts.length/\ds=[tD ts,.int (p:Int)]/\d=.bool (apB ts p)
def dP6 (ds:AF)(d:PyData):Prop:=∃(ts:AA) (p:Nat),Rt ts/\p<ts.length/\ds=[tD ts,.int (p:Int)]/\d=.bool (RS.oddB (TT.trn ts) ts.length p)
theorem Mt.len {ts:AA}{L:AC}(h:RS.Mt (TT.trn ts) ts.length L):L.length<=ts.length:=by
 have:=TT.W6 h.nd (m:=List.range ts.length) λx e=>Ab5.mpr (h.lt x e)
 rwa [Bc]at this
def fOd (p:Nat):PyData->Option PyData
 | .tuple l=>if l.length≠3 then some (.bool (l.any λz=>PyData.eqv z (.int (p:Int)))) else none
 | _=>none
theorem cA1 (p:Nat)(l:AC):fOd p (tN l)=if l.length≠3 then some (.bool (decide (p∈l))) else none:=by
 show(if(nI l).length≠3 then some (PyData.bool ((nI l).any λz=>PyData.eqv z (.int (p:Int)))) else none)=_
 rw[K1,u8]
theorem dO1 (p:Nat)(L:AA):(L.map tN).filterMap (fOd p)=((L.filter λl=>decide (l.length≠3)).map λl=>decide (p∈l)).map PyData.bool:=by
 induction L with
 | nil=>rfl
 | cons l L e=>
  rw[Ac7,Ay,cA1,List.filter_cons];by_cases c:l.length=3
  .rw[Ac (by simpa using c),Ac (by simpa using c)];dsimp only;rw[e]
  .rw[Ae c,Ae (by simpa using c)];dsimp only;rw[e];rfl
section
variable {P:Program}{w:World}{K:Frag}{mg:Str->Option Value}{base:Heap}{a:Ad}
theorem eI7 (T:Tx K mg a):J0 P w K mg base CX0 1 a.Q6 a.aB7 ["turns", "p"] (spV K dS5):=by
 refine T.Z5.F.ok sc_is_misplaced (W7 (by rintro ds d ⟨_,_,_,_,rfl,_⟩;rfl)) (λM A outer s H vs Q E hr h=>?_)
 obtain⟨ds,S,d,B,r,⟨e,p,hp,J,rfl,rfl⟩,q⟩:=h;refine⟨_,(A3 (aY4 (i:=2) sc_is_misplaced.nd rfl rfl (T:=["q"]) (N':=["q", "turns", "p"]) (is:=[0,1]) rfl (.of rfl rfl rfl (by exact⟨rfl,rfl,trivial⟩) rfl rfl rfl (by exact⟨⟨_,rfl,by first | exact .inl rfl | exact .inr rfl,by first | exact .inl rfl | exact .inr rfl⟩,⟨_,rfl,by first | exact .inl rfl | exact .inr rfl,by first | exact .inl rfl | exact .inr rfl⟩,trivial⟩)) (m9 (B8 (ixK K) (pv 0) (pv 1) (λ_ _=>rfl))) (K2 (by decide)) λ_ _ _ _=>⟨(F1 (i:=0) (by decide +kernel:(["q", "turns", "p"]:AH).Nodup) rfl (Or.inl rfl)),(bY5 (PW.pt (aT6 (C1 bD3 (pv 0) A4 (C6 _)) (aT6 (C1 eJ9 (pv 0) (B5 (u7 K) (by rfl) T.M4 Am (A0 (pv 1) A1)) (C6 _)) (aI5 (C1 a8 (pv 0) (pv 2) (C6 _))))))),(pv 0)⟩)
   (A6 (B7 (dD0 (R9 a8 (B5 (u7 K) (by rfl) T.M4 Am (A0 (B8 (ixK K) (pv 0) (pv 1) (λ_ _=>rfl)) A1)) A4 (C6 _)) (aJ2 (R9 aH0 (B5 (u7 K) (by rfl) T.M4 Am (A0 (pv 2) A1)) A4 (C6 _))))))),L6 B r ?_ q⟩
 have k:∀{ρ:List Sl},ρ[0]? = some (.val (.tuple (e.map tI)))->ρ[1]? = some (.val (.int (p:Int)))->LV.E K true (tOp (rIx K) (F0 0) (F0 1)) ρ (tI (e.getD p [])):=λD h1=>G0 (ds:=e.map tI) (B0 (i:=0) D) (B0 (i:=1) h1) rfl (eK8 hp)
 have tl:(e.getD p []).length<=150:=by rw[Ac0,Aa2 hp];exact J _ (Cs hp)
 unfold aJ0;generalize e.getD p []=l at k tl ⊢;refine A8 (K6 (ds:=(l.filter λq=>decide (q<0\/(e.length:Int)<=q\/q=(p:Int))).map PyData.int) (EF.to (G8 (m:=true) (fMi e.length p) (aH9 (ds:=l.map PyData.int) (k rfl rfl)) (by rw[Aa3];unfold sizeLine;lia) λd hd=>?_) (dM2 _ _ l)) ?_ (show 2<3 by decide))
 .obtain⟨z,hq,rfl⟩:=Aa8.mp hd;refine⟨_,B9,?_⟩;have U:=aD3 (K:=K) (m:=false) (ρ:=[vI z,.val (.tuple (e.map tI)),vI (p:Int)]) (g:=λi j=>decide (i<j)) v0 (A7 (i:=0))
  have Y:=aD3 (K:=K) (m:=false) (ρ:=[vI z,.val (.tuple (e.map tI)),vI (p:Int)]) (g:=λi j=>decide (i≥j)) v0 (P5 (ds:=e.map tI) (A2 v1 A5))
  have N:=Y6 (K:=K) (m:=false) (ρ:=[vI z,.val (.tuple (e.map tI)),vI (p:Int)]) v0 v2
  rw[Aa3]at Y;have X:=bQ5 (C4 U) λ_=>bQ5 (C4 Y) λ_=>C4 N
  have R:(decide (z<0)||(decide (z≥(e.length:Int))||decide (z=(p:Int))))=decide (z<0\/(e.length:Int)<=z\/z=(p:Int)):=by rw[<- Bool.decide_or,<- Bool.decide_or]
  rw[R]at X;show match fMi e.length p (.int z) with | none=>_ | some y=>_
  by_cases c:z<0\/(e.length:Int)<=z\/z=(p:Int)
  .rw[show fMi e.length p (.int z)=some (.int z) from Ae c]
   rw[Bh c]at X;exact⟨X,B0 (i:=0) rfl⟩
  .rw[show fMi e.length p (.int z)=none from Ac c]
   rw[Aj c]at X;exact X
 .have U:=Y6 (K:=K) (m:=false) (ρ:=[.val (.tuple (e.map tI)),vI (p:Int),.own ((l.filter λq=>decide (q<0\/(e.length:Int)<=q\/q=(p:Int))).map PyData.int)]) (P5 (ds:=l.map PyData.int) (A2 (k rfl rfl).bor A5)) (A7 (i:=0))
  have Y:=aD3 (K:=K) (m:=false) (ρ:=[.val (.tuple (e.map tI)),vI (p:Int),.own ((l.filter λq=>decide (q<0\/(e.length:Int)<=q\/q=(p:Int))).map PyData.int)]) (g:=λi j=>decide (i>j)) (P5 (ds:=(l.filter λq=>decide (q<0\/(e.length:Int)<=q\/q=(p:Int))).map PyData.int) (A2 (J8 (i:=2) rfl) A5)) (A7 (i:=0))
  rw[Aa3]at U Y;rw[dJ8]at Y;refine E1 (dI6 U λ_=>Y) ?_
  congr 2
  exact Bo.mpr (by lia)
theorem eE1 (T:Tx K mg a):J0 P w K mg base CX0 1 a.V5 a.aP8 ["turns", "p"] (spV K dR5):=by
 refine T.u6.F.ok bF6 (W7 (by rintro ds d ⟨_,_,_,_,rfl,_⟩;rfl)) (λm A outer s H vs Q E U h=>?_)
 obtain⟨ds,S,d,Y,r,⟨ts,p,L,hp,rfl,rfl⟩,q⟩:=h;refine⟨_,(A6 (B7 (R9 bD3 (B5 aH4 (by rfl) T.M4 Am (A0 (L7 (cE1 K rfl) (by rfl) T.cL3 boot_set (A0 (B8 (ixK K) (pv 0) (pv 1) (λ_ _=>rfl)) A1)) A1)) (B5 (u7 K) (by rfl) T.M4 Am (A0 (B8 (ixK K) (pv 0) (pv 1) (λ_ _=>rfl)) A1)) (C6 _)))),L6 Y r ?_ q⟩
 have e:LV.E K true (tOp (rIx K) (F0 0) (F0 1)) [vD ts,vI (p:Int)] (tN (TT.trn ts p)):=G0 (ds:=ts.map tN) v0 v1 rfl (Rt.at_ hp)
 have M:=L.ln p
 obtain⟨w,c,k⟩:=bY7 (TT.trn ts p);obtain⟨J,X⟩:=cH0 c k;refine E1 (aD3 (g:=λi j=>decide (i<j)) (cP5 (l:=cL (TT.trn ts p)) (w:=cL w) (A2 (by rw[<- dF5];exact e.bor) A5) (by rw[bB9];lia) (dT4 c) λx=>by rw[bN3,bN3];exact⟨λ⟨y,h1,z⟩=>⟨y,(k y).mp h1,z⟩,λ⟨y,h1,z⟩=>⟨y,(k y).mpr h1,z⟩⟩) (P5 (ds:=nI (TT.trn ts p)) (A2 e.bor A5))) ?_
 unfold aS5;rw[bB9,K1]
 congr 1
 refine Bo.mpr ?_;rw[<- X]
 lia
theorem eC6 (T:Tx K mg a):J0 P w K mg base CX0 1 a.Q8 a.aE3 ["turns", "p"] (spV K dR7):=by
 refine T.i7.F.ok aV6 (W7 (by rintro ds d ⟨_,_,_,_,rfl,_⟩;rfl)) (λk A outer s H vs Q E X h=>?_)
 obtain⟨ds,S,d,j,r,⟨ts,p,L,hp,rfl,rfl⟩,q⟩:=h;refine⟨_,(A6 (B7 (B5 (aR3 K rfl) (by rfl) T.bX0 boot_any (A0 (L9 (T:=["q"]) (N':=["q", "p", "turns"]) (is:=[1,0]) rfl (.of rfl rfl rfl (by exact⟨rfl,rfl,trivial⟩) rfl rfl rfl (by exact⟨⟨_,rfl,by first | exact .inl rfl | exact .inr rfl,by first | exact .inl rfl | exact .inr rfl⟩,⟨_,rfl,by first | exact .inl rfl | exact .inr rfl,by first | exact .inl rfl | exact .inr rfl⟩,trivial⟩)) (m9 (B8 (ixK K) (pv 0) (pv 1) (λ_ _=>rfl))) (K2 (by decide)) λ_ _ _ _=>⟨(F1 (i:=0) (by decide +kernel:(["q", "p", "turns"]:AH).Nodup) rfl (Or.inl rfl)),G4,(R9 (Y5 K X) (pv 1) (B8 (ixK K) (pv 2) (pv 0) (λ_ _=>rfl)) rfl)⟩) A1)))),L6 j r ?_ q⟩
 have y:LV.E K true (tOp (rIx K) (F0 0) (F0 1)) [vD ts,vI (p:Int)] (tN (TT.trn ts p)):=G0 (ds:=ts.map tN) v0 v1 rfl (Rt.at_ hp)
 have J:=L.ln p
 refine E1 (cY6 (l:=(TT.trn ts p).map λq=>decide (p∉TT.trn ts q)) (A2 (EF.e' (EF.to (G8 (m:=true) (λd=>match d with | .int q=>some (.bool (decide (p∉TT.trn ts q.toNat))) | _=>none) (aH9 (ds:=nI (TT.trn ts p)) y) (by rw[K1];unfold sizeLine;lia) λd c=>?_) ?_)) A5)) ?_
 .obtain⟨z,Y,rfl⟩:=aS4 c;have U:=(L.lt p z Y).1;refine⟨_,B9,U3,?_⟩;have e:=p7 (K:=K) (m:=true) (ρ:=[vI (z:Int),vI (p:Int),vD ts]) (ds:=nI (TT.trn ts z)) (d:=.int (p:Int)) v1 (G0 (ds:=ts.map tN) v2 v0 rfl (Rt.at_ U)) rfl (Y1 _) (cU7 _);rw[u8,<- decide_not]at e;exact e
 .unfold nI;rw[Ar,Ae3,<- List.filterMap_eq_map];rfl
 .unfold aT0;rw[List.any_map];rfl
theorem eF1 (T:Tx K mg a):J0 P w K mg base CX0 1 a.i3 a.bB6 ["turns", "p"] (spV K dR2):=by
 refine T.aK6.F.ok sc_is_apart (W7 (by rintro ds d ⟨_,_,_,_,rfl,_⟩;rfl)) (λcdv A outer s H vs Q E hr h=>?_)
 obtain⟨ds,S,d,hS,r,⟨Y,p,dw,hp,rfl,rfl⟩,q⟩:=h;refine⟨_,(A3 (psS 2 sc_is_apart (D5 (A0 A4 A1)))
   (A3 (psS 3 sc_is_apart A4)
   (A3 (aD5 Ai (C1 bD3 (pv 3) (B5 (u7 K) (by rfl) T.M4 Am (A0 (pv 2) A1)) (C6 _)) (A3 (G6 Ai rfl (m9 (B8 (ixK K) (pv 0) (B8 (ixK K) (pv 2) (pv 3) (λ_ _=>rfl)) (λ_ _=>rfl))) (pgN 4 sc_is_apart) (A6 (G9 (C1 (Y5 K hr) (pv 4) (pv 2) rfl) (A6 (G7 (N3 Ab1 Ah Ag E6 (pv 2) (A0 (pv 4) A1)))) C5)))
   (A6 (dW1 (i:=3) sc_is_apart.nd rfl (Or.inl rfl) A4 dW8))))
   (A6 (B7 (R9 (Y5 K hr) (pv 1) (pv 2) rfl)))))),L6 hS r ?_ q⟩
 have m10:=dw.hi
 refine A8 (K6 (ds:=nI [0]) (K5 (A2 A7 A5)) ?_ (show 2<5 by decide))
 refine A8 (C9 (d:=.int 0) A7 ?_);refine A8 (aQ5 (λv ρ=>∃(L:AC) (k:Nat) (x4:Sl),v+k=20/\k<=L.length/\x4.nb=true/\RS.Mt (TT.trn Y) Y.length L/\(∀c∈L.take k,∀q∈TT.trn Y c,q∈L)/\ρ=[vD Y,vI (p:Int),.own (nI L),vI (k:Int),x4]) ⟨20,[0],0,.no,rfl,by simp,rfl,RS.Mt.one (by lia),by simp,rfl⟩ ?_)
 .rintro v ρ' ⟨L,k,x4,hv,hk,b4,mt,hc,rfl⟩;have hL:=Mt.len mt;refine⟨decide ((k:Int)<((nI L).length:Int)),C4 (aD3 (g:=λi j=>decide (i<j)) v3 (P5 (ds:=nI L) (A2 (J8 (i:=2) rfl) A5))),?_⟩
  rw[K1];by_cases R:k<L.length
  .rw[Bh (by lia),Ae rfl]
   have hcm:L[k]∈L:=Cs R
   have B:=mt.lt _ hcm
   have tl:=dw.tle L[k]
   refine A8 (O4 (aH9 (ds:=nI (TT.trn Y L[k])) (G0 (ds:=Y.map tN) v0 (LV.E.imm (m:=false) (G0 (ds:=nI L) (d':=.int (L[k]:Nat)) (J8 (i:=2) rfl) v3 rfl (S1 k rfl (by unfold nI;rw[Aa9,Aa2 R];rfl)))).bor rfl (Rt.at_ B))) (λi ρ=>∃(M:AC) (x4:Sl),x4.nb=true/\RS.Mt (TT.trn Y) Y.length M/\L <+: M/\(∀q∈(TT.trn Y L[k]).take i,q∈M)/\ρ=[vD Y,vI (p:Int),.own (nI M),vI (k:Int),x4]) ⟨L,x4,b4,mt,List.prefix_refl _,by simp,rfl⟩ ?_ ?_)
   .rintro i d _ hd ⟨M,y4,c4,mM,hpre,hin,rfl⟩;obtain⟨rfl,hi,J⟩:d=.int (((TT.trn Y L[k]).getD i 0:Nat):Int)/\i<(TT.trn Y L[k]).length/\(TT.trn Y L[k])[i]? = some ((TT.trn Y L[k]).getD i 0):=by
     unfold nI at hd;rw[Aa9]at hd;obtain⟨x,hx,rfl⟩:=Ba.mp hd;have e:(TT.trn Y L[k]).getD i 0=x:=by rw[Ac0,hx];rfl
     rw[e];exact⟨rfl,(Ab0.mp hx).1,hx⟩
    generalize hg:(TT.trn Y L[k]).getD i 0=g at J;have hgm:g∈TT.trn Y L[k]:=Bf J;have hgl:=(dw.rot.lt _ _ hgm).1;have hML:=Mt.len mM;have tk:(TT.trn Y L[k]).take (i+1)=(TT.trn Y L[k]).take i++[g]:=by rw[Di,J];rfl
    refine⟨_,B9,?_⟩;show W K _ [vD Y,vI (p:Int),.own (nI M),vI (k:Int),vI (g:Int)] _;have e:=p7 (K:=K) (m:=false) (ρ:=[vD Y,vI (p:Int),.own (nI M),vI (k:Int),vI (g:Int)]) (ds:=nI M) (d:=.int (g:Int)) v4 (J8 (i:=2) rfl) rfl (Y1 _) (aD1 _);rw[u8]at e;refine O8 (C4 e) (λh=>?_) (λh=>E2 ?_)
    .have hgn:g∉M:=by simpa using h
     refine P9 (i:=2) (d:=.int (g:Int)) rfl v4 (by rw[K1];unfold sizeLine;lia) ⟨M++[g],vI (g:Int),rfl,⟨by simp[mM.zero],?_,?_,?_⟩,hpre.trans (List.prefix_append _ _),?_,?_⟩
     .exact Aa4.mpr ⟨mM.nd,by simp,λa ha b hb e=>by rw[Ad8.mp hb]at e;rw[e]at ha;exact hgn ha⟩
     .intro q X;rcases Aa0.mp X with z | z
      .exact mM.lt q z
      .rw[Ad8.mp z];exact hgl
     .intro q X;rcases Aa0.mp X with z | z
      .exact mM.rch q z
      .rw[Ad8.mp z];exact .step (mt.rch _ hcm) hgm
     .intro q X;rw[tk]at X;rcases Aa0.mp X with z | z
      .exact Cf _ (hin q z)
      .exact Ac1 _ z
     .unfold nI;rw[Ad2];rfl
    .have hgi:g∈M:=by simpa using h
     refine⟨M,vI (g:Int),rfl,mM,hpre,?_,rfl⟩;intro q X;rw[tk]at X;rcases Aa0.mp X with z | z
     .exact hin q z
     .rw[Ad8.mp z];exact hgi
   .rintro _ ⟨M,y4,c4,mM,hpre,hin,rfl⟩;have hML:=Mt.len mM;have hl2:=hpre.length_le;rw[K1,Cr]at hin;refine dX5 (x:=(k:Int)) (y:=1) rfl A7 ⟨v-1,by lia,M,k+1,y4,by lia,by lia,c4,mM,?_,by simp⟩
    intro c D q X;obtain⟨N,rfl⟩:=hpre;rw[Dl (show k+1<=L.length by lia),Di,Aa2 R]at D
    rcases Aa0.mp D with z | z
    .exact Cf _ (hc c z q X)
    .have z:c=L[k]:=by simpa using z
     rw[z]at X;exact hin q X
  .rw[Aj (by lia),Ac (by simp)]
   have hkL:k=L.length:=by lia
   rw[hkL,Cr]at hc;have e:=p7 (K:=K) (m:=true) (ρ:=[vD Y,vI (p:Int),.own (nI L),vI (k:Int),x4]) (ds:=nI L) (d:=.int (p:Int)) v1 (J8 (i:=2) rfl) rfl (Y1 _) (aD1 _);rw[u8]at e;refine E1 e ?_;unfold apB
   congr 1
   by_cases U:p∈L
   .rw[Bh U];exact(@decide_eq_false _ (Classical.propDecidable _) λz=>z (mt.rch p U)).symm
   .rw[Aj U];exact(@decide_eq_true _ (Classical.propDecidable _) λz=>U (z.of_closed mt.zero hc)).symm
theorem eI8 (T:Tx K mg a):J0 P w K mg base CX0 4 a.P0 a.p9 ["turns", "p"] (spV K dP6):=by
 have e := @dP5 P w K mg base a T
 refine T.W4.F.ok aN4 (W7 (by rintro ds d ⟨_,_,_,_,rfl,_⟩;rfl)) (λJ A outer s H vs Q E U h=>?_)
 obtain⟨ds,S,d,N,r,⟨ts,p,R,hp,rfl,rfl⟩,q⟩:=h;refine⟨_,(A6 (B7 (B5 (aR3 K rfl) (by rfl) T.bX0 boot_any (A0 (L9 (T:=["corners"]) (N':=["corners", "p"]) (is:=[1]) rfl (.of rfl rfl rfl (by exact⟨rfl,trivial⟩) rfl rfl rfl (by exact⟨⟨_,rfl,by first | exact .inl rfl | exact .inr rfl,by first | exact .inl rfl | exact .inr rfl⟩,trivial⟩)) (T3 (pcl e U T.u9 (A0 (pv 0) A1))) (K2 (by decide)) λ_ _ _ _=>⟨(F1 (i:=0) (by decide +kernel:(["corners", "p"]:AH).Nodup) rfl (Or.inl rfl)),(bY5 (C1 bI1 (B5 (u7 K) (by rfl) T.M4 Am (A0 (pv 0) A1)) A4 (C6 _))),(R9 (bQ7 K U) (pv 1) (pv 0) rfl)⟩) A1)))),L6 N r ?_ q⟩
 have k:=bC4 (TT.trn ts) (TT.gps (TT.trn ts) ts.length) []
 have gl:=R.glen
 have k:(RS.reps (TT.trn ts) (TT.gps (TT.trn ts) ts.length)).length<=100:=by unfold RS.reps;simp at k;lia
 unfold RS.oddB;generalize M:RS.reps (TT.trn ts) (TT.gps (TT.trn ts) ts.length)=E at k ⊢;generalize j:E.map (RS.rng (TT.trn ts))=L;have B:L.length<=100:=by rw[<- j,Aa3];exact k
 refine E1 (cY6 (l:=(L.filter λl=>decide (l.length≠3)).map λl=>decide (p∈l)) (A2 (EF.e' (EF.to (G8 (m:=true) (fOd p) (W5 (ds:=L.map tN) (EF.e' (w9 (pre:=dB2) (X:=E0) (A2 v0 A5) ⟨ts,R,rfl,by rw[<- j,<- M]⟩))) (by rw[Aa3];unfold sizeLine;lia) λd D=>?_) (dO1 p L))) A5)) ?_
 .obtain⟨l,_,rfl⟩:=Aa8.mp D;refine⟨_,B9,?_⟩;have z:=bH0 (K:=K) (m:=false) (ρ:=[.val (tN l),vI (p:Int)]) (P5 (ds:=nI l) (A2 v0 A5)) (A7 (i:=3));have Y:=cM1 (K:=K) (m:=true) (ρ:=[.val (tN l),vI (p:Int)]) (ds:=nI l) (d:=.int (p:Int)) v1 v0 rfl (Y1 _) (cU7 _);rw[K1]at z;rw[u8]at Y;show match fOd p (tN l) with | none=>_ | some y=>_
  by_cases c:l.length=3
  .rw[show fOd p (tN l)=none from by rw[cA1];exact Ac (by simpa using c)]
   rw[show(!decide ((l.length:Int)=3))=false from by simp;lia]at z
   exact C4 z
  .rw[show fOd p (tN l)=some (.bool (decide (p∈l))) from by rw[cA1];exact Ae c]
   rw[show(!decide ((l.length:Int)=3))=true from by simp;lia]at z
   exact⟨C4 z,Y⟩
 .congr 1
  rw[List.any_map,List.any_filter,<- j,List.any_map];rfl
end
set_option maxHeartbeats 1000000
theorem O6:C3 ["turns", "n", "word", "is_faulty", "p", "found"] ["turns"] (B1 n6):={}
theorem aK4:C3 ["turns", "copied", "fault"] ["turns"] (B1 aR4):={}
theorem eB2 (l:AD)(L:AB):(L.map tI).any (λz=>PyData.eqv z (tI l))=decide (l∈L):=by
 rw[List.any_map,Cv,List.any_eq_true,Df];constructor
 .rintro⟨x,hx,h⟩;simp only[Function.comp,bN5,Df]at h;rw[<- h];exact hx
 .intro h;exact⟨l,h,by simp[Function.comp,bN5]⟩
theorem dH9 (L:AB):Fit (.list (L.map tI)):=(aY1 (n:=1) λd e=>by obtain⟨x,_,rfl⟩:=Aa8.mp e;exact bD6 _).fit
theorem cZ2:C3 ["drawing"] ["drawing"] (B1 bO6):={}
def tsN (us:AB):AA:=us.map λu=>u.map Int.toNat
noncomputable def fb (us:AB):Nat->Nat->Bool
 | 0=>aJ0 us
 | 1=>aS5 (tsN us)
 | 2=>aT0 (tsN us)
 | 3=>apB (tsN us)
 | _=>RS.oddB (TT.trn (tsN us)) us.length
def wdi:Nat->Str
 | 0 => "place"
 | 1 => "twice"
 | 2 => "back"
 | 3 => "apart"
 | _ => "land"
noncomputable def rgs (us:AB):AA:=(RS.reps (TT.trn (tsN us)) (TT.gps (TT.trn (tsN us)) us.length)).map (RS.rng (TT.trn (tsN us)))
noncomputable def ftG (us:AB)(b:Nat):Nat->Option (Str×Nat)
 | 0=>none
 | k+1=>match (List.range us.length).find? (fb us (b-k)) with
  | some p=>some (wdi (b-k),p)
  | none=>ftG us b k
noncomputable def ft (us:AB):Option (Str×Nat):=
 if us.length<3\/10<us.length then some ("count",us.length)
 else match ftG us 4 5 with
 | some x=>some x
 | none=>if(rgs us).length+4≠2*us.length then some ("flat",(rgs us).length) else if [0,2,1]∈rgs us then none else some ("outer",0)
theorem bC1 {f:Nat->Bool}{n p:Nat}(hp:p<n)(w:f p=true)(e:∀q,q<p->f q=false):(List.range n).find? f=some p:=by
 rw[List.find?_eq_some_iff_append];refine⟨w,List.range p,(List.range (n-(p+1))).map λi=>p+1+i,?_,λq y=>by rw[e q (Ab5.mp y)];rfl⟩
 refine List.ext_getElem? λi=>?_
 rcases Nat.lt_trichotomy i p with c | c | c
 .rw[List.getElem?_range (by lia),Bp (by simpa using c),List.getElem?_range c]
 .subst c;rw[List.getElem?_range hp,Bi (by simp)];simp
 .rw[Bi (by simp;lia),Bc,show i-p=(i-p-1)+1 by lia,List.getElem?_cons_succ,Aa9]
  by_cases d:i<n
  .rw[List.getElem?_range d,List.getElem?_range (by lia)]
   show some i=some (p+1+(i-p-1))
   congr 1
   lia
  .rw[Ad6 (by simp;lia),Ad6 (by simp;lia)];rfl
theorem bO1 {f:Nat->Bool}{n:Nat}(h:∀p,p<n->f p=false):(List.range n).find? f=none:=by
 rw[List.find?_eq_none];intro x e;rw[h x (Ab5.mp e)];decide
theorem aN0 (us:AB){b i p:Nat}(hi:i<=b)(e:∀j,j<i->∀q,q<us.length->fb us j q=false)(hp:p<us.length)(w:fb us i p=true)(y:∀q,q<p->fb us i q=false) :
  ∀k,b+1-k<=i->k<=b+1->ftG us b k=some (wdi i,p)
 | 0,h,_=>by lia
 | k+1,h,h5=>by
  show(match (List.range us.length).find? (fb us (b-k)) with | some p=>some (wdi (b-k),p) | none=>ftG us b k)=_
  by_cases c:b-k=i
  .rw[c,bC1 hp w y]
  .rw[bO1 (e (b-k) (by lia))]
   exact aN0 us hi e hp w y k (by lia) (by lia)
theorem cD3 (us:AB){b:Nat}(e:∀j,j<b+1->∀q,q<us.length->fb us j q=false):∀k,k<=b+1->ftG us b k=none
 | 0,_=>rfl
 | k+1,h=>by
  show(match (List.range us.length).find? (fb us (b-k)) with | some p=>some (wdi (b-k),p) | none=>ftG us b k)=_
  rw[bO1 (e (b-k) (by lia))]
  exact cD3 us e k (by lia)
noncomputable def pf (us:AB):Option (Str×Nat):=if us.length<3\/10<us.length then some ("count",us.length) else ftG us 3 4
theorem dQ4 (us:AB):ft us=match pf us with
  | some x=>some x
  | none=>match (List.range us.length).find? (fb us 4) with
   | some p=>some ("land",p)
   | none=>if(rgs us).length+4≠2*us.length then some ("flat",(rgs us).length) else if [0,2,1]∈rgs us then none else some ("outer",0):=by
 unfold ft pf;split
 .rfl
 have e:ftG us 4 5=match ftG us 3 4 with | some x=>some x | none=>(match (List.range us.length).find? (fb us 4) with | some p=>some (("land" : Str),p) | none=>none):=by
  show(match (List.range us.length).find? (fb us 0) with | some p=>some (wdi 0,p) | none=>match (List.range us.length).find? (fb us 1) with | some p=>some (wdi 1,p) | none=>match (List.range us.length).find? (fb us 2) with | some p=>some (wdi 2,p) | none=>match (List.range us.length).find? (fb us 3) with | some p=>some (wdi 3,p) | none=>match (List.range us.length).find? (fb us 4) with | some p=>some (wdi 4,p) | none=>none)=match (match (List.range us.length).find? (fb us 0) with | some p=>some (wdi 0,p) | none=>match (List.range us.length).find? (fb us 1) with | some p=>some (wdi 1,p) | none=>match (List.range us.length).find? (fb us 2) with | some p=>some (wdi 2,p) | none=>match (List.range us.length).find? (fb us 3) with | some p=>some (wdi 3,p) | none=>none) with | some x=>some x | none=>(match (List.range us.length).find? (fb us 4) with | some p=>some (("land" : Str),p) | none=>none)
  cases (List.range us.length).find? (fb us 0) with
  | some p=>rfl
  | none=>
   cases (List.range us.length).find? (fb us 1) with
   | some p=>rfl
   | none=>
    cases (List.range us.length).find? (fb us 2) with
    | some p=>rfl
    | none=>
     cases (List.range us.length).find? (fb us 3) with
     | some p=>rfl
     | none=>rfl
 rw[e];cases ftG us 3 4 with
 | some x=>rfl
 | none=>
  cases (List.range us.length).find? (fb us 4) with
  | some p=>rfl
  | none=>rfl
def fD:Option (Str×Nat)->PyData
 | none=>.none
 | some (w,k)=>.tuple [.str w,.int (k:Int)]
def Bd (us:AB):Prop:=us.length<=1000/\∀u∈us,u.length<=150
theorem K3 (us:AB):(tsN us).length=us.length:=by simp[tsN]
theorem aF2 (us:AB)(p:Nat):TT.trn (tsN us) p=(us.getD p []).map Int.toNat:=by
 unfold TT.trn tsN;rw[Aa9,Ac0];cases us[p]? <;> rfl
theorem bL4 {us:AB}{p:Nat}(h:aJ0 us p=false):us.getD p []≠[]/\∀q∈us.getD p [],0<=q/\q<(us.length:Int)/\q≠(p:Int):=by
 unfold aJ0 at h;rw[Bool.or_eq_false_iff]at h;refine⟨λe=>by rw[e]at h;simp at h,λq y=>?_⟩
 have:=(List.any_eq_false.mp h.2) q y
 simp only[Df]at this
 lia
theorem aF9 {us:AB}(h:∀p,p<us.length->aJ0 us p=false):us.map tI=(tsN us).map tN:=by
 refine List.ext_getElem? λp=>?_
 by_cases hp:p<us.length
 .have m:=bL4 (h p hp)
  rw[Aa9,Aa9,aE1 (by rw[K3];exact hp),aF2]
  rw[show us[p]? = some (us.getD p []) by rw[Ac0,Aa2 hp];rfl]
  show some (tI _)=some (tN _)
  rw[bK5,Ae3]
  congr 2
  exact(Du _).symm.trans (Av λq e=>by have:=(m.2 q e).1;show q=((q.toNat:Nat):Int);lia)
 .rw[Ad6 (by simp;lia),Ad6 (by simp[tsN];lia)]
theorem l9 {us:AB}(B:Bd us)(j:3<=us.length)(y:us.length<=10)(h:∀p,p<us.length->aJ0 us p=false):Pls (tsN us):=by
 have k:∀p,(us.getD p []).length<=150:=λp=>by
  by_cases hp:p<us.length
  .rw[Ac0,Aa2 hp];exact B.2 _ (Cs hp)
  .rw[Ac0,Ad6 (by lia)];simp
 refine⟨by rw[K3];exact j,by rw[K3];exact y,λp=>by rw[aF2,Aa3];exact k p,λp hp e=>?_,λp q z=>?_⟩
 .rw[K3]at hp;rw[aF2,List.map_eq_nil_iff]at e;exact(bL4 (h p hp)).1 e
 .rw[aF2]at z;obtain⟨x,w,rfl⟩:=Aa8.mp z;rw[K3];by_cases hp:p<us.length
  .have:=(bL4 (h p hp)).2 x w
   lia
  .rw[Ac0,Ad6 (by lia)]at w;cases w
theorem aK3 {us:AB}(L:Pls (tsN us))(h:∀p,p<us.length->aS5 (tsN us) p=false):Pln (tsN us):=⟨L,λp=>by
 by_cases hp:p<us.length
 .have:=h p hp
  unfold aS5 at this;exact Classical.not_not.mp (Ao this)
 .rw[aF2,Ac0,Ad6 (by lia)];exact List.nodup_nil⟩
def dU5:Nat->AF->PyData->Prop
 | 0=>dS5
 | 1=>dR5
 | 2=>dR7
 | 3=>dR2
 | _=>dP6
def okJ (a:Ad)(j:Nat)(f:Addr):Prop:=(j=0/\f=a.Q6)\/(j=1/\f=a.V5)\/(j=2/\f=a.Q8)\/(j=3/\f=a.i3)\/(j=4/\f=a.P0)
theorem dK6 {us:AB}(B:Bd us)(c:3<=us.length)(y:us.length<=10){i k:Nat}(hi:i<5)(w:∀j,j<i->∀q,q<us.length->fb us j q=false)(s:k<us.length):dU5 i [.tuple (us.map tI),.int (k:Int)] (.bool (fb us i k)):=by
 have z:k<(tsN us).length:=by rw[K3];exact s
 match i,hi with
 | 0,_=>exact⟨us,k,s,B.2,rfl,rfl⟩
 | 1,_=>
  have e:=w 0 (by lia)
  exact⟨tsN us,k,l9 B c y e,z,by rw[aF9 e],rfl⟩
 | 2,_=>
  have e:=w 0 (by lia)
  exact⟨tsN us,k,aK3 (l9 B c y e) (w 1 (by lia)),z,by rw[aF9 e],rfl⟩
 | 3,_=>
  have e:=w 0 (by lia)
  exact⟨tsN us,k,(aK3 (l9 B c y e) (w 1 (by lia))).rt (by rw[K3];exact w 2 (by lia)),z,by rw[aF9 e],rfl⟩
 | 4,_=>
  have e:=w 0 (by lia)
  exact⟨tsN us,k,(aK3 (l9 B c y e) (w 1 (by lia))).rt (by rw[K3];exact w 2 (by lia)),z,by rw[aF9 e],by rw[K3];rfl⟩
theorem cL0 {n:Nat}{r:Nat->AC}(R:RS.Rot n r):∀E:List (Nat×Nat),(∀e∈E,e.2∈r e.1)->(E.Pairwise λe f=>f∉RS.orb r e)->(E.flatMap (RS.orb r)).Nodup
 | [],_,_=>by simp
 | e::E,h,hp=>by
  have hp:=Ae1.mp hp
  rw[List.flatMap_cons,Aa4];refine⟨R.orb_nd (h e (by simp)),cL0 R E (λf z=>h f (by simp[z])) hp.2,λx k y j e'=>?_⟩
  obtain⟨f,z,w⟩:=List.mem_flatMap.mp j;rw[<- e']at w;exact hp.1 f z (R.orb_trans (h e (by simp)) k (R.orb_symm (h f (by simp[z])) w))
theorem Rt.few {ts:AA}(R:Rt ts)(h:∀e∈RS.reps (TT.trn ts) (TT.gps (TT.trn ts) ts.length),(RS.rng (TT.trn ts) e).length=3):(RS.reps (TT.trn ts) (TT.gps (TT.trn ts) ts.length)).length<=40:=by
 have P:=R.rot.rp
 have nd:=cL0 R.rot _ P.isd P.prw
 have c:=TT.W6 nd (m:=TT.gps (TT.trn ts) ts.length) λx k=>by
  obtain⟨f,y,w⟩:=List.mem_flatMap.mp k;exact(RS.gps_mem' R.rot.out).mpr (R.rot.orb_isD (P.isd f y) w)
 have s:=R.glen
 have:∀E:List (Nat×Nat),(∀e∈E,(RS.rng (TT.trn ts) e).length=3)->(E.flatMap (RS.orb (TT.trn ts))).length=3*E.length:=λE=>by
  induction E with
  | nil=>intro _;rfl
  | cons e E j=>
   intro h
   have:=j λf y=>h f (by simp[y])
   have z:=h e (by simp)
   rw[RS.rng_len]at z;rw[List.flatMap_cons,Ab7,this,Al];simp only[RS.orb,Aa3,Bc,z]
   lia
 rw[this _ h]at c
 lia
def dS0 (ds es:AF):Prop:=∃ts:AA,Rt ts/\(∀e∈RS.reps (TT.trn ts) (TT.gps (TT.trn ts) ts.length),(RS.rng (TT.trn ts) e).length=3)/\ds=[tD ts]/\es=(aS8 (((RS.reps (TT.trn ts) (TT.gps (TT.trn ts) ts.length)).map (RS.rng (TT.trn ts))).map cL)).map tI
def cR6 (ds:AF)(d:PyData):Prop:=∃us:AB,Bd us/\ds=[.tuple (us.map tI)]/\d=fD (ft us)
section
variable {P:Program}{w:World}{K:Frag}{mg:Str->Option Value}{base:Heap}{a:Ad}
theorem eG8 (T:Tx K mg a):J0 P w K mg base CX0 4 a.cH9 a.cG8 ["drawing"] (spL K dS0):=by
 have y := @dP5 P w K mg base a T
 refine T.cK4.F.ok cZ2 (cQ3 (by rintro ds d ⟨_,_,_,rfl,_⟩;rfl)) (λm A outer s H vs Q E J h=>?_)
 obtain⟨ds,S,N,Y,r,⟨ts,R,j,rfl,rfl⟩,q⟩:=h;refine⟨_,(A6 (B7 (B5 (bB4 K) (by rfl) T.aQ6 boot_sorted (A0 (pcl y J T.u9 (A0 (pv 0) A1)) A1)))),aR9 Y r ?_ q⟩
 have c:=R.few j
 have k:=w9 (K:=K) (pre:=dB2) (X:=E0) (ρ:=sl0 ["drawing"].length [tD ts]) (A2 v0 A5) ⟨ts,R,rfl,rfl⟩
 rw[dY3 ((RS.reps (TT.trn ts) (TT.gps (TT.trn ts) ts.length)).map (RS.rng (TT.trn ts)))]at k;refine bQ2 (bS6 (A2 (EF.e' k) A5) (λt M=>?_) (by rw[Aa3,Aa3];lia) (aR7 _) (cQ6 _)) rfl
 obtain⟨l,c,rfl⟩:=Aa8.mp M;obtain⟨e,U,rfl⟩:=Aa8.mp c;intro z
 have:=j e U
 rw[<- bB9,z]at this;cases this
theorem eH3 (T:Tx K mg a):J0 P w K mg base CX0 5 a.aH5 a.aH2 ["turns"] (spV K cR6):=by
 have Y := @eG8 P w K mg base a T
 refine T.aI0.F.ok O6 (W7 (by rintro ds d ⟨_,_,rfl,_⟩;rfl)) (λcdv A outer s H vs Q E M h=>?_)
 obtain⟨ds,S,d,hS,r,⟨y,B,rfl,rfl⟩,q⟩:=h;obtain⟨ad,gF,sF⟩:=T.aB6;obtain⟨_,gL⟩:=T.Y8;obtain⟨_,gM⟩:=T.n8;obtain⟨ap,b0,b1,b2,b3,b4,gP,sP,s0,s1,s2,s3,s4⟩:=T.Z1;have HF:∀{X:Cx},X.prog=P->X.w=w->X.K=K->X.mg=mg->X.base=base->Room 4 X.A->∀j f,okJ a j f->∃fd k,Room k X.A/\J0 X.prog X.w X.K X.mg X.base CX0 k f fd ["turns", "p"] (spV K (dU5 j))/\PySem.W.keepIn X.K (.ref f)=true/\Binds X.K fd ["turns", "p"] []:=by
  rintro X rfl rfl rfl rfl rfl M j f (⟨rfl,rfl⟩ | ⟨rfl,rfl⟩ | ⟨rfl,rfl⟩ | ⟨rfl,rfl⟩ | ⟨rfl,rfl⟩)
  .exact⟨_,1,M.mono (by decide),eI7 T,T.Z5.F.kp,T.Z5.b⟩
  .exact⟨_,1,M.mono (by decide),eE1 T,T.u6.F.kp,T.u6.b⟩
  .exact⟨_,1,M.mono (by decide),eC6 T,T.i7.F.kp,T.i7.b⟩
  .exact⟨_,1,M.mono (by decide),eF1 T,T.aK6.F.kp,T.aK6.b⟩
  .exact⟨_,4,M.mono (by decide),eI8 T,T.W4.F.kp,T.W4.b⟩
 refine⟨_,(A3 (psS 1 O6 (B5 (u7 K) (by rfl) T.M4 Am (A0 (pv 0) A1)))
   (A3 (G9 (PW.pt (aT6 (C1 bD3 (pv 1) (N6 (v:=.int 3) rfl gL ⟨_,rfl⟩) (C6 _)) (aI5 (C1 aH0 (pv 1) (N6 (v:=.int 10) rfl gM ⟨_,rfl⟩) (C6 _))))) (A6 (B7 (E9 (A0 L5 (A0 (pv 1) A1))))) C5)
   (A3 (G6 Ai rfl (m9 (N6 (v:=.ref ap) rfl gP rfl)) (aZ6 (n:=2) rfl (S6 (pgN 2 O6) (S6 (pgN 3 O6) aP5))) (A6 (G6 Ai rfl (D9 rfl T.F7 (A0 (pv 1) A1)) (pgN 4 O6) (A6 (G9 (V1 (cS5 (sp:=λj=>spV K (dU5 j)) (ok:=okJ a) 3 (HF rfl rfl rfl rfl rfl (M.mono (by decide))) bX3 (A0 (pv 0) (A0 (pv 4) A1)))) (A6 (B7 (E9 (A0 (pv 2) (A0 (pv 4) A1))))) C5)))))
   (A3 (psS 5 O6 (pcl Y M T.cK4 (A0 (pv 0) A1)))
   (A3 (G9 (C1 bI1 (B5 (u7 K) (by rfl) T.M4 Am (A0 (pv 5) A1)) (B2 V4 (B2 k7 A4 (pv 1)) A4) (C6 _)) (A6 (B7 (E9 (A0 L5 (A0 (B5 (u7 K) (by rfl) T.M4 Am (A0 (pv 5) A1)) A1))))) C5)
   (A3 (G9 (C1 (Y5 K M) (N6 (v:=.ref ad) rfl gF rfl) (pv 5) rfl) (A6 (B7 (E9 (A0 L5 (A0 A4 A1))))) C5)
   (A6 (B7 aJ9)))))))),L6 hS r ?_ q⟩
 have hln:((y.map tI).length:Int)=(y.length:Int):=by rw[Aa3]
 refine A8 (C9 (d:=.int (y.length:Int)) (by rw[<- hln];exact P5 (ds:=y.map tI) (A2 v0 A5)) ?_)
 show W K _ [.val (.tuple (y.map tI)),vI (y.length:Int),.no,.no,.no,.no] _
 have c1:=aD3 (K:=K) (m:=false) (ρ:=[.val (.tuple (y.map tI)),vI (y.length:Int),.no,.no,.no,.no]) (g:=λi j=>decide (i<j)) v1 (aU2 (v:=.int 3) (d:=.int 3) λH=>.int _)
 have c2:=aD3 (K:=K) (m:=false) (ρ:=[.val (.tuple (y.map tI)),vI (y.length:Int),.no,.no,.no,.no]) (g:=λi j=>decide (i>j)) v1 (aU2 (v:=.int 10) (d:=.int 10) λH=>.int _)
 unfold ft;refine A8 (O8 (bQ5 (C4 c1) λ_=>C4 c2) (λh=>?_) (λh=>E2 ?_))
 .rw[Dv]at h;have hc:y.length<3\/10<y.length:=h.imp (λz=>by have:=An z;lia) (λz=>by have:=An z;lia)
  rw[Ae hc];exact E1 (d:=.tuple [.str "count",.int (y.length:Int)]) (N2 (A2 l3 (A2 v1 A5))) rfl
 rw[Bool.or_eq_false_iff]at h;have h3:3<=y.length:=by have:=Ao h.1;lia
 have N:y.length<=10:=by have:=Ao h.2;lia
 rw[Ac (by lia)]
 refine A8 (O4 (aH9 (ds:=[.tuple [.str "place",adD a.Q6],.tuple [.str "twice",adD a.V5],.tuple [.str "back",adD a.Q8],.tuple [.str "apart",adD a.i3],.tuple [.str "land",adD a.P0]]) (aU2 (v:=.ref ap) λH=>.tup (sP H) (.cons (.tup (s0 H) (.cons (.str _) (.cons .adr .nil))) (.cons (.tup (s1 H) (.cons (.str _) (.cons .adr .nil))) (.cons (.tup (s2 H) (.cons (.str _) (.cons .adr .nil))) (.cons (.tup (s3 H) (.cons (.str _) (.cons .adr .nil))) (.cons (.tup (s4 H) (.cons (.str _) (.cons .adr .nil))) .nil))))))) (λi ρ=>∃D x3 J,(∀j,j<i->∀q,q<y.length->fb y j q=false)/\ρ=[.val (.tuple (y.map tI)),vI (y.length:Int),D,x3,J,.no]) ⟨.no,.no,.no,λj hj=>absurd hj (Nat.not_lt_zero _),rfl⟩ ?_ ?_)
 .rintro i d _ hd ⟨D,x3,J,U,rfl⟩;obtain⟨wd,f,rfl,hok,hi,rfl⟩:∃(wd:Str) (f:Addr),d=.tuple [.str wd,adD f]/\okJ a i f/\i<5/\wd=wdi i:=by
   rcases (show i=0\/i=1\/i=2\/i=3\/i=4\/5<=i by lia) with rfl | rfl | rfl | rfl | rfl | hi
   .exact⟨_,_,(Ab4 hd).symm,.inl ⟨rfl,rfl⟩,by decide,rfl⟩
   .exact⟨_,_,(Ab4 hd).symm,.inr (.inl ⟨rfl,rfl⟩),by decide,rfl⟩
   .exact⟨_,_,(Ab4 hd).symm,.inr (.inr (.inl ⟨rfl,rfl⟩)),by decide,rfl⟩
   .exact⟨_,_,(Ab4 hd).symm,.inr (.inr (.inr (.inl ⟨rfl,rfl⟩))),by decide,rfl⟩
   .exact⟨_,_,(Ab4 hd).symm,.inr (.inr (.inr (.inr ⟨rfl,rfl⟩))),by decide,rfl⟩
   .rw[Ad6 (by exact hi)]at hd;cases hd
  refine⟨_,bT4 (X2 B9 (X2 B9 aX9)),?_⟩;show W K _ [.val (.tuple (y.map tI)),vI (y.length:Int),.val (.str (wdi i)),.val (adD f),J,.no] _;refine O4 (N1 (j:=(y.length:Int)) (A2 v1 A5) (by lia) (by lia)) (λk ρ=>∃J,(∀q,q<k->fb y i q=false)/\ρ=[.val (.tuple (y.map tI)),vI (y.length:Int),.val (.str (wdi i)),.val (adD f),J,.no]) ⟨J,λq hq=>absurd hq (Nat.not_lt_zero _),rfl⟩ ?_ ?_
  .rintro k d _ hd ⟨y4,hk0,rfl⟩;obtain⟨rfl,hk⟩:=N0 hd;have hk:k<y.length:=by lia
   refine⟨_,B9,?_⟩;show W K _ [.val (.tuple (y.map tI)),vI (y.length:Int),.val (.str (wdi i)),.val (adD f),vI (k:Int),.no] _;refine O8 (t_b (dN4 (i:=3) (f:=f) (d:=.bool (fb y i k)) i rfl hok (A2 v0 (A2 v4 A5)) (dK6 B h3 N hi U hk))) (λh=>?_) (λh=>E2 ⟨_,λq hq=>?_,rfl⟩)
   .rw[aN0 y (b:=4) (by lia) U hk h hk0 5 (by lia) (by lia)]
    exact E1 (d:=.tuple [.str (wdi i),.int (k:Int)]) (N2 (A2 v2 (A2 v4 A5))) rfl
   .rcases Bq q k with c | c
    .exact hk0 q c
    .rw[show q=k by lia];exact h
  .rintro _ ⟨y4,hk0,rfl⟩;rw[rng_len,Ac8]at hk0;refine⟨_,_,_,λj hj q hq=>?_,rfl⟩
   rcases Bq j i with c | c
   .exact U j c q hq
   .rw[show j=i by lia];exact hk0 q hq
 rintro _ ⟨D,x3,J,U,rfl⟩;have U:∀j,j<5->∀q,q<y.length->fb y j q=false:=U;rw[cD3 y (b:=4) U 5 (Aa7 _)];have m0:=U 0 (by decide)
 have R:Rt (tsN y):=(aK3 (l9 B h3 N m0) (U 1 (by decide))).rt (by rw[K3];exact U 2 (by decide))
 have h33:∀e∈RS.reps (TT.trn (tsN y)) (TT.gps (TT.trn (tsN y)) (tsN y).length),(RS.rng (TT.trn (tsN y)) e).length=3:=λe he=>by
  apply Classical.byContradiction
  intro c;have hi:=R.rot.rp.isd e he;have hm:e.1∈RS.rng (TT.trn (tsN y)) e:=Aa8.mpr ⟨0,Ab5.mpr (R.rot.per hi).pos,rfl⟩
  have:=U 4 (by decide) e.1 (by rw[<- K3];exact R.rot.rng_lt hi _ hm)
  have t:=R.rot.odd_iff.mpr ⟨e,R.rot.rp.sub e he,c,hm⟩
  rw[K3]at t;rw[show fb y 4 e.1=RS.oddB (TT.trn (tsN y)) y.length e.1 from rfl,t]at this
  cases this
 have hfew:=R.few h33
 have er:(RS.reps (TT.trn (tsN y)) (TT.gps (TT.trn (tsN y)) (tsN y).length)).map (RS.rng (TT.trn (tsN y)))=rgs y:=by unfold rgs;rw[K3]
 have hl40:(rgs y).length<=40:=by rw[<- er,Aa3];exact hfew
 refine A8 (K6 (ds:=(aS8 ((rgs y).map cL)).map tI) (w9 (pre:=dS0) (X:=E0) (A2 v0 A5) ⟨tsN y,R,h33,by rw[aF9 m0],by rw[er]⟩) ?_ (show 5<6 by decide))
 show W K _ [.val (.tuple (y.map tI)),vI (y.length:Int),D,x3,J,.own ((aS8 ((rgs y).map cL)).map tI)] _
 have hfl:(((aS8 ((rgs y).map cL)).map tI).length:Int)=((rgs y).length:Int):=by
  rw[Aa3,(aR7 _).length_eq,Aa3]
 have le1:=P5 (K:=K) (m:=false) (ρ:=[.val (.tuple (y.map tI)),vI (y.length:Int),D,x3,J,.own ((aS8 ((rgs y).map cL)).map tI)]) (ds:=(aS8 ((rgs y).map cL)).map tI) (A2 (J8 (i:=5) rfl) A5)
 have le2:=P5 (K:=K) (m:=true) (ρ:=[.val (.tuple (y.map tI)),vI (y.length:Int),D,x3,J,.own ((aS8 ((rgs y).map cL)).map tI)]) (ds:=(aS8 ((rgs y).map cL)).map tI) (A2 (J8 (i:=5) rfl) A5)
 rw[hfl]at le1 le2;refine A8 (O8 (C4 (bH0 le1 (P3 (g:=λi j=>i-j) (e_i (C:=CMulB) (g:=λi j=>i*j) (A7 (i:=2)) v1 ⟨by decide,by rw[Int.natAbs_natCast];exact Dr N (by decide)⟩) (A7 (i:=4))))) (λh=>?_) (λh=>E2 ?_))
 .have h:¬((rgs y).length:Int)=2*(y.length:Int)-4:=λe=>by rw[Bh e]at h;cases h
  dsimp only
  rw[Ae (by lia)]
  exact E1 (d:=.tuple [.str "flat",.int ((rgs y).length:Int)]) (N2 (A2 l3 (A2 le2 A5))) rfl
 have h:((rgs y).length:Int)=2*(y.length:Int)-4:=by
  apply Classical.byContradiction
  intro c;rw[Aj c]at h;cases h
 dsimp only
 rw[Ac (by lia)]
 have c4:=p7 (K:=K) (m:=false) (ρ:=[.val (.tuple (y.map tI)),vI (y.length:Int),D,x3,J,.own ((aS8 ((rgs y).map cL)).map tI)]) (d:=tI [0,2,1]) (ds:=(aS8 ((rgs y).map cL)).map tI) (aU2 (v:=.ref ad) λH=>.tup (sF H) (.cons (.int _) (.cons (.int _) (.cons (.int _) .nil)))) (J8 (i:=5) rfl) rfl (bD6 _).fit (dH9 _)
 have hin:[0,2,1]∈aS8 ((rgs y).map cL)↔[0,2,1]∈rgs y:=by
  rw[(aR7 _).mem_iff,Aa8];constructor
  .rintro⟨l,hl,e⟩;rw[<- cU4 (show cL l=cL [0,2,1] from e)];exact hl
  .intro h;exact⟨_,h,rfl⟩
 rw[eB2]at c4;refine A8 (O8 (C4 c4) (λh=>?_) (λh=>E2 ?_))
 .rw[Ac (λz=>by rw[Bh (hin.mpr z)]at h;cases h)]
  exact E1 (d:=.tuple [.str "outer",.int 0]) (N2 (A2 l3 (A2 A7 A5))) rfl
 .rw[Ae (hin.mp (by
   apply Classical.byContradiction
   intro c;rw[Aj c]at h;cases h))]
  exact E1 bW0 rfl
end
end K05
namespace LV
open PySem PySem.Spec PyProof.Rows L2
section
variable {K:Frag}{B:Hp}{ρ ρ':List Sl}{m:Bool}{tA:TA}{ta:TE}{d:PyData}{ds:AF}{C:Addr}{mn:Str}{fs:List (Str×Int)}{pre:AF->PyData->Prop}{preX:AF->Addr->List (Str×PyData)->Prop}
end
end LV
set_option maxHeartbeats 1000000
namespace K05
open PySem L2 LV PyProof.Rows
def dV6 (ds:AF)(d:PyData):Prop:=∃l:AC,l≠[]/\l.length<=10000/\ds=[tN l]/\d=tN (TT.M5 l)
def fTu:PyData->Option PyData
 | .list l=>some (.tuple l)
 | .tuple l=>some (.tuple l)
 | _=>none
def toN:PyData->Nat
 | .int i=>i.toNat
 | _=>0
def fBe:PyData->Option PyData
 | .tuple l=>some (tN (TT.M5 (l.map toN)))
 | _=>none
theorem aY0 (l:AC):(nI l).map toN=l:=by
 unfold nI;rw[Ae3];exact(Av λx _=>by simp[toN]).trans (Du l)
theorem dL7 (dr:AA):(dr.map tN).filterMap fBe=(dr.map TT.M5).map tN:=by
 induction dr with
 | nil=>rfl
 | cons l L e=>
  rw[Ac7,Ay]
  have:fBe (tN l)=some (tN (TT.M5 l)):=by
   show some (tN (TT.M5 ((nI l).map toN)))=_
   rw[aY0]
  rw[this];show _::_=_::_;rw[e]
theorem aP6:C3 ["self", "word", "at"] ["self", "word", "at"] (B1 M6):={}
theorem dF3 (us:AB):(us.map lI).filterMap fTu=us.map tI:=by
 induction us with
 | nil=>rfl
 | cons l L e=>
  rw[Ac7,Ay];show _::_=_::_;rw[e]
theorem bU8 (us:AB):M9 (us.map tI)=true:=aC8 dB1 us
def eJ6 (ds:AF)(d:PyData):Prop:=∃us:AB,Bd us/\ft us=none/\ds=[.list (us.map lI)]/\d=.tuple (((tsN us).map TT.M5).map tN)
def dZ6 (CN:Addr)(ds:AF)(C:Addr)(fs:List (Str×PyData)):Prop:=C=CN/\∃(us:AB) (wd:Str) (k:Nat),Bd us/\ft us=some (wd,k)/\ds=[.list (us.map lI)]/\fs=([("word",PyData.str wd),("at",PyData.int (k:Int))]:List (Str×PyData))
theorem aW7 {us:AB}(h:ft us=none):3<=us.length/\us.length<=10/\∀p,p<us.length->aJ0 us p=false:=by
 unfold ft at h;split at h
 .cases h
 rename_i c;refine⟨by lia,by lia,λp hp=>?_⟩
 have e:ftG us 4 5=none:=by
  cases e:ftG us 4 5 with
  | none=>rfl
  | some x=>rw[e]at h;cases h
 have e:(match (List.range us.length).find? (fb us (4-4)) with | some p=>some (wdi (4-4),p) | none=>ftG us 4 4)=none:=e
 cases f:(List.range us.length).find? (fb us (4-4)) with
 | some x=>rw[f]at e;cases e
 | none=>exact Bool.eq_false_iff.mpr ((List.find?_eq_none.mp f) p (Ab5.mpr hp))
section
variable {P:Program}{w:World}{K:Frag}{mg:Str->Option Value}{base:Heap}{a:Ad}
theorem cT7 (T:Tx K mg a):J0 P w K mg base CX0 1 a.F5 a.V9 ["self", "word", "at"] (dN2 a.A9 ["word", "at"]):=by
 refine T.aS9.ok aP6 (λvs H Q E ⟨x,xs,e,k,_⟩=>by rw[e,Al,k];rfl) (λY A outer s H vs Q E X h=>?_)
 obtain⟨x,xs,rfl,k,m,q⟩:=h
 match xs,k with
 | [v,v'],_=>
  obtain⟨j,cl⟩:=T.N9.cl;refine⟨_,(A3 (G7 (bB8 PySem.F.excBase_ValueError K rfl T.aA2 T.aG9 (A0 (pv 0) (A0 (pv 1) (A0 (pv 2) A1))))) (A3 (cE7 (pv 0) (pv 1)) (A6 (cW5 (pv 0) (pv 2))))),?_⟩;refine⟨.ref x,rfl,v,rfl,v',rfl,x,a.A9,none,[v,v'],rfl,m,T.N9.ek,by simp,?_⟩
  refine⟨v,rfl,.ref x,rfl,x,a.A9,j,rfl,m,cl,T.Q2,λdx z y=>?_⟩
  refine⟨v',rfl,.ref x,rfl,x,a.A9,j,dx,[("word",v)],rfl,B6,by rw[B4 y];exact B6,cl,T.T0,rfl,by show(1:Nat)<1000;decide,?_⟩
  refine q dx _ z y ?_ ?_ λb h1 c=>?_
  .rw[B4 (Ne.symm y)];exact B6
  .exact B6
  .rw[B4 c,B4 h1,B4 c]
theorem cP2 (T:Tx K mg a):J0 P w K mg base CX0 2 a.i9 a.i8 ["ring"] (spV K dV6):=by
 have e := @bF8 P w K mg base a T
 refine T.a9.F.ok aG6 (W7 (by rintro ds d ⟨_,_,_,rfl,_⟩;rfl)) (λj A outer s H vs Q E U h=>?_)
 obtain⟨ds,S,d,m,r,⟨l,z,X,rfl,rfl⟩,q⟩:=h;refine⟨_,(A6 (B7 (pcl e U T.aO4 (A0 (pv 0) (A0 (B5 (cM5 K rfl) (by rfl) T.bH1 boot_min (A0 (pv 0) A1)) A1))))),L6 m r ?_ q⟩
 obtain⟨k,y⟩:=TT.bM8 z;refine E1 (G1 (A2 v0 (A2 (dY1 (l:=cL l) (M:=(TT.mn l:Int)) (A2 (by rw[<- dF5];exact B0 (i:=0) rfl) A5) ⟨Aa8.mpr ⟨_,k,rfl⟩,λc Y=>?_⟩) A5)) ⟨l,TT.mn l,k,X,rfl,rfl⟩) rfl
 obtain⟨x,J,rfl⟩:=Aa8.mp Y
 have:=y x J
 lia
theorem eH2 (T:Tx K mg a):J0 P w K mg base (CXd P w) 6 a.bK8 a.bG1 ["turns"] (spF K eJ6 (dZ6 a.A9)):=by
 have c := @eH3 P w K mg base a T
 have y := @cP2 P w K mg base a T
 have j := @cT7 P w K mg base a T
 refine T.aF0.F.okD aK4 (cN5 (λds d ⟨_,_,_,e,_⟩=>by rw[e];rfl) λds C fs ⟨_,_,_,_,_,_,e,_⟩=>by rw[e];rfl) (λcdv A outer s H vs Q E D h=>?_)
 obtain⟨ds,S,hS,r,z⟩:=h;refine⟨_,(A3 (psS 1 aK4 (L7 (cU2 K) (by rfl) T.R8 boot_tuple (A0 (L9 (T:=["turn"]) (N':=["turn"]) (is:=[]) rfl (.of rfl rfl rfl (by exact trivial) rfl rfl rfl (by exact trivial)) (T3 (pv 0)) (K2 (by decide)) λ_ _ _ _=>⟨(F1 (i:=0) (by decide +kernel:(["turn"]:AH).Nodup) rfl (Or.inl rfl)),G4,(L7 (cU2 K) (by rfl) T.R8 boot_tuple (A0 (pv 0) A1))⟩) A1)))
   (A3 (psS 2 aK4 (pcl c D T.aI0 (A0 (pv 1) A1)))
   (A3 (G9 (C1 bM0 (pv 2) aJ9 (C6 _)) (A6 (bJ1 T.N9.mke T.N9.kp j (D.mono (by decide)) rfl T.aT9 T.aS6 .nil bX3 rfl (A0 (B8 (ixK K) (pv 2) A4 (λ_ _=>rfl)) (A0 (B8 (ixK K) (pv 2) A4 (λ_ _=>rfl)) A1)) λ_ _ _ _ _ _ I hy e q=>cF3 I hy e q)) C5)
   (A6 (B7 (L7 (cU2 K) (by rfl) T.R8 boot_tuple (A0 (L9 (T:=["turn"]) (N':=["turn"]) (is:=[]) rfl (.of rfl rfl rfl (by exact trivial) rfl rfl rfl (by exact trivial)) (m9 (pv 1)) (K2 (by decide)) λ_ _ _ _=>⟨(F1 (i:=0) (by decide +kernel:(["turn"]:AH).Nodup) rfl (Or.inl rfl)),G4,(pcl y D T.a9 (A0 (pv 0) A1))⟩) A1))))))),?_⟩
 have U:∀Y:AB,∀d∈Y.map lI,LV.bF2 K true [.no] (Q3 0) bE1 (tCB (λxs H Q=>∃p ys,xs=[.ref p]/\((SqL K H p ys/\∀l,H l=none->Q (.ref l) (upd H l (.tup ys)))\/(SqT K H p ys/\Q (.ref p) H))) (J9 (F0 0) W2)) d (fTu d):=λY d J=>by
  obtain⟨l,hl,rfl⟩:=Aa8.mp J;exact⟨_,B9,U3,X1 (ds:=l.map PyData.int) (A2 v0 A5) (aF6 l)⟩
 rcases z with⟨d,⟨Y,B,N,rfl,rfl⟩,q⟩ | ⟨C,fs,⟨rfl,Y,wd,k,B,N,rfl,rfl⟩,q⟩
 .refine eC5 hS r ?_ q;refine W.wb ?_;have bl:=B.1;refine A8 (C9 (d:=.tuple (Y.map tI)) (X1 (A2 (EF.e' (EF.to (G8 (m:=true) fTu (W5 (ds:=Y.map lI) v0) (by rw[Aa3];unfold sizeLine;lia) (U Y)) (dF3 Y))) A5) (bU8 _)) ?_)
  refine A8 (C9 (d:=.none) (G1 (pre:=cR6) (X:=E0) (A2 v1 A5) ⟨Y,B,rfl,by rw[N];rfl⟩) ?_)
  refine A8 (O8 (C4 (aS7 (d:=.none) v2)) (λh=>absurd (show false=true from h) (by decide)) (λh=>E2 ?_))
  obtain⟨h3,R,m0⟩:=aW7 N;have L:=l9 B h3 R m0;show W K _ [.val (.list (Y.map lI)),.val (.tuple (Y.map tI)),.val .none] _;refine E1 (X1 (A2 (EF.e' (EF.to (G8 (m:=true) fBe (aH9 (ds:=(tsN Y).map tN) (by rw[<- aF9 m0];exact B0 (i:=1) rfl)) (by rw[Aa3,K3];unfold sizeLine;lia) λd J=>?_) (dL7 (tsN Y)))) A5) (cG0 _)) rfl
  obtain⟨l,hl,rfl⟩:=Aa8.mp J;obtain⟨p,hp,e⟩:=List.mem_iff_getElem.mp hl;have M:l=TT.trn (tsN Y) p:=by
   have:=aE1 hp
   rw[Aa2 hp,e]at this;exact Ab4 this
  have ef:fBe (tN l)=some (tN (TT.M5 l)):=by
   show some (tN (TT.M5 ((nI l).map toN)))=_
   rw[aY0]
  rw[ef];exact⟨_,B9,U3,G1 (A2 v0 A5) ⟨l,by rw[M];exact L.ne p hp,by rw[M];have:=L.ln p;lia,rfl,rfl⟩⟩
 .refine dI9 hS r ?_;have bl:=B.1;refine bA5 (W.wb (C9 (d:=.tuple (Y.map tI)) (X1 (A2 (EF.e' (EF.to (G8 (m:=true) fTu (W5 (ds:=Y.map lI) v0) (by rw[Aa3];unfold sizeLine;lia) (U Y)) (dF3 Y))) A5) (bU8 _)) ?_))
  refine bA5 (W.wb (C9 (d:=.tuple [.str wd,.int (k:Int)]) (G1 (pre:=cR6) (X:=E0) (A2 v1 A5) ⟨Y,B,rfl,by rw[N];rfl⟩) ?_))
  refine bA5 (dT1 (b:=true) (C4 (aS7 (d:=.tuple [.str wd,.int (k:Int)]) v2)) (λ_=>?_) (λh=>by cases h))
  exact bG4 (ds:=[.str wd,.int (k:Int)]) (A2 (G0 (ds:=[.str wd,.int (k:Int)]) v2 A7 rfl rfl) (A2 (G0 (ds:=[.str wd,.int (k:Int)]) v2 A7 rfl rfl) A5)) rfl (λd J=>by simp at J;rcases J with rfl | rfl <;> rfl) (show 2<=1000 by decide) λH' dx vs s' e1 M=>q H' (some dx) vs s' e1 M
end
set_option maxHeartbeats 1000000
theorem bE4:C3 ["_law_turn", "_law_place"] ["_law_turn", "_law_place"] (B1 u4):={}
theorem Y2:C3 ["_law_turns", "_law_p", "_law_q", "_law_ring_here", "_law_way"] ["_law_turns", "_law_p", "_law_q"] (B1 aE7):={}
def dU0 (ds:AF)(d:PyData):Prop:=∃(l:AC) (x:Nat),x∈l/\l.length<=10000/\ds=[lN l,.int (x:Int)]/\d=.int (TT.prd l x:Nat)
theorem bY6 (l:AC):lN l=lI (cL l):=by unfold lN lI nI cL;rw[Ae3];rfl
theorem Rt.atL {ts:AA}{p:Nat}(h:p<ts.length):atI (ts.map lN) (p:Int)=some (lN (TT.trn ts p)):=S1 p rfl (by rw[Aa9,aE1 h];rfl)
def dS3 (ds es:AF):Prop:=∃(ts:AA) (p q:Nat),Rt ts/\q∈TT.trn ts p/\ds=[.list (ts.map lN),.int (p:Int),.int (q:Int)]/\es=nI (RS.rng (TT.trn ts) (p,q))
theorem bQ0 (x:Nat×Nat):Fit (pD (cI x)):=(bD6 _).fit
section
variable {P:Program}{w:World}{K:Frag}{mg:Str->Option Value}{base:Heap}{a:Ad}
theorem dT5 (T:Tx K mg a):J0 P w K mg base CX0 1 a.aP4 a.aK7 ["_law_turn", "_law_place"] (spV K dU0):=by
 refine T.aB4.F.ok bE4 (W7 (by rintro ds d ⟨_,_,_,_,rfl,_⟩;rfl)) (λy A outer s H vs Q E Y h=>?_)
 obtain⟨ds,S,d,z,r,⟨l,x,e,c,rfl,rfl⟩,q⟩:=h;refine⟨_,(A6 (B7 (B8 (ixK K) (pv 0) (B2 V4 (N3 Ab1 PySem.F.slot_list_index PySem.F.type_list_index (bI3 K) (pv 0) (A0 (pv 1) A1)) A4) (λ_ _=>rfl)))),L6 z r ?_ q⟩
 have h:=bW2 (K:=K) (m:=false) (ρ:=sl0 ["_law_turn", "_law_place"].length [lI (cL l),.int (x:Int)]) (ta:=F0 0) (tb:=F0 1) (k:=(x:Int)) v0 v1 (Aa8.mpr ⟨x,e,rfl⟩)
 rw[show(cL l).idxOf (x:Int)=l.idxOf x from aB8 x l,<- bY6]at h
 exact E1 (G0 (ds:=nI l) v0 (P3 (g:=λi j=>i-j) h A7) rfl (dB4 e)) rfl
theorem eK5 (T:Tx K mg a):J0 P w K mg base CX0 2 a.aT7 a.aT8 ["_law_turns", "_law_p", "_law_q"] (spL K dS3):=by
 have z := @dT5 P w K mg base a T
 refine T.aU5.F.ok Y2 (cQ3 (by rintro ds d ⟨_,_,_,_,_,rfl,_⟩;rfl)) (λD A outer s H vs Q E U h=>?_)
 obtain⟨ds,S,es,hS,r,⟨ts,p,y,R,X,rfl,rfl⟩,q⟩:=h;refine⟨_,(A3 (psS 3 Y2 (D5 (A0 (pv 1) A1)))
   (A3 (psS 4 Y2 (E9 (A0 (pv 2) (A0 (pcl z U T.aB4 (A0 (B8 (ixK K) (pv 0) (pv 2) (λ_ _=>rfl)) (A0 (pv 1) A1))) A1))))
   (A3 (aD5 Ai (C1 (cC7 K U) (pv 4) (E9 (A0 (pv 1) (A0 (pv 2) A1))) (C6 _)) (A3 (G7 (N3 Ab1 Ah Ag E6 (pv 3) (A0 (B8 (ixK K) (pv 4) A4 (λ_ _=>rfl)) A1)))
   (A6 (psS 4 Y2 (E9 (A0 (B8 (ixK K) (pv 4) A4 (λ_ _=>rfl)) (A0 (pcl z U T.aB4 (A0 (B8 (ixK K) (pv 0) (B8 (ixK K) (pv 4) A4 (λ_ _=>rfl)) (λ_ _=>rfl)) (A0 (B8 (ixK K) (pv 4) A4 (λ_ _=>rfl)) A1))) A1)))))))
   (A6 (B7 (pv 3)))))),aR9 hS r ?_ q⟩
 have P:=R.rot.per (d:=(p,y)) X
 have N:=R.plen (d:=(p,y)) X
 have isD:=R.rot.isDk (d:=(p,y)) X
 have p0:=P.pos
 have step:∀j,(RS.itr (TT.trn ts) j (p,y)).1∈TT.trn ts (RS.itr (TT.trn ts) j (p,y)).2/\(RS.itr (TT.trn ts) j (p,y)).2<ts.length:=λj=>by
  have J:=R.rot.bk _ _ (isD j)
  exact⟨J,R.lt J⟩
 generalize hn:RS.per (TT.trn ts) (p,y)=n at *;refine A8 (K6 (ds:=nI (crn (TT.trn ts) (p,y) 1)) (K5 (A2 v1 A5) (show(1:Nat)<=PySem.sizeLine by decide)) ?_ (show 3<5 by decide))
 refine A8 (C9 (d:=pD (cI (RS.itr (TT.trn ts) 1 (p,y)))) (N2 (A2 v2 (A2 (G1 (A2 (G0 (ds:=ts.map lN) v0 v2 rfl (Rt.atL (step 0).2)) (A2 v1 A5)) ⟨_,p,(step 0).1,by have:=R.tle y;show(TT.trn ts y).length<=10000;lia,rfl,rfl⟩) A5))) ?_)
 refine A8 (aQ5 (λk ρ=>∃j,j+k=n/\0<k/\ρ=[.val (.list (ts.map lN)),vI (p:Int),vI (y:Int),.own (nI (crn (TT.trn ts) (p,y) (j+1))),.val (pD (cI (RS.itr (TT.trn ts) (j+1) (p,y))))]) ⟨n,0,by lia,p0,rfl⟩ ?_)
 rintro k _ ⟨j,hk,k0,rfl⟩;have B:(crn (TT.trn ts) (p,y) (j+1)).length=j+1:=by simp[crn]
 have c:=cL2 (K:=K) (m:=false) (ρ:=[.val (.list (ts.map lN)),vI (p:Int),vI (y:Int),.own (nI (crn (TT.trn ts) (p,y) (j+1))),.val (pD (cI (RS.itr (TT.trn ts) (j+1) (p,y))))]) (d:=pD (cI (RS.itr (TT.trn ts) (j+1) (p,y)))) (d':=pD (cI (p,y))) v4 (N2 (A2 v1 (A2 v2 A5))) (bQ0 _) (bQ0 _)
 rw[dF0]at c;refine⟨_,C4 c,?_⟩;by_cases M:j+1=n
 .have Y:RS.itr (TT.trn ts) (j+1) (p,y)=(p,y):=by rw[M];exact P.back
  rw[Y,Bh rfl,Ac (by decide)]
  refine bZ3 rfl ?_;rw[M];unfold RS.rng crn;rw[hn]
 .have Y:¬cI (RS.itr (TT.trn ts) (j+1) (p,y))=cI (p,y):=λe=>P.first (j+1) (by lia) (by lia) (dF6 e)
  rw[Aj Y,Ae (by decide)]
  refine A8 (P9 (d:=.int ((RS.itr (TT.trn ts) (j+1) (p,y)).1:Nat)) rfl (G0 (ds:=[.int ((RS.itr (TT.trn ts) (j+1) (p,y)).1:Nat),.int ((RS.itr (TT.trn ts) (j+1) (p,y)).2:Nat)]) v4 A7 rfl rfl) (by rw[K1];unfold sizeLine;lia) ?_)
  refine C9 (d:=pD (cI (RS.itr (TT.trn ts) (j+2) (p,y)))) (N2 (A2 (G0 (ds:=[.int ((RS.itr (TT.trn ts) (j+1) (p,y)).1:Nat),.int ((RS.itr (TT.trn ts) (j+1) (p,y)).2:Nat)]) v4 A7 rfl rfl) (A2 (G1 (A2 (G0 (ds:=ts.map lN) v0 (G0 (ds:=[.int ((RS.itr (TT.trn ts) (j+1) (p,y)).1:Nat),.int ((RS.itr (TT.trn ts) (j+1) (p,y)).2:Nat)]) v4 A7 rfl rfl) rfl (Rt.atL (step (j+1)).2)) (A2 (G0 (ds:=[.int ((RS.itr (TT.trn ts) (j+1) (p,y)).1:Nat),.int ((RS.itr (TT.trn ts) (j+1) (p,y)).2:Nat)]) v4 A7 rfl rfl) A5)) ⟨_,_,(step (j+1)).1,by have:=R.tle (RS.itr (TT.trn ts) (j+1) (p,y)).2;lia,rfl,rfl⟩) A5))) ⟨k-1,by lia,j+1,by lia,by lia,?_⟩
  rw[dQ5 (TT.trn ts) (p,y) (j+1)];show _=[_,_,_,Sl.own (nI (_++[_])),_];unfold nI;rw[Ad2];rfl
end
set_option maxHeartbeats 1000000
theorem sc__law_places_fault:C3 ["_law_turns", "_law_many", "_law_p", "_law_met", "_law_turn"] ["_law_turns"] (B1 S2):={}
theorem eI3 {us:AB}{p:Nat}(h:p<us.length):atI (us.map lI) (p:Int)=some (lI (us.getD p [])):=S1 p rfl (by rw[Aa9,Ac0,Aa2 h];rfl)
theorem cU0 {us:AB}{p:Nat}(h:aJ0 us p=false):us.getD p []=cL (TT.trn (tsN us) p):=by
 have m:=bL4 h
 rw[aF2];unfold cL;rw[Ae3];exact(Du _).symm.trans (Av λq e=>by have:=(m.2 q e).1;show q=((q.toNat:Nat):Int);lia)
theorem dV7 {us:AB}(B:Bd us)(p:Nat):(us.getD p []).length<=150:=by
 by_cases hp:p<us.length
 .rw[Ac0,Aa2 hp];exact B.2 _ (Cs hp)
 .rw[Ac0,Ad6 (by lia)];simp
def gd (n p:Nat)(q:Int):Bool:=(decide (0<=q)&&decide (q<(n:Int))) && !decide (q=(p:Int))
def fGd (n p:Nat):PyData->Option PyData
 | .int q=>some (.bool (gd n p q))
 | _=>none
theorem dL6 (n p:Nat)(l:AD):(l.map PyData.int).filterMap (fGd n p)=(l.map (gd n p)).map PyData.bool:=by
 rw[Ar,Ae3,<- List.filterMap_eq_map];rfl
theorem dU6 (us:AB)(p:Nat):(decide (((us.getD p []).length:Int)=0) || !((us.getD p []).map (gd us.length p)).all id)=aJ0 us p:=by
 unfold aJ0
 congr 1
 .exact Bo.mpr (by lia)
 .rw[List.all_map,List.not_all_eq_any_not]
  congr 1
  funext q
  show(!((decide (0<=q)&&decide (q<(us.length:Int))) && !decide (q=(p:Int))))=decide _
  rw[Cv]
  simp
  lia
def fIn (ts:AA)(p:Nat):PyData->Option PyData
 | .int q=>some (.bool (decide (p∈TT.trn ts q.toNat)))
 | _=>none
theorem dJ9 (ts:AA)(p:Nat)(l:AC):(nI l).filterMap (fIn ts p)=(l.map λq=>decide (p∈TT.trn ts q)).map PyData.bool:=by
 unfold nI;rw[Ar,Ae3,<- List.filterMap_eq_map];rfl
def fMt (L:AC):PyData->Option PyData
 | .int q=>some (.bool (decide (q.toNat∈L)))
 | _=>none
theorem dI8 (L l:AC):(nI l).filterMap (fMt L)=(l.map λq=>decide (q∈L)).map PyData.bool:=by
 unfold nI;rw[Ar,Ae3,<- List.filterMap_eq_map];rfl
theorem eA4 (ts:AA)(p:Nat):(!((TT.trn ts p).map λq=>decide (p∈TT.trn ts q)).all id)=aT0 ts p:=by
 unfold aT0;rw[List.all_map,List.not_all_eq_any_not]
 congr 1
 funext q
 show(!decide (p∈TT.trn ts q))=decide _
 rw[decide_not]
def eF6 (ds:AF)(d:PyData):Prop:=∃us:AB,Bd us/\ds=[.list (us.map lI)]/\d=fD (pf us)
section
variable {P:Program}{w:World}{K:Frag}{mg:Str->Option Value}{base:Heap}{a:Ad}
theorem eI6 (T:Tx K mg a):J0 P w K mg base CX0 1 a.X9 a.X8 ["_law_turns"] (spV K eF6):=by
 refine T.Y0.F.ok sc__law_places_fault (W7 (by rintro ds d ⟨_,_,rfl,_⟩;rfl)) (λcdv A outer s H vs Q E hr h=>?_)
 obtain⟨ds,S,d,hS,r,⟨Y,B,rfl,rfl⟩,q⟩:=h;refine⟨_,(A3 (aZ1 (i:=1) sc__law_places_fault.nd rfl (Or.inr rfl) (B5 (u7 K) (by rfl) T.M4 Am (A0 (pv 0) A1)))
   (A3 (G9 (PW.pt (aT6 (C1 bD3 (pv 1) A4 (C6 _)) (aI5 (C1 aH0 (pv 1) A4 (C6 _))))) (A6 (B7 (E9 (A0 L5 (A0 (pv 1) A1))))) C5)
   (A3 (G6 Ai rfl (D9 rfl T.F7 (A0 (pv 1) A1)) (F1 (i:=2) sc__law_places_fault.nd rfl (Or.inr rfl)) (A6 (G9 (PW.pt (aT6 (C1 a8 (B5 (u7 K) (by rfl) T.M4 Am (A0 (B8 (ixK K) (pv 0) (pv 2) (λ_ _=>rfl)) A1)) A4 (C6 _)) (aI5 (aA1 (V1 (B5 (aF1 K rfl) (by rfl) T.bI7 boot_all (A0 (L9 (T:=["_law_q"]) (N':=["_law_q", "_law_many", "_law_p"]) (is:=[1,2]) rfl (.of rfl rfl rfl (by exact⟨rfl,rfl,trivial⟩) rfl rfl rfl (by exact⟨⟨_,rfl,by first | exact .inl rfl | exact .inr rfl,by first | exact .inl rfl | exact .inr rfl⟩,⟨_,rfl,by first | exact .inl rfl | exact .inr rfl,by first | exact .inl rfl | exact .inr rfl⟩,trivial⟩)) (T3 (B8 (ixK K) (pv 0) (pv 2) (λ_ _=>rfl))) (K2 (by decide)) λ_ _ _ _=>⟨(F1 (i:=0) (by decide +kernel:(["_law_q", "_law_many", "_law_p"]:AH).Nodup) rfl (Or.inl rfl)),G4,(bL3 (dG4 eE3 bD3 A4 (pv 0) (pv 1)) (aJ2 (R9 bI1 (pv 0) (pv 2) (C6 _))))⟩) A1))))))) (A6 (B7 (E9 (A0 L5 (A0 (pv 2) A1))))) C5)))
   (A3 (G6 Ai rfl (D9 rfl T.F7 (A0 (pv 1) A1)) (F1 (i:=2) sc__law_places_fault.nd rfl (Or.inr rfl)) (A6 (G9 (C1 bI1 (B5 aH4 (by rfl) T.M4 Am (A0 (L7 (cN9 K rfl) (by rfl) T.cL3 boot_set (A0 (B8 (ixK K) (pv 0) (pv 2) (λ_ _=>rfl)) A1)) A1)) (B5 (u7 K) (by rfl) T.M4 Am (A0 (B8 (ixK K) (pv 0) (pv 2) (λ_ _=>rfl)) A1)) (C6 _)) (A6 (B7 (E9 (A0 L5 (A0 (pv 2) A1))))) C5)))
   (A3 (G6 Ai rfl (D9 rfl T.F7 (A0 (pv 1) A1)) (F1 (i:=2) sc__law_places_fault.nd rfl (Or.inr rfl)) (A6 (G9 (aA1 (V1 (B5 (aF1 K rfl) (by rfl) T.bI7 boot_all (A0 (L9 (T:=["_law_q"]) (N':=["_law_q", "_law_p", "_law_turns"]) (is:=[2,0]) rfl (.of rfl rfl rfl (by exact⟨rfl,rfl,trivial⟩) rfl rfl rfl (by exact⟨⟨_,rfl,by first | exact .inl rfl | exact .inr rfl,by first | exact .inl rfl | exact .inr rfl⟩,⟨_,rfl,by first | exact .inl rfl | exact .inr rfl,by first | exact .inl rfl | exact .inr rfl⟩,trivial⟩)) (T3 (B8 (ixK K) (pv 0) (pv 2) (λ_ _=>rfl))) (K2 (by decide)) λ_ _ _ _=>⟨(F1 (i:=0) (by decide +kernel:(["_law_q", "_law_p", "_law_turns"]:AH).Nodup) rfl (Or.inl rfl)),G4,(R9 (bQ7 K hr) (pv 1) (B8 (ixK K) (pv 2) (pv 0) (λ_ _=>rfl)) rfl)⟩) A1)))) (A6 (B7 (E9 (A0 L5 (A0 (pv 2) A1))))) C5)))
   (A3 (aZ1 (i:=3) sc__law_places_fault.nd rfl (Or.inr rfl) (D5 (A0 A4 A1)))
   (A3 (G6 Ai rfl (D9 rfl T.F7 (A0 (pv 1) A1)) (pgN 4 sc__law_places_fault) (A6 (G6 Ai rfl (D9 rfl T.F7 (A0 (pv 1) A1)) (F1 (i:=2) sc__law_places_fault.nd rfl (Or.inr rfl)) (A6 (G9 (PW.pt (bB5 (C1 (Y5 K hr) (pv 2) (pv 3) rfl) (aM2 (V1 (B5 (aR3 K rfl) (by rfl) T.bX0 boot_any (A0 (L9 (T:=["_law_q"]) (N':=["_law_q", "_law_met"]) (is:=[3]) rfl (.of rfl rfl rfl (by exact⟨rfl,trivial⟩) rfl rfl rfl (by exact⟨⟨_,rfl,by first | exact .inl rfl | exact .inr rfl,by first | exact .inl rfl | exact .inr rfl⟩,trivial⟩)) (T3 (B8 (ixK K) (pv 0) (pv 2) (λ_ _=>rfl))) (K2 (by decide)) λ_ _ _ _=>⟨(F1 (i:=0) (by decide +kernel:(["_law_q", "_law_met"]:AH).Nodup) rfl (Or.inl rfl)),G4,(R9 (bQ7 K hr) (pv 0) (pv 1) rfl)⟩) A1)))))) (A6 (G7 (N3 Ab1 Ah Ag E6 (pv 3) (A0 (pv 2) A1)))) C5)))))
   (A3 (G6 Ai rfl (D9 rfl T.F7 (A0 (pv 1) A1)) (F1 (i:=2) sc__law_places_fault.nd rfl (Or.inr rfl)) (A6 (G9 (C1 (Y5 K hr) (pv 2) (pv 3) rfl) (A6 (B7 (E9 (A0 L5 (A0 (pv 2) A1))))) C5)))
   (A6 (B7 aJ9)))))))))),L6 hS r ?_ q⟩
 have hln:((Y.map lI).length:Int)=(Y.length:Int):=by rw[Aa3]
 refine A8 (C9 (d:=.int (Y.length:Int)) (EI.to (P5 (ds:=Y.map lI) (A2 v0 A5)) hln) ?_);unfold pf;refine A8 (O8 (bQ5 (C4 (aD3 v1 A7)) λ_=>C4 (aD3 v1 A7)) (λh=>?_) (λh=>E2 ?_))
 .rw[Dv]at h;have hc:Y.length<3\/10<Y.length:=h.imp (λz=>by have:=An z;lia) (λz=>by have:=An z;lia)
  rw[Ae hc];exact E1 (d:=.tuple [.str "count",.int (Y.length:Int)]) (N2 (A2 l3 (A2 v1 A5))) rfl
 rw[Bool.or_eq_false_iff]at h;have h3:3<=Y.length:=by have:=Ao h.1;lia
 have h10:Y.length<=10:=by have:=Ao h.2;lia
 rw[Ac (by lia)]
 have nx:∀{i k:Nat} {f:Nat->Bool},(∀q,q<k->f q=false)->f k=false->∀q,q<k+1->f q=false:=λ{i k f} h0 h1 q hq=>by
  rcases Bq q k with c | c
  .exact h0 q c
  .rw[show q=k by lia];exact h1
 refine A8 (O4 (N1 (j:=(Y.length:Int)) (A2 v1 A5) (by lia) (by lia)) (λk ρ=>∃X,(∀q,q<k->aJ0 Y q=false)/\X.nb=true/\ρ=[.val (.list (Y.map lI)),vI (Y.length:Int),X,.no,.no]) ⟨.no,λq hq=>absurd hq (Nat.not_lt_zero _),rfl,rfl⟩ ?_ ?_)
 .rintro k d _ hd ⟨X,h0,D,rfl⟩;obtain⟨rfl,J⟩:=N0 hd;have J:k<Y.length:=by lia
  refine⟨_,B9,?_⟩;have ul:=dV7 B k;have row:∀{m:Bool},LV.E K m (tOp (rIx K) (F0 0) (F0 2)) [.val (.list (Y.map lI)),vI (Y.length:Int),vI (k:Int),.no,.no] (lI (Y.getD k [])):=λ{m}=>G0 (ds:=Y.map lI) v0 v2 rfl (eI3 J)
  have t1:=Y6 (K:=K) (m:=false) (P5 (ds:=(Y.getD k []).map PyData.int) (A2 row A5)) (A7 (i:=0))
  rw[Aa3]at t1;refine O8 (b:=aJ0 Y k) (by
   rw[<- dU6];exact bQ5 (C4 t1) λ_=>aD8 (t_b (cL7 (l:=(Y.getD k []).map (gd Y.length k)) (A2 (EF.e' (EF.to (G8 (m:=true) (fGd Y.length k) (W5 (ds:=(Y.getD k []).map PyData.int) row) (by rw[Aa3];unfold sizeLine;lia) λd hd=>by
    obtain⟨x,_,rfl⟩:=Aa8.mp hd;exact⟨_,B9,U3,cK7 (dO8 (r:=rEq) (r':=rEq) A7 v0 v1) λ_=>bH0 v0 v2⟩) (dL6 _ _ _))) A5)))) (λh=>?_) (λh=>E2 ⟨_,nx (i:=0) h0 h,rfl,rfl⟩)
  rw[aN0 Y (b:=3) (i:=0) (by lia) (λj hj=>absurd hj (Nat.not_lt_zero _)) J h h0 4 (by lia) (by lia)]
  exact E1 (d:=.tuple [.str "place",.int (k:Int)]) (N2 (A2 l3 (A2 v2 A5))) rfl
 rintro _ ⟨X,m0,D,rfl⟩;rw[rng_len,Ac8]at m0;have L:=l9 B h3 h10 m0;have dat:Y.map lI=(tsN Y).map lN:=by
  refine List.ext_getElem? λp=>?_
  by_cases hp:p<Y.length
  .rw[Aa9,Aa9,aE1 (by rw[K3];exact hp),show Y[p]? = some (Y.getD p []) by rw[Ac0,Aa2 hp];rfl]
   show some (lI _)=some (lN _)
   rw[bY6,cU0 (m0 p hp)]
  .rw[Ad6 (by simp;lia),Ad6 (by simp[tsN];lia)]
 rw[dat];have tl:=K3 Y;have ea:∀i,i<=3->(∀j,j<i->∀q,q<Y.length->fb Y j q=false)->∀k,k<Y.length->(∀q,q<k->fb Y i q=false)->fb Y i k=true->ftG Y 3 4=some (wdi i,k):=λi hi hb k J h0 h=>aN0 Y (b:=3) hi hb J h h0 4 (by lia) (by lia)
 generalize U:tsN Y=ts at *;have row:∀{m:Bool} {k:Nat} {x3 x4:Sl},k<Y.length->LV.E K m (tOp (rIx K) (F0 0) (F0 2)) [.val (.list (ts.map lN)),vI (Y.length:Int),vI (k:Int),x3,x4] (lN (TT.trn ts k)):=λ{m k x3 x4} J=>G0 (ds:=ts.map lN) v0 v2 rfl (Rt.atL (by lia))
 refine A8 (O4 (N1 (j:=(Y.length:Int)) (A2 v1 A5) (by lia) (by lia)) (λk ρ=>∃X,(∀q,q<k->aS5 ts q=false)/\X.nb=true/\ρ=[.val (.list (ts.map lN)),vI (Y.length:Int),X,.no,.no]) ⟨X,λq hq=>absurd hq (Nat.not_lt_zero _),D,rfl⟩ ?_ ?_)
 .rintro k d _ hd ⟨X,h0,D,rfl⟩;obtain⟨rfl,J⟩:=N0 hd;have J:k<Y.length:=by lia
  refine⟨_,B9,?_⟩;have ul:=L.ln k;obtain⟨w',hw,hm⟩:=bY7 (TT.trn ts k);obtain⟨l1,l2⟩:=cH0 hw hm;have t1:=bH0 (K:=K) (m:=false) (dA0 (l:=cL (TT.trn ts k)) (w:=cL w') (A2 (by rw[<- bY6];exact row J) A5) (by rw[bB9];lia) (dT4 hw) λx=>by rw[bN3,bN3];exact⟨λ⟨y,h1,h2⟩=>⟨y,(hm y).mp h1,h2⟩,λ⟨y,h1,h2⟩=>⟨y,(hm y).mpr h1,h2⟩⟩) (P5 (ds:=nI (TT.trn ts k)) (A2 (row (x3:=.no) (x4:=.no) J) A5))
  have eb:(!decide (((cL w').length:Int)=((nI (TT.trn ts k)).length:Int)))=aS5 ts k:=by
   unfold aS5;rw[bB9,K1,<- decide_not];refine Bo.mpr ?_;rw[<- l2]
   lia
  rw[eb]at t1;refine O8 (C4 t1) (λh=>?_) (λh=>E2 ⟨_,nx (i:=0) h0 h,rfl,rfl⟩)
  rw[ea 1 (by lia) (λj hj=>by rw[show j=0 by lia];exact m0) k J (by show ∀q,q<k->aS5 (tsN Y) q=false;rw[U];exact h0) (by show aS5 (tsN Y) k=true;rw[U];exact h)]
  exact E1 (d:=.tuple [.str "twice",.int (k:Int)]) (N2 (A2 l3 (A2 v2 A5))) rfl
 rintro _ ⟨X,m1,D,rfl⟩;rw[rng_len,Ac8]at m1;have N:Pln ts:=by rw[<- U]at L m1 ⊢;exact aK3 L m1
 refine A8 (O4 (N1 (j:=(Y.length:Int)) (A2 v1 A5) (by lia) (by lia)) (λk ρ=>∃X,(∀q,q<k->aT0 ts q=false)/\X.nb=true/\ρ=[.val (.list (ts.map lN)),vI (Y.length:Int),X,.no,.no]) ⟨X,λq hq=>absurd hq (Nat.not_lt_zero _),D,rfl⟩ ?_ ?_)
 .rintro k d _ hd ⟨X,h0,D,rfl⟩;obtain⟨rfl,J⟩:=N0 hd;have J:k<Y.length:=by lia
  refine⟨_,B9,?_⟩;have ul:=L.ln k;refine O8 (b:=aT0 ts k) (by
   rw[<- eA4];exact aD8 (t_b (cL7 (l:=(TT.trn ts k).map λq=>decide (k∈TT.trn ts q)) (A2 (EF.e' (EF.to (G8 (m:=true) (fIn ts k) (W5 (ds:=nI (TT.trn ts k)) (row J)) (by rw[K1];unfold sizeLine;lia) λd hd=>by
    obtain⟨x,hx,rfl⟩:=aS4 hd;have e:=cM1 (K:=K) (m:=true) (ρ:=[vI (x:Int),vI (k:Int),.val (.list (ts.map lN))]) (ds:=nI (TT.trn ts x)) (d:=.int (k:Int)) v1 (G0 (ds:=ts.map lN) v2 v0 rfl (Rt.atL (L.lt k x hx).1)) rfl (Y1 _) (aD1 _);rw[u8]at e;exact⟨_,B9,U3,e⟩) (dJ9 _ _ _))) A5)))) (λh=>?_) (λh=>E2 ⟨_,nx (i:=0) h0 h,rfl,rfl⟩)
  rw[ea 2 (by lia) (λj hj=>by
   rcases (show j=0\/j=1 by lia) with rfl | rfl
   .exact m0
   .show ∀q,q<Y.length->aS5 (tsN Y) q=false
    rw[U];exact m1) k J (by show ∀q,q<k->aT0 (tsN Y) q=false;rw[U];exact h0) (by show aT0 (tsN Y) k=true;rw[U];exact h)]
  exact E1 (d:=.tuple [.str "back",.int (k:Int)]) (N2 (A2 l3 (A2 v2 A5))) rfl
 rintro _ ⟨X,m2,D,rfl⟩;rw[rng_len,Ac8]at m2;have R:Rt ts:=N.rt (by rw[tl];exact m2)
 refine A8 (K6 (ds:=nI [0]) (K5 (A2 A7 A5)) ?_ (show 3<5 by decide))
 have hb3:∀j,j<3->∀q,q<Y.length->fb Y j q=false:=λj hj=>by
  rcases (show j=0\/j=1\/j=2 by lia) with rfl | rfl | rfl
  .exact m0
  .show ∀q,q<Y.length->aS5 (tsN Y) q=false
   rw[U];exact m1
  .show ∀q,q<Y.length->aT0 (tsN Y) q=false
   rw[U];exact m2
 refine A8 (O4 (N1 (j:=(Y.length:Int)) (A2 v1 A5) (by lia) (by lia)) (λj ρ=>∃X x4,X.nb=true/\x4.nb=true/\ρ=[.val (.list (ts.map lN)),vI (Y.length:Int),X,.own (nI (RS.rnds (TT.trn ts) Y.length j)),x4]) ⟨X,.no,D,rfl,rfl⟩ ?_ ?_)
 .rintro j d _ hd ⟨X,x4,D,b4,rfl⟩;obtain⟨rfl,hj⟩:=N0 hd;refine⟨_,B9,?_⟩;have mt:RS.Mt (TT.trn ts) ts.length (RS.rnds (TT.trn ts) ts.length j):=RS.Mt.rnds (by lia) R.rot.bk j
  rw[tl]at mt;refine O4 (N1 (j:=(Y.length:Int)) (A2 v1 A5) (by lia) (by lia)) (λk ρ=>∃X,X.nb=true/\ρ=[.val (.list (ts.map lN)),vI (Y.length:Int),X,.own (nI (RS.rnd (TT.trn ts) k (RS.rnds (TT.trn ts) Y.length j))),vI (j:Int)]) ⟨X,D,rfl⟩ ?_ ?_
  .rintro k d _ hd ⟨X,D,rfl⟩;obtain⟨rfl,J⟩:=N0 hd;have J:k<Y.length:=by lia
   refine⟨_,B9,?_⟩;have mk:=mt.rnd R.rot.bk k (by lia)
   have ml:=Mt.len (ts:=ts) (by rw[tl];exact mk)
   rw[RS.rnd_succ];generalize RS.rnd (TT.trn ts) k (RS.rnds (TT.trn ts) Y.length j)=M at mk ml ⊢;have ul:=L.ln k;have t1:=p7 (K:=K) (m:=false) (ρ:=[.val (.list (ts.map lN)),vI (Y.length:Int),vI (k:Int),.own (nI M),vI (j:Int)]) (ds:=nI M) (d:=.int (k:Int)) v2 (J8 (i:=3) rfl) rfl (Y1 _) (aD1 _);rw[u8]at t1;refine O8 (aT3 (C4 t1) λ_=>t_b (cY6 (l:=(TT.trn ts k).map λq=>decide (q∈M)) (A2 (EF.e' (EF.to (G8 (m:=true) (fMt M) (W5 (ds:=nI (TT.trn ts k)) (row J)) (by rw[K1];unfold sizeLine;lia) λd hd=>by
    obtain⟨x,hx,rfl⟩:=aS4 hd;have e:=cM1 (K:=K) (m:=true) (ρ:=[vI (x:Int),.bor (.list (nI M))]) (ds:=nI M) (d:=.int (x:Int)) v0 (bI9 (i:=1) rfl) rfl (Y1 _) (aD1 _);rw[u8]at e;exact⟨_,B9,U3,e⟩) (dI8 _ _))) A5))) (λh=>?_) (λh=>E2 ⟨.val (.int (k:Int)),rfl,?_⟩)
   .rw[Bu,List.any_map]at h;have hs:RS.scn (TT.trn ts) M k=M++[k]:=by unfold RS.scn;exact Ae ⟨λz=>(by rw[Bh z]at h;exact absurd h.1 (by decide)),h.2⟩
    refine P9 (d:=.int (k:Int)) rfl v2 (by rw[K1];unfold sizeLine;lia) ⟨.val (.int (k:Int)),rfl,?_⟩
    rw[hs];show _=[_,_,_,Sl.own (nI (_++[_])),_];unfold nI;rw[Ad2];rfl
   .rw[List.any_map]at h;have hs:RS.scn (TT.trn ts) M k=M:=by
     unfold RS.scn;refine Ac λpz=>?_
     obtain⟨z1,z2⟩:=pz;rw[Bool.and_eq_false_iff]at h;rcases h with h | h
     .rw[Aj z1]at h;cases h
     .exact absurd (z2.symm.trans h) (by decide)
    rw[hs];rfl
  .rintro _ ⟨X,D,rfl⟩;rw[rng_len,Ac8];exact⟨X,vI (j:Int),D,rfl,rfl⟩
 rintro _ ⟨X,x4,D,b4,rfl⟩;rw[rng_len,Ac8];have iff:=RS.rnds_iff (r:=TT.trn ts) (n:=Y.length) (by lia) (λp q hq=>by rw[<- tl];exact(R.rot.lt p q hq).1) R.rot.bk
 refine A8 (O4 (N1 (j:=(Y.length:Int)) (A2 v1 A5) (by lia) (by lia)) (λk ρ=>∃X,(∀q,q<k->apB ts q=false)/\X.nb=true/\ρ=[.val (.list (ts.map lN)),vI (Y.length:Int),X,.own (nI (RS.rnds (TT.trn ts) Y.length Y.length)),x4]) ⟨X,λq hq=>absurd hq (Nat.not_lt_zero _),D,rfl⟩ ?_ ?_)
 .rintro k d _ hd ⟨X,h0,D,rfl⟩;obtain⟨rfl,J⟩:=N0 hd;have J:k<Y.length:=by lia
  refine⟨_,B9,?_⟩;have t1:=p7 (K:=K) (m:=false) (ρ:=[.val (.list (ts.map lN)),vI (Y.length:Int),vI (k:Int),.own (nI (RS.rnds (TT.trn ts) Y.length Y.length)),x4]) (ds:=nI (RS.rnds (TT.trn ts) Y.length Y.length)) (d:=.int (k:Int)) v2 (J8 (i:=3) rfl) rfl (Y1 _) (aD1 _);rw[u8]at t1;have eb:(!decide (k∈RS.rnds (TT.trn ts) Y.length Y.length))=apB ts k:=by
   unfold apB;by_cases c:k∈RS.rnds (TT.trn ts) Y.length Y.length
   .rw[Bh c];exact(@decide_eq_false _ (Classical.propDecidable _) λz=>z ((iff k).mp c)).symm
   .rw[Aj c];exact(@decide_eq_true _ (Classical.propDecidable _) λz=>c ((iff k).mpr z)).symm
  rw[eb]at t1;refine O8 (C4 t1) (λh=>?_) (λh=>E2 ⟨_,nx (i:=0) h0 h,rfl,rfl⟩)
  rw[ea 3 (by lia) hb3 k J (by show ∀q,q<k->apB (tsN Y) q=false;rw[U];exact h0) (by show apB (tsN Y) k=true;rw[U];exact h)]
  exact E1 (d:=.tuple [.str "apart",.int (k:Int)]) (N2 (A2 l3 (A2 v2 A5))) rfl
 rintro _ ⟨X,m3,D,rfl⟩;rw[rng_len,Ac8]at m3;rw[cD3 Y (b:=3) (λj hj=>by
  rcases Bq j 3 with c | c
  .exact hb3 j c
  .rw[show j=3 by lia]
   show ∀q,q<Y.length->apB (tsN Y) q=false
   rw[U];exact m3) 4 (Aa7 _)]
 exact E1 bW0 rfl
end
set_option maxHeartbeats 1000000
theorem sc__law_fault:C3 ["_law_turns", "_law_fault_here", "_law_corners", "_law_count", "_law_outer", "_law_p", "_law_q", "_law_ring_here"] ["_law_turns"] (B1 aB0):={}
noncomputable def crL (r:Nat->AC)(D:List (Nat×Nat)):AC:=D.flatMap λd=>if(RS.rng r d).length=3 then [] else RS.rng r d
noncomputable def cnL (r:Nat->AC)(D:List (Nat×Nat)):Nat:=(D.filter λd=>decide (d=RS.mnO r d)).length
noncomputable def otL (r:Nat->AC)(D:List (Nat×Nat)):Bool:=D.any λd=>decide (RS.rng r d=[0,2,1])
theorem eE2 (r:Nat->AC)(D:List (Nat×Nat))(d:Nat×Nat):crL r (D++[d])=crL r D++if(RS.rng r d).length=3 then [] else RS.rng r d:=by unfold crL;rw[List.flatMap_append];simp
theorem eJ1 (r:Nat->AC)(D:List (Nat×Nat))(d:Nat×Nat):cnL r (D++[d])=cnL r D+if d=RS.mnO r d then 1 else 0:=by
 unfold cnL;rw[List.filter_append,Ab7]
 congr 1
 by_cases c:d=RS.mnO r d
 .rw[Ae c,List.filter_cons,Ae (Bh c)];rfl
 .rw[Ac c,List.filter_cons,Ac (by rw[Aj c];decide)];rfl
theorem eE6 (r:Nat->AC)(D:List (Nat×Nat))(d:Nat×Nat):otL r (D++[d])=(otL r D||decide (RS.rng r d=[0,2,1])):=by
 unfold otL;rw[List.any_append]
 congr 1
 show(decide (RS.rng r d=[0,2,1])||false)=_
 rw[Bool.or_false]
theorem cK3 {ts:AA}(R:Rt ts):∀D:List (Nat×Nat),(∀d∈D,d.2∈TT.trn ts d.1)->(crL (TT.trn ts) D).length<=100*D.length
 | [],_=>by simp[crL]
 | d::D,h=>by
  have:=cK3 R D λe y=>h e (by simp[y])
  have h1:=R.plen (h d (by simp))
  unfold crL at this ⊢;rw[List.flatMap_cons,Ab7,Al];have w:(if(RS.rng (TT.trn ts) d).length=3 then [] else RS.rng (TT.trn ts) d).length<=100:=by
   split
   .simp
   .rw[RS.rng_len];exact h1
  lia
theorem dG8 {ts:AA}(R:Rt ts){i j:Nat}(hi:i<ts.length):∀d∈pre (TT.trn ts) i j,d.2∈TT.trn ts d.1:=λd y=>by
 unfold pre at y;rcases Aa0.mp y with z | z
 .unfold TT.gps at z;simp only[List.mem_flatten,Aa8,Ab5]at z;obtain⟨_,⟨p,_,rfl⟩,h⟩:=z;obtain⟨q,e,rfl⟩:=Aa8.mp h;exact e
 .obtain⟨q,e,rfl⟩:=Aa8.mp z;exact Bg e
theorem eB4 {n:Nat}{r:Nat->AC}(R:RS.Rot n r){d:Nat×Nat}(h:d.2∈r d.1):cI (RS.mnO r d)∈(RS.wyR (RS.rng r d)).map cI/\∀y∈(RS.wyR (RS.rng r d)).map cI,ltP y (cI (RS.mnO r d))=false:=by
 have M:=R.mnO h
 refine⟨Aa8.mpr ⟨_,(R.wyR_mem h).mpr M.1,rfl⟩,λy w=>?_⟩
 obtain⟨x,e,rfl⟩:=Aa8.mp w
 have:=M.2 x ((R.wyR_mem h).mp e)
 unfold RS.le2 at this;exact Aj (by show ¬((x.1:Int)<((RS.mnO r d).1:Int)\/(x.1:Int)=((RS.mnO r d).1:Int)/\(x.2:Int)<((RS.mnO r d).2:Int));lia)
theorem dV9 (a b:AC):PyData.eqv (.list (nI a)) (.list (nI b))=decide (a=b):=by
 have h:PyData.eqv (.list (nI a)) (.list (nI b))=decide (cL a=cL b):=by
  rw[PyData.eqv,show nI a=(cL a).map PyData.int by unfold nI cL;rw[Ae3];rfl,show nI b=(cL b).map PyData.int by unfold nI cL;rw[Ae3];rfl]
  exact aA3 (f:=PyData.int) aX5 (cL a) (cL b)
 rw[h];exact Bo.mpr ⟨cU4,λe=>by rw[e]⟩
def eK3 (ds:AF)(d:PyData):Prop:=∃us:AB,Bd us/\ds=[.list (us.map lI)]/\d=fD (ft us)
theorem cG1 {us:AB}(h:pf us=none):3<=us.length/\us.length<=10/\(∀p,p<us.length->aJ0 us p=false)/\(∀p,p<us.length->aS5 (tsN us) p=false)/\∀p,p<us.length->aT0 (tsN us) p=false:=by
 unfold pf at h;split at h
 .cases h
 rename_i c;have h:(match (List.range us.length).find? (fb us 0) with | some p=>some (wdi 0,p) | none=>match (List.range us.length).find? (fb us 1) with | some p=>some (wdi 1,p) | none=>match (List.range us.length).find? (fb us 2) with | some p=>some (wdi 2,p) | none=>match (List.range us.length).find? (fb us 3) with | some p=>some (wdi 3,p) | none=>none)=none:=h
 have no:∀i,(List.range us.length).find? (fb us i)=none->∀p,p<us.length->fb us i p=false:=λi f p hp=>Bool.eq_false_iff.mpr ((List.find?_eq_none.mp f) p (Ab5.mpr hp))
 cases e:(List.range us.length).find? (fb us 0) with
 | some x=>rw[e]at h;cases h
 | none=>
  cases f1:(List.range us.length).find? (fb us 1) with
  | some x=>rw[e,f1]at h;cases h
  | none=>
   cases f2:(List.range us.length).find? (fb us 2) with
   | some x=>rw[e,f1,f2]at h;cases h
   | none=>exact⟨by lia,by lia,no 0 e,no 1 f1,no 2 f2⟩
theorem cU8 {us:AB}(e:∀p,p<us.length->aJ0 us p=false):us.map lI=(tsN us).map lN:=by
 refine List.ext_getElem? λp=>?_
 by_cases hp:p<us.length
 .rw[Aa9,Aa9,aE1 (by rw[K3];exact hp),show us[p]? = some (us.getD p []) by rw[Ac0,Aa2 hp];rfl]
  show some (lI _)=some (lN _)
  rw[bY6,cU0 (e p hp)]
 .rw[Ad6 (by simp;lia),Ad6 (by simp[tsN];lia)]
section
variable {P:Program}{w:World}{K:Frag}{mg:Str->Option Value}{base:Heap}{a:Ad}
theorem eK2 (T:Tx K mg a):J0 P w K mg base CX0 3 a.aQ3 a.aP2 ["_law_turns"] (spV K eK3):=by
 have y := @eI6 P w K mg base a T
 have J := @eK5 P w K mg base a T
 refine T.aN2.F.ok sc__law_fault (W7 (by rintro ds d ⟨_,_,rfl,_⟩;rfl)) (λcdv A outer s H vs Q E hr h=>?_)
 obtain⟨ds,S,d,hS,r,⟨Y,B,rfl,rfl⟩,q⟩:=h;refine⟨_,(A3 (psS 1 sc__law_fault (pcl y hr T.Y0 (A0 (pv 0) A1)))
   (A3 (G9 (C1 bM0 (pv 1) aJ9 (C6 _)) (A6 (B7 (pv 1))) C5)
   (A3 (psS 2 sc__law_fault (D5 A1))
   (A3 (psS 3 sc__law_fault A4)
   (A3 (psS 4 sc__law_fault Z0)
   (A3 (G6 Ai rfl (D9 rfl T.F7 (A0 (B5 (u7 K) (by rfl) T.M4 Am (A0 (pv 0) A1)) A1)) (pgN 5 sc__law_fault) (A6 (G6 Ai rfl (T3 (B8 (ixK K) (pv 0) (pv 5) (λ_ _=>rfl))) (pgN 6 sc__law_fault) (A3 (aZ1 (i:=7) sc__law_fault.nd rfl (Or.inr rfl) (pcl J hr T.aU5 (A0 (pv 0) (A0 (pv 5) (A0 (pv 6) A1)))))
   (A3 (G9 (C1 bI1 (B5 (u7 K) (by rfl) T.M4 Am (A0 (pv 7) A1)) A4 (C6 _)) (A6 (psS 2 sc__law_fault (B2 (Q1 K) (pv 2) (pv 7)))) C5)
   (A3 (G9 (C1 (dD5 K hr) (E9 (A0 (pv 5) (A0 (pv 6) A1))) (B5 (cP0 K hr) (by rfl) T.bH1 boot_min (A0 (L9 (T:=["_law_k"]) (N':=["_law_k", "_law_ring_here"]) (is:=[7]) rfl (.of rfl rfl rfl (by exact⟨rfl,trivial⟩) rfl rfl rfl (by exact⟨⟨_,rfl,by first | exact .inl rfl | exact .inr rfl,by first | exact .inl rfl | exact .inr rfl⟩,trivial⟩)) (D9 rfl T.F7 (A0 (B5 (u7 K) (by rfl) T.M4 Am (A0 (pv 7) A1)) A1)) (K2 (by decide)) λ_ _ _ _=>⟨(F1 (i:=0) (by decide +kernel:(["_law_k", "_law_ring_here"]:AH).Nodup) rfl (Or.inl rfl)),G4,(E9 (A0 (B8 (ixK K) (pv 1) (B2 V4 (pv 0) A4) (λ_ _=>rfl)) (A0 (B8 (ixK K) (pv 1) (pv 0) (λ_ _=>rfl)) A1)))⟩) A1)) (C6 _)) (A6 (psS 3 sc__law_fault (B2 K8 (pv 3) A4))) C5)
   (A6 (psS 4 sc__law_fault (dD0 (pv 4) (aJ2 (R9 (dD5 K hr) (pv 7) (D5 (A0 A4 (A0 A4 (A0 A4 A1)))) (C6 _))))))))))))
   (A3 (G9 (C1 aH0 (B5 (u7 K) (by rfl) T.M4 Am (A0 (pv 2) A1)) A4 (C6 _)) (A6 (B7 (E9 (A0 L5 (A0 (B5 (bJ8 K rfl) (by rfl) T.bH1 boot_min (A0 (pv 2) A1)) A1))))) C5)
   (A3 (G9 (C1 bI1 (pv 3) (B2 V4 (B2 k7 A4 (B5 (u7 K) (by rfl) T.M4 Am (A0 (pv 0) A1))) A4) (C6 _)) (A6 (B7 (E9 (A0 L5 (A0 (pv 3) A1))))) C5)
   (A3 (G9 (aA1 (V1 (pv 4))) (A6 (B7 (E9 (A0 L5 (A0 A4 A1))))) C5)
   (A6 (B7 aJ9))))))))))),L6 hS r ?_ q⟩
 rw[dQ4];refine A8 (C9 (d:=fD (pf Y)) (G1 (A2 v0 A5) ⟨Y,B,rfl,rfl⟩) ?_);cases hpf:pf Y with
 | some x=>
  obtain⟨wd,k⟩:=x;exact A8 (O8 (b:=true) (C4 (aS7 (d:=.tuple [.str wd,.int (k:Int)]) v1)) (λ_=>E1 v1 rfl) (λh=>by cases h))
 | none=>
 refine A8 (O8 (b:=false) (C4 (aS7 (d:=.none) v1)) (λh=>by cases h) (λh=>E2 ?_))
 dsimp only
 obtain⟨h3,h10,m0,m1,m2⟩:=cG1 hpf;have R:Rt (tsN Y):=(aK3 (l9 B h3 h10 m0) m1).rt (by rw[K3];exact m2)
 have dat:Y.map lI=(tsN Y).map lN:=cU8 m0
 rw[dat];have tl:=K3 Y;have odd_iff:∀p,fb Y 4 p=true↔p∈crL (TT.trn (tsN Y)) (TT.gps (TT.trn (tsN Y)) Y.length):=λp=>by
  have:=R.rot.odd_iff (p:=p)
  rw[tl]at this;show RS.oddB (TT.trn (tsN Y)) Y.length p=true↔_;rw[this];unfold crL;rw[List.mem_flatMap];refine exists_congr λd=>and_congr_right λ_=>?_
  split
  .rename_i c;exact⟨λz=>absurd c z.1,λz=>by cases z⟩
  .rename_i c;exact⟨λz=>z.2,λz=>⟨c,z⟩⟩
 have cnt:(rgs Y).length=cnL (TT.trn (tsN Y)) (TT.gps (TT.trn (tsN Y)) Y.length):=by
  have:=R.rot.count
  rw[tl]at this;unfold rgs cnL;rw[Aa3];exact this
 have out:[0,2,1]∈rgs Y↔otL (TT.trn (tsN Y)) (TT.gps (TT.trn (tsN Y)) Y.length)=true:=by
  have:=R.rot.outer
  rw[tl]at this;unfold rgs otL;rw[this,List.any_eq_true]
  simp
 have crlt:∀p∈crL (TT.trn (tsN Y)) (TT.gps (TT.trn (tsN Y)) Y.length),p<Y.length:=λp hp=>by
  unfold crL at hp;obtain⟨d,hd,hpd⟩:=List.mem_flatMap.mp hp
  have:p∈RS.rng (TT.trn (tsN Y)) d:=by
   split at hpd
   .cases hpd
   .exact hpd
  have hi:=(RS.gps_mem' R.rot.out).mp (by rw[tl];exact hd)
  have:=R.rot.rng_lt hi p this
  lia
 generalize hts:tsN Y=ts at *;refine A8 (K6 (ds:=nI []) (K5 A5) ?_ (show 2<8 by decide))
 refine A8 (C9 (d:=.int ((0:Nat):Int)) A7 ?_);refine A8 (C9 (d:=.bool false) bT3 ?_);refine A8 (O4 (N1 (j:=(Y.length:Int)) (A2 (EI.to (P5 (ds:=ts.map lN) (A2 v0 A5)) (by rw[Aa3,tl])) A5) (by lia) (by lia)) (λi ρ=>∃x5 D x7,x5.nb=true/\D.nb=true/\x7.nb=true/\ρ=[.val (.list (ts.map lN)),.val .none,.own (nI (crL (TT.trn ts) (TT.gps (TT.trn ts) i))),vI (cnL (TT.trn ts) (TT.gps (TT.trn ts) i):Nat),.val (.bool (otL (TT.trn ts) (TT.gps (TT.trn ts) i))),x5,D,x7]) ⟨.no,.no,.no,rfl,rfl,rfl,rfl⟩ ?_ ?_)
 .rintro i d _ hd ⟨x5,D,x7,b5,b6,b7,rfl⟩;obtain⟨rfl,hi⟩:=N0 hd;have hi:i<Y.length:=by lia
  refine⟨_,B9,?_⟩;refine O4 (W5 (ds:=nI (TT.trn ts i)) (G0 (ds:=ts.map lN) v0 v5 rfl (Rt.atL (by lia)))) (λj ρ=>∃D x7,D.nb=true/\x7.nb=true/\ρ=[.val (.list (ts.map lN)),.val .none,.own (nI (crL (TT.trn ts) (pre (TT.trn ts) i j))),vI (cnL (TT.trn ts) (pre (TT.trn ts) i j):Nat),.val (.bool (otL (TT.trn ts) (pre (TT.trn ts) i j))),vI (i:Int),D,x7]) ⟨D,x7,b6,b7,by rw[cI6];rfl⟩ ?_ ?_
  .rintro j d _ hd ⟨D,x7,b6,b7,rfl⟩;unfold nI at hd;rw[Aa9]at hd;obtain⟨U,hq',rfl⟩:=Ba.mp hd;have hq:U∈TT.trn ts i:=Bf hq';have hps:=dR6 (TT.trn ts) hq';have hpl:=cI1 R (i:=i) (j:=j) (by lia)
   have hcl:=cK3 R _ (dG8 R (i:=i) (j:=j) (by lia))
   refine⟨_,B9,?_⟩;rw[hps,eE2,eJ1,eE6];have hrg:(RS.rng (TT.trn ts) (i,U)).length<=100:=by rw[RS.rng_len];exact R.plen (d:=(i,U)) hq
   obtain⟨mn1,mn2⟩:=eB4 R.rot (d:=(i,U)) hq;generalize crL (TT.trn ts) (pre (TT.trn ts) i j)=C at hcl ⊢;generalize cnL (TT.trn ts) (pre (TT.trn ts) i j)=N;generalize otL (TT.trn ts) (pre (TT.trn ts) i j)=O;refine A8 (K6 (ds:=nI (RS.rng (TT.trn ts) (i,U))) (w9 (pre:=dS3) (X:=E0) (A2 v0 (A2 v5 (A2 v6 A5))) ⟨ts,i,U,R,hq,rfl,rfl⟩) ?_ (show 7<8 by decide))
   generalize hl:RS.rng (TT.trn ts) (i,U)=l at *;generalize hM:RS.mnO (TT.trn ts) (i,U)=M at *;show W K _ [.val (.list (ts.map lN)),.val .none,.own (nI C),vI (N:Int),.val (.bool O),vI (i:Int),vI (U:Int),.own (nI l)] _;have t1:=bH0 (K:=K) (m:=false) (ρ:=[.val (.list (ts.map lN)),.val .none,.own (nI C),vI (N:Int),.val (.bool O),vI (i:Int),vI (U:Int),.own (nI l)]) (P5 (ds:=nI l) (A2 (J8 (i:=7) rfl) A5)) (A7 (i:=3));rw[K1]at t1;refine A8 (cF7 [.val (.list (ts.map lN)),.val .none,.own (nI (C++if l.length=3 then [] else l)),vI (N:Int),.val (.bool O),vI (i:Int),vI (U:Int),.own (nI l)] (C4 t1) (λh=>?_) (λh=>E2 ?_) ?_)
   .have h:¬l.length=3:=λe=>by rw[Bh (show((l.length:Nat):Int)=3 by lia)]at h;cases h
    rw[Ac h];exact K6 (ds:=nI (C++l)) (EF.to (bP4 (J8 (i:=2) rfl) (J8 (i:=7) rfl) (M0 _) (M0 _) (by rw[K1,K1];unfold sizeLine;lia)) (by unfold nI;rw[Ad2])) rfl (show 2<8 by decide)
   .have h:l.length=3:=by
     apply Classical.byContradiction
     intro c;rw[Aj (show ¬((l.length:Nat):Int)=3 by lia)]at h;cases h
    rw[Ae h,Bm]
   generalize (C++if l.length=3 then [] else l)=C';have cmp:EF K (bK3 (dA9 (J9 (tCB (λxs H Q=>∃p ys,xs=[.ref p]/\(SqL K H p ys\/SqT K H p ys)/\Q (.int ys.length) H) (J9 (F0 7) W2)) W2)) 1 [7] (Q3 0) bE1 (cB1 (J9 (tOp (rIx K) (F0 1) (tOp (rI0 λi j=>.int (i-j)) (F0 0) (tC (.int 1)))) (J9 (tOp (rIx K) (F0 1) (F0 0)) W2)))) [.val (.list (ts.map lN)),.val .none,.own (nI C'),vI (N:Int),.val (.bool O),vI (i:Int),vI (U:Int),.own (nI l)] (((RS.wyR l).map cI).map λx=>tI [x.1,x.2]):=EF.to (G8 (m:=true) (fWr l) (N1 (j:=(l.length:Int)) (A2 (EI.to (P5 (ds:=nI l) (A2 (J8 (i:=7) rfl) A5)) (by rw[K1])) A5) (by lia) (by lia)) (by rw[rng_len];unfold sizeLine;lia) λd hd=>by
    obtain⟨k,hk⟩:=List.mem_iff_getElem?.mp hd;obtain⟨rfl,hk⟩:=N0 hk;have hk:k<l.length:=by lia
    have e1:LV.E K true (tOp (rIx K) (F0 1) (tOp (rI0 λi j=>.int (i-j)) (F0 0) (tC (.int 1)))) [vI (k:Int),.bor (.list (nI l))] (.int (TT.gi l (if k=0 then l.length-1 else k-1):Nat)):=LV.E.imm (m:=false) (G0 (ds:=nI l) (bI9 (i:=1) rfl) (P3 (g:=λi j=>i-j) v0 A7) rfl (dE2 hk))
    have e2:LV.E K true (tOp (rIx K) (F0 1) (F0 0)) [vI (k:Int),.bor (.list (nI l))] (.int (TT.gi l k:Nat)):=LV.E.imm (m:=false) (G0 (ds:=nI l) (bI9 (i:=1) rfl) v0 rfl (S1 k rfl (aI2 hk)))
    exact⟨_,B9,U3,N2 (A2 e1 (A2 e2 A5))⟩) (by rw[Ac8,cI3,Ae3];rfl)
   have t2:=dC8 (K:=K) (m:=false) (d:=pD (cI (i,U))) (d':=pD (cI M)) (N2 (A2 v5 (A2 v6 A5))) (dX7 (M:=cI M) (A2 (EF.e' cmp) A5) mn1 mn2) (bQ0 _) (bQ0 _)
   rw[dF0]at t2;refine A8 (cF7 [.val (.list (ts.map lN)),.val .none,.own (nI C'),vI ((N+if(i,U)=M then 1 else 0:Nat):Int),.val (.bool O),vI (i:Int),vI (U:Int),.own (nI l)] (C4 t2) (λh=>?_) (λh=>E2 ?_) ?_)
   .have h:(i,U)=M:=dF6 (An h)
    rw[Ae h];exact C9 (d:=.int ((N+1:Nat):Int)) (EI.to (P3 v3 A7) (by lia)) rfl
   .have h:¬(i,U)=M:=λe=>Ao h (by rw[e])
    rw[Ac h];rfl
   have t3:=dC8 (K:=K) (m:=false) (ρ:=[.val (.list (ts.map lN)),.val .none,.own (nI C'),vI ((N+if(i,U)=M then 1 else 0:Nat):Int),.val (.bool O),vI (i:Int),vI (U:Int),.own (nI l)]) (d:=.list (nI l)) (d':=.list (nI [0,2,1])) (J8 (i:=7) rfl) (EF.e' (K5 (ds:=nI [0,2,1]) (A2 A7 (A2 A7 (A2 A7 A5))))) (aD1 _) (aD1 _)
   rw[dV9]at t3;refine C9 (d:=.bool (O||decide (l=[0,2,1]))) (dI6 v4 λ_=>t3) ⟨.val (.int (U:Int)),.own (nI l),rfl,rfl,rfl⟩
  .rintro _ ⟨D,x7,b6,b7,rfl⟩;rw[K1,bM3];exact⟨_,D,x7,rfl,b6,b7,rfl⟩
 rintro _ ⟨x5,D,x7,b5,b6,b7,rfl⟩;rw[rng_len,Ac8];generalize crL (TT.trn ts) (TT.gps (TT.trn ts) Y.length)=C at odd_iff crlt ⊢;generalize cnL (TT.trn ts) (TT.gps (TT.trn ts) Y.length)=N at cnt ⊢;generalize otL (TT.trn ts) (TT.gps (TT.trn ts) Y.length)=O at out ⊢;have t1:=aD3 (K:=K) (m:=false) (ρ:=[.val (.list (ts.map lN)),.val .none,.own (nI C),vI (N:Int),.val (.bool O),x5,D,x7]) (g:=λi j=>decide (i>j)) (P5 (ds:=nI C) (A2 (J8 (i:=2) rfl) A5)) (A7 (i:=0))
 rw[K1]at t1;refine A8 (O8 (C4 t1) (λh=>?_) (λh=>E2 ?_))
 .have hne:C≠[]:=λe=>by rw[e]at h;cases h
  obtain⟨hm,hle⟩:=TT.bM8 hne;rw[bC1 (crlt _ hm) ((odd_iff _).mpr hm) λq hq=>Bool.eq_false_iff.mpr λz=>by have:=hle q ((odd_iff q).mp z);lia]
  refine E1 (d:=.tuple [.str "land",.int (TT.mn C:Nat)]) (N2 (A2 l3 (A2 (dS1 (l:=cL C) (M:=(TT.mn C:Int)) (A2 (by rw[<- bY6];exact J8 (i:=2) rfl) A5) ⟨Aa8.mpr ⟨_,hm,rfl⟩,λc hc=>?_⟩) A5))) rfl
  obtain⟨x,hx,rfl⟩:=Aa8.mp hc
  have:=hle x hx
  lia
 have hC:C=[]:=by
  have:=Ao h
  exact List.eq_nil_of_length_eq_zero (by lia)
 subst hC;rw[bO1 λp hp=>Bool.eq_false_iff.mpr λz=>by have:=(odd_iff p).mp z;cases this]
 dsimp only
 refine A8 (O8 (C4 (bH0 v3 (P3 (g:=λi j=>i-j) (e_i (C:=CMulB) (g:=λi j=>i*j) (A7 (i:=2)) (EI.to (P5 (ds:=ts.map lN) (A2 v0 A5)) (show((ts.map lN).length:Int)=(Y.length:Int) by rw[Aa3,tl])) ⟨by decide,by rw[Int.natAbs_natCast];exact Dr h10 (by decide)⟩) (A7 (i:=4))))) (λh=>?_) (λh=>E2 ?_))
 .have h:¬(N:Int)=2*(Y.length:Int)-4:=λe=>by rw[Bh e]at h;cases h
  rw[Ae (by lia),cnt]
  exact E1 (d:=.tuple [.str "flat",.int (N:Int)]) (N2 (A2 l3 (A2 v3 A5))) rfl
 have h:(N:Int)=2*(Y.length:Int)-4:=by
  apply Classical.byContradiction
  intro c;rw[Aj c]at h;cases h
 rw[Ac (by lia)]
 cases O with
 | true=>
  rw[Ae (out.mpr rfl)];exact A8 (O8 (b:=false) (aD8 (a:=true) (t_b v4)) (λh=>by cases h) (λh=>E2 (E1 bW0 rfl)))
 | false=>
  rw[Ac (λz=>by have:=out.mp z;cases this)]
  exact A8 (O8 (b:=true) (aD8 (a:=false) (t_b v4)) (λ_=>E1 (d:=.tuple [.str "outer",.int 0]) (N2 (A2 l3 (A2 A7 A5))) rfl) (λh=>by cases h))
end
end K05
namespace L2
open PySem PySem.Spec PyProof.Rows
section
def cJ2:List V->Hp->VK->Prop:=λxs H Q=>∃i:Int,xs=[.int i]/\(-1000000<i/\i<1000000)/\Q (.str (toString i)) H
theorem cN6:R4 X (.type "str") cJ2:=by
 intro y s σ H xs z Q I r ⟨i,e,w,q⟩;subst e;obtain⟨u,rfl,t,rfl⟩:=S0 r;exact str_of_int_fit (N:=1000000) (by split <;> lia) (by decide) λ_=>⟨.str _,H,I.tok _,⟨_,rfl⟩,q⟩
theorem cF2:∀{ys:AH} {us:AG},Vals (ys.map V.str) us->StrsAre us ys
 | [],_,r=>by cases r;exact .nil
 | y::ys,_,r=>by
  rw[Ac7]at r;cases r with
  | cons h t=>
   obtain⟨t',rfl⟩:=h;exact .cons _ _ (cF2 t)
def dC0 (K:Frag)(x:V)(xs:List V)(H:Hp)(Q:VK):Prop:=∃(z:Str) (p:Addr) (ys:AH),x=.str z/\xs=[.ref p]/\SqL K H p (ys.map V.str)/\z.length<=16/\(ys.map (·.length)).sum+ys.length<=1048576/\Q (.str (Txt.join z ys)) H
theorem cH1 (K:Frag)(h:X.K=K:=by rfl):MtR X "str.join" (dC0 K):=by
 subst h;intro U s σ H x xs v M Q I Y r ⟨z,p,N,e,y,j,h1,w,q⟩;subst e y;obtain⟨t,rfl⟩:=Y;obtain⟨u,rfl,rp⟩:=S0 r;cases rp;obtain⟨its,m,c,_⟩:=I.list j;exact join_listW c.isList (by simpa using cF2 m) h1 w λJ k=>⟨.str _,H,I.tok _,⟨_,rfl⟩,q⟩
end
end L2
namespace LV
open PySem L2
def tx (l:AC):Str:=⟨l.toArray⟩
theorem T6 (l:AC):(tx l).length=l.length:=by simp[tx,Str.length]
theorem z5 (a b:AC):tx a++tx b=tx (a++b):=by
 show Str.mk _=Str.mk _
 congr 1
 simp[tx]
theorem eE9:∀v:Nat,v<10->(Str.ofString (toString (v:Int)))=tx [48+v]:=by decide
section
variable {K:Frag}{ρ:List Sl}{m:Bool}{ta tb td:TE}{t:TA}
theorem dY2 {i:Int}(e:A K false t ρ [.int i])(h : -1000000<i/\i<1000000):E K m (tCB cJ2 t) ρ (.str (toString i)):=bV4 e λH vs Q r q=>by
 cases r with
 | cons a b=>
  cases a;cases b
  exact⟨i,rfl,h,q _ λH=>.str _⟩
theorem dZ1 {c:Nat}{n:Int}(e:E K false ta ρ (.str (tx [c])))(w:E K false tb ρ (.int n))(z : -10000<n/\n<10000):E K m (tOp dR9 ta tb) ρ (.str (tx (List.replicate n.toNat c))):=bC6 false false e w λS H x y Q _ k j q=>by
 cases k;cases j
 exact⟨c,n,rfl,rfl,z,q _ H (L2.Same.rf _) (.str _)⟩
theorem aK5 {a b:AC}(e:E K false ta ρ (.str (tx a)))(w:E K false tb ρ (.str (tx b)))(c:a.length+b.length<=10000) :
  E K m (tOp (λx y H Q=>∃i j,x=.str i/\y=.str j/\i.length+j.length<=sizeLine/\Q (.str (i++j)) H) ta tb) ρ (.str (tx (a++b))):=bC6 false false e w λS H x y Q _ z k q=>by
 cases z;cases k
 refine⟨_,_,rfl,rfl,by rw[T6,T6];unfold sizeLine;lia,?_⟩
 rw[z5];exact q _ H (L2.Same.rf _) (.str _)
theorem bW4 {H:Hp}:∀{xs:List V} {zs:AH},Reps K H xs (zs.map PyData.str)->xs=zs.map V.str
 | _,[],r=>by cases r;rfl
 | _,z::zs,r=>by
  rw[Ac7]at r;cases r with
  | cons a b=>cases a;rw[bW4 b];rfl
theorem cX9 {z:Str}{zs:AH}(c:E K false ta ρ (.str z))(j:A K false t ρ [.list (zs.map PyData.str)])(h1:z.length<=16)(k:(zs.map (·.length)).sum+zs.length<=1048576):E K m (tBM K "str" (dC0 K) ta t) ρ (.str (PySem.Txt.join z zs)):=
 E.bor (E.imm (m:=false) λS B σ H o I Q q=>c S B σ H o I _ λx w y X=>by
  cases X
  refine⟨rfl,j S B σ w o (I.grow y) _ λvs e U rs=>?_⟩
  cases rs with
  | cons s Y=>
   cases Y
   cases s with
   | @lst p xs _ sq rr=>
    have sq:SqL K e p xs:=sq
    rw[bW4 rr]at sq;exact⟨z,p,zs,rfl,rfl,sq,h1,k,q _ e (L2.Same.tr y U) (.str _)⟩)
end
end LV
namespace L2
open PySem PySem.Spec PyProof.Rows
section
def Its (x:Str):It:=⟨λi _=>i<x.cps.size,λi H v H'=>H'=H/\∃c,x.cps[i]? = some c/\v=.str ⟨#[c]⟩,λi _=>x.cps.size<=i⟩
theorem cU9 {P:Program}{w:World}{K:Frag}{tg:Expr}(it:Addr)(x:Str)(t:Tok):bF2 P w K tg (Its x) [it] it (λi h=>h.IsStrIter it "str_ascii_iterator" x t i) where
 mem:=by simp
 obj:=λi h y b m=>by
  have e:b=it:=by simpa using m
  subst e;obtain⟨o,e,c,d⟩:=y;exact⟨o,e,λv z=>by rw[d]at z;cases z⟩
 keep:=λi h U y k=>by
  obtain⟨o,e,r⟩:=y;exact⟨o,k it (by simp) o e,r⟩
 item:=by
  intro X D F Q hc i B s σ H E I J y j;subst D F Q;obtain⟨M,f1,f2,f3,N,R⟩:=J it (by simp)
  have j:i<x.cps.size:=j
  refine wpAny_pyNext_ascii_item y (c:=x.cps[i]) (by simp[j]) λU Y sb=>?_
  have I1:Inv X B σ H {s with heap:=U,toks:=s.toks+1}:=I.turned (λb o m e=>(sb.2 b m).trans e) M f1 f3 N R
  obtain⟨o,e,c,d⟩:=id Y;exact⟨_,rfl,cJ4 (s:={s with heap:=U,toks:=s.toks+1}) e c d (by decide) ⟨.str ⟨#[x.cps[i]]⟩,H,I1,⟨_,rfl⟩,⟨rfl,_,by simp[j],rfl⟩,Y,λb m=>(J b m).1⟩⟩
 done:=by
  intro X D F Q hc i B s σ H E I J y j;subst D F Q;obtain⟨M,f1,f2,f3,N,R⟩:=J it (by simp)
  have j:x.cps.size<=i:=j
  exact wpAny_pyNext_ascii_end (I.ok.hd hc) y (by simp;exact j) λU eb=>⟨rfl,I.turned (t':=s.toks) (λb o m e=>eb b o m e) M f1 f3 N R⟩
 self:=λ_ _ _ _ _ y h=>wpAny_pyIter_striter_ascii y h
def eH0 (tl:TE):TI:=λσ H R=>tl σ H λv H1=>∃x:Str,v=.str x/\x.cps.all (· < 128)=true/\R (Its x) H1
theorem cD1 {l:Expr}{tl:TE}(Y:PE X l tl):PI X tg l (eH0 tl):=by
 refine⟨?_⟩;intro j s σ H R I h;refine thn (Y j s σ H _ I h) λv y U=>?_
 obtain⟨x,k,w,M,J⟩:=U;obtain⟨z,e,c,q⟩:=J;subst e;obtain⟨t,rfl⟩:=M;refine wpAny_pyIter_ascii c ?_;refine⟨y.heap.objs.size,[y.heap.objs.size],_,_,k,rfl,w.kept (t':=y.toks) λb o e=>Aa6 _ e,cU9 _ z t,⟨_,Ac3 _ rfl,rfl,rfl⟩,λb m=>?_,q⟩
 have e:b=y.heap.objs.size:=by simpa using m
 subst e;exact w.fpOk (Aa7 _) (w.hok.fresh (Aa7 _))
def dR4:List V->Hp->VK->Prop:=λxs H Q=>∃(x:Str) (n:Int),xs=[.str x]/\PySem.intText? x=some n/\x.length<=640/\Q (.int n) H
theorem cM2:R4 X (.type "int") dR4:=by
 intro z s σ H xs k Q I r ⟨x,n,e,w,y,q⟩;subst e;obtain⟨u,rfl,t,rfl⟩:=S0 r;exact PySem.W.KIN.call_text w y ⟨.int n,H,I.tok _,⟨_,rfl⟩,q⟩
theorem bG9:∀l:List (Str×Tok),Vals ((l.map (·.1)).map V.str) (strValues l)
 | []=>.nil
 | p::l=>.cons ⟨p.2,rfl⟩ (bG9 l)
def dG5:V->List V->Hp->VK->Prop:=λx xs H Q=>∃z y:Str,x=.str z/\xs=[.str y]/\(y.length==0)=false/\z.length+2<=sizeLine/\∀a,H a=none->Q (.ref a) (upd H a (.lst ((Txt.split z y).map V.str)))
theorem bS2:MtR X "str.split" dG5:=by
 intro m s σ H x xs v D Q I R r ⟨z,y,Y,J,U,N,q⟩;subst Y J;obtain⟨t,rfl⟩:=R;obtain⟨u,rfl,t',rfl⟩:=S0 r;have j:∀(l:List (Str×Tok)) (k:Nat),l.map (·.1)=Txt.split z y->EP X m σ Q (.ref s.heap.objs.size) {s with heap:=s.heap.push {cls:=.type "list",data:=.seq (strValues l).toArray},toks:=k}:=λl k e=>by
  refine⟨.ref _,_,I.laid (t':=k) (λb o e=>Aa6 _ e) (Aa7 _) (show ObjOk X.prog X.w _ _ _ (.lst ((Txt.split z y).map V.str)) from⟨?_,strValues l,0,?_,Ac3 _ rfl⟩),rfl,q _ (I.hok.fresh (Aa7 _))⟩
  .rw[Aa3]
   have:=PyProof.Rows.split_le z y
   lia
  .rw[<- e];exact bG9 l
 have M:(Builtin.Str.partsBetween z (Builtin.Str.occurrences z y 0 z.length (z.length+1)) y.length).length<=sizeLine:=by
  have Y:=StrLaws.occ_length_le z y 0 z.length (z.length+1)
  rw[length_partsBetween];lia
 cases h1:(decide (z.length<y.length)||decide (Builtin.Str.strKind z<Builtin.Str.strKind y))
 .cases c:(Builtin.Str.occurrences z y 0 z.length (z.length+1)).isEmpty
  .refine call_meets F.slot_str_split (typeIs_str _ _ _) F.entry_str_split (F.args_str_split_2 _ _) (meets_str_split_sep z y _ _ h1 U c (by lia) M) ?_
   show wants (EP X m σ Q) X.xe _ {s with toks:=_,heap:=s.heap.push {cls:=.type "list",data:=.seq (strsFrom s.toks (Builtin.Str.partsBetween z (Builtin.Str.occurrences z y 0 z.length (z.length+1)) y.length)).toArray}}
   rw[strsFrom_eq];exact j (numbered s.toks _) _ ((numbered_texts _ _).trans ((Ac (ne_true_of_eq_false h1)).trans (Ac (ne_true_of_eq_false c))).symm)
  .exact call_meets F.slot_str_split (typeIs_str _ _ _) F.entry_str_split (F.args_str_split_2 _ _) (meets_str_split_not_found z y _ _ h1 U c) (j [(z,t)] s.toks ((Ac (ne_true_of_eq_false h1)).trans (Ae c)).symm)
 .exact call_meets F.slot_str_split (typeIs_str _ _ _) F.entry_str_split (F.args_str_split_2 _ _) (meets_str_split_cannot_occur z y _ _ h1) (j [(z,t)] s.toks (Ae h1).symm)
end
end L2
namespace LV
open PySem L2
section
variable {K:Frag}{ρ:List Sl}{m:Bool}{ta tb td:TE}{t:TA}
def sgD (l:AC):AF:=l.map λc=>PyData.str (tx [c])
theorem cW7 {l:AC}(h:E K m ta ρ (.str (tx l)))(k:∀c∈l,c<128):I K m (eH0 ta) ρ (sgD l):=λS B σ H o J R q=>h S B σ H o J _ λv z s r=>by
 cases r
 refine⟨_,rfl,?_,q _ z s ⟨λi H _ j=>?_,λi H d _ e=>?_,λi H d x Y _ e y=>?_⟩⟩
 .simpa[tx]using k
 .show(tx l).cps.size<=i
  simpa[tx,sgD]using j
 .show i<(tx l).cps.size
  have:=(Ab0.mp e).1
  simpa[tx,sgD]using this
 .obtain⟨rfl,c,w,rfl⟩:=y;refine⟨L2.Same.rf _,λS X=>?_⟩
  have w:l[i]? = some c:=by simpa[tx]using w
  unfold sgD at e;rw[Aa9,w]at e;cases e;exact .str _
theorem dX8 {x:Str}{n:Int}(e:A K false t ρ [.str x])(w:intText? x=some n)(y:x.length<=640):E K m (tCB dR4 t) ρ (.int n):=bV4 e λH vs Q r q=>by
 cases r with
 | cons a b=>
  cases a;cases b
  exact⟨x,n,rfl,w,y,q _ λH=>.int _⟩
theorem eH5 {i j:Str}(e:E K false ta ρ (.str i))(w:E K false tb ρ (.str j)):E K m (tOp (λx y H Q=>∃i j,x=.str i/\y=.str j/\Q (.bl (!(Builtin.Str.occurrences j i 0 j.length 1).isEmpty)) H) ta tb) ρ (.bool (!(Builtin.Str.occurrences j i 0 j.length 1).isEmpty)):=bC6 false false e w λS H x y Q _ z k q=>by
 cases z;cases k
 exact⟨_,_,rfl,rfl,q _ H (L2.Same.rf _) (.bl _)⟩
theorem bI2 {H:Hp}:∀zs:AH,Reps K H (zs.map V.str) (zs.map PyData.str)
 | []=>.nil
 | z::zs=>.cons (.str _) (bI2 zs)
theorem bS5 {z y:Str}(c:E K false ta ρ (.str z))(s:A K false t ρ [.str y])(Y:(y.length==0)=false)(X:z.length+2<=PySem.sizeLine):EF K (tBM K "str" dG5 ta t) ρ ((Txt.split z y).map PyData.str):=λS B σ H o I Q q=>
 c S B σ H o I _ λx j e M=>by
  cases M
  refine⟨rfl,s S B σ j o (I.grow e) _ λvs N k rs=>?_⟩
  cases rs with
  | cons U J=>
   cases U;cases J
   exact⟨_,_,rfl,rfl,Y,X,λa w=>q a _ _ (L2.Same.tr e (L2.Same.tr k (D4 w))) (S8 (L2.Same.tr e k) w) B6 (bI2 _)⟩
theorem cY4 (c:Nat):∀{a b:AH},a≠[]->b≠[]->(∀p∈a,c∉p.cps.toList)->(∀p∈b,c∉p.cps.toList)->(Str.join ⟨#[c]⟩ a).cps.toList=(Str.join ⟨#[c]⟩ b).cps.toList->a=b:=by
 have j:∀(x y:Str) (r:AH),(Str.join ⟨#[c]⟩ (x::y::r)).cps.toList=x.cps.toList++c::(Str.join ⟨#[c]⟩ (y::r)).cps.toList:=λx y r=>by
  show(x.cps ++ #[c]++(Str.join ⟨#[c]⟩ (y::r)).cps).toList=_
  simp
 have cut:∀{p q u v:AC},c∉p->c∉q->p++c::u=q++c::v->p=q/\u=v:=by
  intro p;induction p with
  | nil=>
   intro q u v hp k e;cases q with
   | nil=>simp at e;exact⟨rfl,e⟩
   | cons z q=>simp at e;exact absurd (by simp[e.1]) k
  | cons x p U=>
   intro q u v hp k e;cases q with
   | nil=>simp at e;exact absurd (by simp[e.1]) hp
   | cons z q=>
    simp at e hp k
    obtain⟨h1,Y⟩:=U hp.2 k.2 e.2;exact⟨by rw[e.1,h1],Y⟩
 have ext:∀{x y:Str},x.cps.toList=y.cps.toList->x=y:=λh=>Str.ext' (Array.toList_inj.mp h)
 intro a;induction a with
 | nil=>intro b h;exact absurd rfl h
 | cons x r U=>
  intro b _ J X w e;cases b with
  | nil=>exact absurd rfl J
  | cons y s=>
   cases r with
   | nil=>
    cases s with
    | nil=>rw[ext (x:=x) (y:=y) e]
    | cons M s=>
     rw[j]at e;have e:x.cps.toList=y.cps.toList++c::_:=e;exact absurd (by rw[e];simp) (X x Af)
   | cons N r=>
    cases s with
    | nil=>
     rw[j]at e;have e:x.cps.toList++c::_=y.cps.toList:=e;exact absurd (by rw[<- e];simp) (w y Af)
    | cons M s=>
     rw[j,j]at e;obtain⟨h1,Y⟩:=cut (X x Af) (w y Af) e;rw[ext h1,U (by simp) (by simp) (λp hp=>X p (Ad4 _ hp)) (λp hp=>w p (Ad4 _ hp)) Y]
theorem cD7 {c:Nat}{ws:AH}(w:ws≠[])(y:∀p∈ws,c∉p.cps.toList):Txt.split (Txt.join ⟨#[c]⟩ ws) ⟨#[c]⟩=ws:=by
 have e:Txt.join ⟨#[c]⟩ ws=Str.join ⟨#[c]⟩ ws:=StrLaws.glued_eq_join _ _
 have h:=StrLaws.join_split (Txt.join ⟨#[c]⟩ ws) ⟨#[c]⟩
 have h1:=PyProof.Rows.split_pos (Txt.join ⟨#[c]⟩ ws) ⟨#[c]⟩
 refine cY4 c (λz=>?_) w (StrLaws.split_free _ c) y (by rw[h,e])
 rw[z]at h1;cases h1
end
end LV
namespace L2
open PySem PySem.Spec PyProof.Rows
section
theorem dK2 (K:Frag){l:Expr}{tl:TE}(e:PE X l tl)(h:X.K=K:=by rfl):PI X tg l (dL0 K tl):=h▸m9 e
theorem cZ8 (K:Frag){T:String}{name:Str}{id:String}{r:V->List V->Hp->VK->Prop}{o e:Expr}{es:AM}{to:TE}{t:TA}{apos cpos:Pos}(pa:PlainAttrs T)(slot:Slot T name id)(j:typeOf (.builtin id)=pure (.type "method_descriptor"))(s:MtR X id r)(ho:PE X o to)(c:PA X (e::es) t)
  (h:X.K=K:=by rfl) (w:attributeBase o name X.env (eval o X.env)=eval o X.env:=by rfl)
  (k:((backTo cpos (starEach (e::es) X.env)).all (λx => !x.1)&&(backToKw cpos (keywordEach [] X.env)).all (λx=>x.1.isSome)
   && decide ((e::es).length+([]:List Keyword).length+(if([]:List Keyword).isEmpty then 0 else 1)<30))=true:=by rfl)
  (z:(apos.endLine==cpos.line)=true:=by rfl) (m:starEach (e::es) X.env=(false,eval e X.env)::starEach es X.env:=by rfl) (y:(backTo cpos (starEach es X.env)).any (·.1)=false:=by rfl) :
  PE X (.Call (.Attribute o name apos) (e::es) [] cpos) (tBM K T r to t):=h▸N3 pa slot j s ho c w k z m y
end
end L2
namespace LV
open PySem L2
theorem dH3 (l:AC):Txt.join (tx []) (l.map λc=>tx [c])=tx l:=by
 unfold Txt.join;rw[PySem.StrLaws.glued_eq_join];induction l with
 | nil=>rfl
 | cons c l e=>
  cases l with
  | nil=>rfl
  | cons d l=>
   show tx [c]++tx []++Str.join (tx []) ((d::l).map λc=>tx [c])=_
   rw[e,z5,z5];rfl
def wd (l:AC):AC:=l.map (48 + ·)
def txL:AA->AC
 | []=>[]
 | [l]=>wd l
 | l::l'::L=>wd l++32::txL (l'::L)
theorem dI4 (L:AA):Txt.join (tx [32]) (L.map λl=>tx (wd l))=tx (txL L):=by
 unfold Txt.join;rw[PySem.StrLaws.glued_eq_join];induction L with
 | nil=>rfl
 | cons l L y=>
  cases L with
  | nil=>rfl
  | cons e L=>
   show tx (wd l)++tx [32]++Str.join (tx [32]) ((e::L).map λl=>tx (wd l))=_
   rw[y,z5,z5];show tx (wd l++[32]++txL (e::L))=tx (wd l++32::txL (e::L));rw[Ad7];rfl
theorem dT0 {l:AC}(h:∀v∈l,v<10):∀c∈wd l,c<128:=λc e=>by
 obtain⟨v,y,rfl⟩:=Aa8.mp e
 have:=h v y
 lia
theorem cS7:∀{L:AA},(∀l∈L,∀v∈l,v<10)->∀c∈txL L,c<128
 | [],_,c,hc=>by cases hc
 | [l],h,c,hc=>dT0 (h l Af) c hc
 | l::l'::L,h,c,hc=>by
  rcases Aa0.mp hc with hc | hc
  .exact dT0 (h l Af) c hc
  .rcases Aa1.mp hc with rfl | hc
   .decide
   .exact cS7 (λl hl=>h l (Ad4 _ hl)) c hc
theorem cI9 {k:Nat}:∀{L:AA},(∀l∈L,l.length<=k)->(txL L).length<=L.length*(k+1)
 | [],_=>Bv _
 | [l],h=>by
  have:=h l Af
  show(wd l).length<=_
  unfold wd;rw[Aa3];simp;lia
 | l::l'::L,h=>by
  have h1:=h l Af
  have y:=cI9 (k:=k) (L:=l'::L) λl e=>h l (Ad4 _ e)
  show(wd l++32::txL (l'::L)).length<=_
  unfold wd at *;rw[Ab7,Aa3,Al,Al,Nat.add_mul]
  lia
theorem cW0 {l:AC}(h:∀c∈l,c<128):Fit (.str (tx l)):=by
 refine⟨?_,by simp[PyData.depth]⟩
 show PyData.strOk (tx l)=true
 unfold PyData.strOk tx;simp only[List.all_toArray,Ac9];intro c e
 have:=h c e
 simp;lia
theorem cR7:∀v:Nat,v<10->intText? (tx [48+v])=some (v:Int):=by decide +kernel
section
variable {K:Frag}{ρ:List Sl}{m:Bool}{ta tb td:TE}{t:TA}
theorem U4 {x y:Str}(h:x=y):E K m (tC (.str x)) ρ (.str y):=h▸l3
theorem cI2 {z:AC}{i:Int}{c:Nat}(e:E K false ta ρ (.str (tx z)))(w:E K false tb ρ (.int i))(Y:z.length<=10000)(k:atI z i=some c):E K m (tOp (rIx K) ta tb) ρ (.str (tx [c])):=bC6 false false e w λS H x y Q _ j s q=>by
 cases j;cases s
 exact .inr (.inr ⟨tx z,i,c,rfl,rfl,by rw[T6];unfold sizeLine;lia,by simpa[tx]using k,q _ H (L2.Same.rf _) (.str _)⟩)
end
end LV
namespace L2
open PySem PySem.Spec PyProof.Rows
section
def dR3:V->List V->Hp->VK->Prop:=λx xs H Q=>∃z y:Str,x=.str z/\xs=[.str y]/\Q (.int (Txt.find z y)) H
theorem dN0:MtR X "str.find" dR3:=by
 intro c s σ H x xs v m Q I k r ⟨z,y,e,w,q⟩;subst e w;obtain⟨t,rfl⟩:=k;obtain⟨u,rfl,j,rfl⟩:=S0 r;exact call_gives F.slot_str_find (typeIs_str _ _ _) F.entry_str_find (F.args_str_find_2 _ _) (gives_str_find z y t j) ⟨.int _,H,I.tok _,⟨_,rfl⟩,q⟩
end
end L2
namespace LV
open PySem PySem.Spec PyProof.Rows L2
section
variable {K:Frag}{B:Hp}{ρ ρ':List Sl}{m:Bool}{tA:TA}{ta:TE}{d:PyData}{ds:AF}{pre:AF->PyData->Prop}{preX:AF->Addr->List (Str×PyData)->Prop}
theorem dT9 {z y:Str}(j:E K false ta ρ (.str z))(c:A K false tA ρ [.str y]):E K m (tBM K "str" dR3 ta tA) ρ (.int (Txt.find z y)):=
 E.bor (E.imm (m:=false) λS B σ H o I Q q=>j S B σ H o I _ λx w e X=>by
  cases X
  refine⟨rfl,c S B σ w o (I.grow e) _ λvs k U rs=>?_⟩
  cases rs with
  | cons s Y=>
   cases s;cases Y
   exact⟨z,y,rfl,rfl,q _ k (L2.Same.tr e U) (.int _)⟩)
theorem dK3 {EK:XK}{R:AE}(j:A K true tA ρ ds)
  (X:(∃d,pre ds d/\R.rt d)\/∃(CE:Addr) (gs:List (Str×PyData)),preX ds CE gs/\∀(H':Hp) (dd:AK) (vs:List (Str×V)),Same B H'->XdA H' vs dd->FdF K H' vs gs->EK (.ref CE) dd H') :
  WB K B (dE0 (aO9 (spF K pre preX) [] EK tA)) ρ R:=λS D σ H o I s=>j S B σ H o I _ λvs J U r=>by
 have e:=I.grow U
 refine⟨_,D6 ρ o S,e.lists,by rw[Bm];exact r,?_⟩
 rcases X with⟨d,hp,c⟩ | ⟨CE,gs,hp,Y⟩
 .exact .inl ⟨d,hp,λv H' y r=>s.rt v d H' (L2.Same.tr e.base y) (r.mono (F4 (L2.Same.rf _) λb z _=>.inl z)) c⟩
 .exact .inr ⟨CE,gs,hp,λH' dd vs y w k=>Y H' dd vs (L2.Same.tr e.base y) w k⟩
theorem dU4 {wi:TI}{g:TG}{tb:TS}{R:AE}(hi:I K true wi ρ ds)(P:Nat->List Sl->Prop)(h0:P 0 ρ)
  (turn:∀B',Same B B'->∀i d ρ',ds[i]? = some d->P i ρ'->∃ρ'',G K true g d ρ' ρ''/\WB K B' tb ρ'' {R with nx:=P (i+1),ct:=P (i+1),bk:=R.nx}) (hn:∀ρ',P ds.length ρ'->R.nx ρ'):WB K B (dV8 wi g tb) ρ R:=λS D σ H o I0 s=>
 hi S B σ H o I0 _ λJ H1 s1 wk=>by
  obtain⟨I1,U⟩:=(I0.grow s1).rebase;generalize hB:hid (cO4 ρ o) H1=B' at I1 U;have sz:Same (hid (D6 ρ o S) H1) B':=λb x q=>by
   obtain⟨q1,q2⟩:=hid_some.mp q;rw[<- hB];exact hid_some.mpr ⟨λz=>q1 (.inr z),q2⟩
  refine⟨λi m σ' H'=>i<=ds.length/\m=ds.length-i/\∃ρ' N,Env K S B' H' σ' ρ' N/\P i ρ',⟨_,Bv _,rfl,ρ,o,I1,h0⟩,?_⟩
  rintro i k σ' H' ⟨hl,rfl,ρ',N,Y,p⟩;have zH:=L2.Same.tr sz Y.base;by_cases c:i=ds.length
  .subst c;exact .inl ⟨wk.stop _ _ zH (Aa7 _),s.nx ρ' σ' H' N ⟨Y.len,L2.Same.tr U Y.base,λb z=>(I0.sl b z),λi ds z hz b F=>S8 U (Y.new i ds z hz b F),Y.inj,Y.own,Y.val,Y.bor,Y.tr⟩ (hn ρ' p)⟩
  .have hlt:i<ds.length:=by lia
   have hd:ds[i]? = some ds[i]:=Aa2 hlt
   obtain⟨ρ'',hg,F⟩:=turn B' U i ds[i] ρ' hd p;refine .inr ⟨wk.go _ _ _ zH hd,λσ2 H2=>∃ρ2 o2,Env K S B' H2 σ2 ρ2 o2/\P (i+1) ρ2,λσ2 H2 ⟨ρ2,o2,I2,p2⟩=>⟨_,by lia,hlt,rfl,ρ2,o2,I2,p2⟩,λx Q hy=>?_⟩
   obtain⟨s2,hx⟩:=wk.yld _ _ _ _ _ zH hd hy;have rx:=hx (D6 ρ' N S) λb z=>by
    obtain⟨ys,y⟩:=Y.lists b z;refine⟨?_,by rw[y];simp⟩
    rcases z with z | ⟨j,es,h',hy,e'⟩
    .unfold vw hid;exact Ae (.inl z)
    .exact S8 sz (Y.new j es h' hy b e')
   refine hg.2 S B' σ' Q N (Y.grow s2) x rx _ λσ2 I2=>F S _ σ2 Q N I2 ⟨λρ3 σ3 M o3 X w=>⟨ρ3,o3,X,w⟩,λv d M a b w=>s.rt v d M (L2.Same.tr U a) b w,λp xs es M a b c e w=>s.rl p xs es M (L2.Same.tr U a) (S8 U b) c e w,
    λρ3 σ3 M o3 X w=>s.nx ρ3 σ3 M o3 ⟨X.len,L2.Same.tr U X.base,λb z=>(I0.sl b z),λi ds z hz b F=>S8 U (X.new i ds z hz b F),X.inj,X.own,X.val,X.bor,X.tr⟩ w,λρ3 σ3 M o3 X w=>⟨ρ3,o3,X,w⟩⟩
end
end LV
namespace LV
open PySem L2
def wrd:AC->AA
 | []=>[[]]
 | c::l=>if c=32 then []::wrd l else match wrd l with
  | []=>[[c]]
  | w::ws=>(c::w)::ws
theorem cC5:∀l,wrd l≠[]
 | []=>by simp[wrd]
 | c::l=>by
  unfold wrd;split
  .simp
  .split <;> simp
theorem bC5 {c:Nat}{l:AC}(h:c≠32):∃w ws,wrd l=w::ws/\wrd (c::l)=(c::w)::ws:=by
 cases e:wrd l with
 | nil=>exact absurd e (cC5 l)
 | cons w ws=>exact⟨w,ws,rfl,by rw[wrd,Ac h,e]⟩
theorem bZ7 (l:AC):wrd (32::l)=[]::wrd l:=by rw[wrd,Ae rfl]
theorem bV6:∀l,Str.join (tx [32]) ((wrd l).map tx)=tx l
 | []=>rfl
 | c::l=>by
  have z:=bV6 l
  by_cases h:c=32
  .subst h;rw[bZ7];obtain⟨w,y,e⟩:=List.exists_cons_of_ne_nil (cC5 l);rw[e]at z ⊢;show tx []++tx [32]++Str.join (tx [32]) ((w::y).map tx)=_;rw[z,z5,z5];rfl
  .obtain⟨w,y,e,k⟩:=bC5 (l:=l) h;rw[k];rw[e]at z
   have:Str.join (tx [32]) (((c::w)::y).map tx)=tx [c]++Str.join (tx [32]) ((w::y).map tx):=by
    cases y with
    | nil=>show tx (c::w)=tx [c]++tx w;rw[z5];rfl
    | cons v y=>
     show tx (c::w)++tx [32]++Str.join (tx [32]) ((v::y).map tx)=tx [c]++(tx w++tx [32]++Str.join (tx [32]) ((v::y).map tx))
     generalize Str.join (tx [32]) ((v::y).map tx)=J;refine Str.ext' ?_;show(tx (c::w)).cps++(tx [32]).cps++J.cps=(tx [c]).cps++((tx w).cps++(tx [32]).cps++J.cps);refine Array.toList_inj.mp ?_
     simp[tx]
   rw[this,z,z5];rfl
theorem bN2 (p:Nat->Prop):∀l,(∀c∈l,c≠32->p c)->∀w∈wrd l,w.length<=l.length/\∀c∈w,c≠32/\p c
 | [],_,w,hw=>by
  have:w=[]:=by simpa[wrd]using hw
  subst this;exact⟨Aa7 _,λc y=>by cases y⟩
 | c::l,h,w,hw=>by
  have k:=bN2 p l λc y=>h c (Ad4 _ y)
  by_cases y:c=32
  .subst y;rw[bZ7]at hw;rcases Aa1.mp hw with rfl | hw
   .exact⟨Bv _,λc y=>by cases y⟩
   .obtain⟨h1,z⟩:=k w hw;exact⟨by rw[Al];lia,z⟩
  .obtain⟨v,s,e,j⟩:=bC5 (l:=l) y;rw[j]at hw;rw[e]at k;rcases Aa1.mp hw with rfl | hw
   .obtain⟨h1,z⟩:=k v Af;refine⟨by rw[Al,Al];lia,λx hx=>?_⟩
    rcases Aa1.mp hx with rfl | hx
    .exact⟨y,h _ Af y⟩
    .exact z x hx
   .obtain⟨h1,z⟩:=k w (Ad4 _ hw);exact⟨by rw[Al];lia,z⟩
theorem aW2:∀l,(wrd l).length<=l.length+1
 | []=>Aa7 _
 | c::l=>by
  have ih:=aW2 l
  by_cases h:c=32
  .subst h;rw[bZ7,Al,Al];lia
  .obtain⟨w,ws,e,e2⟩:=bC5 (l:=l) h;rw[e2,Al,Al];rw[e,Al]at ih
   lia
theorem bL0 (l:AC):Txt.split (tx l) (tx [32])=(wrd l).map tx:=by
 have e:Txt.join (tx [32]) ((wrd l).map tx)=tx l:=by
  unfold Txt.join;rw[PySem.StrLaws.glued_eq_join,bV6]
 have:=cD7 (c:=32) (ws:=(wrd l).map tx) (λz=>cC5 l (List.map_eq_nil_iff.mp z)) λp hp=>?_
 .have this:Txt.split (Txt.join (tx [32]) ((wrd l).map tx)) (tx [32])=_:=this
  rw[e]at this;exact this
 .obtain⟨w,y,rfl⟩:=Aa8.mp hp;intro z;exact((bN2 (λ_=>True) l (λ_ _ _=>trivial) w y).2 32 (by simpa[tx]using z)).1 rfl
def fgB (c:Nat):Bool:=decide (48<=c/\c<=57)
def isW (w:AC):Bool := !w.isEmpty&&w.all fgB
def bad (l:AC):Option Nat:=(wrd l).findIdx? λw => !isW w
def trd (w:AC):AD:=w.map λ(c:Nat)=>(c:Int)-48
def usT (l:AC):AB:=(wrd l).map trd
theorem eE5:∀c:Nat,c<128->(!(Builtin.Str.occurrences (tx [48,49,50,51,52,53,54,55,56,57]) (tx [c]) 0 (tx [48,49,50,51,52,53,54,55,56,57]).length 1).isEmpty)=fgB c:=by decide +kernel
theorem dH2:∀c:Nat,c<128->Txt.find (tx [48,49,50,51,52,53,54,55,56,57]) (tx [c])=if fgB c=true then(c:Int)-48 else -1:=by decide +kernel
theorem dI7 {c:Nat}(h:fgB c=true):intText? (tx [c])=some ((c:Int)-48):=by
 have h:48<=c/\c<=57:=An h
 have:=cR7 (c-48) (by lia)
 rw[show 48+(c-48)=c by lia]at this
 rw[this]
 congr 1
 lia
def fnd (c:Nat):Int:=if fgB c=true then(c:Int)-48 else -1
theorem dN7 (w:AC):(decide ((w.map fnd).length=0)||(w.map fnd).contains (-1)) = !isW w:=by
 cases w with
 | nil=>rfl
 | cons c w=>
  have y:∀v:AC,(v.map fnd).contains (-1) = !v.all fgB:=λv=>by
   induction v with
   | nil=>rfl
   | cons x v z=>
    rw[Ac7,List.contains_cons,z,List.all_cons];cases e:fgB x with
    | false=>simp[fnd,e]
    | true=>
     have h:48<=x/\x<=57:=An e
     have:((-1:Int)==fnd x)=false:=by
      unfold fnd;rw[Ae e];simp only[beq_eq_false_iff_ne,ne_eq]
      lia
     rw[this];rfl
  rw[y];rfl
theorem dW2 {w:AC}(h:isW w=true):w.map fnd=trd w:=by
 unfold isW at h;rw[Bu,Ac9]at h;unfold trd;refine Av λc e=>?_
 unfold fnd;rw[Ae (h.2 c e)]
theorem dH4 (w:AC):(trd w).length=w.length:=by unfold trd;rw[Aa3]
end LV
set_option maxHeartbeats 1000000
namespace K05
open PySem L2 LV PyProof.Rows
theorem bC0:C3 ["self", "at"] ["self", "at"] (B1 Q0):={}
theorem aV5:C3 ["word"] ["word"] (B1 Z9):={}
theorem bP1:C3 ["word"] ["word"] (B1 aD7):={}
theorem S9:C3 ["text", "words", "k", "word"] ["text"] (B1 Z4):={}
def Ln (n:Nat)(l:AC):Prop:=l.length<=n/\∀c∈l,c<128
def eJ2 (ds:AF)(d:PyData):Prop:=∃w,Ln 150 w/\ds=[.str (tx w)]/\d=.bool (isW w)
def eB6 (ds es:AF):Prop:=∃w,Ln 150 w/\isW w=true/\ds=[.str (tx w)]/\es=(trd w).map PyData.int
def fIs:PyData->Option PyData
 | .str x=>some (.bool (fgB (x.cps.toList.headD 0)))
 | _=>none
theorem dI0 (w:AC):(sgD w).filterMap fIs=(w.map fgB).map PyData.bool:=by
 unfold sgD;rw[Ae3,Ar,<- List.filterMap_eq_map];exact S7 λx _=>rfl
def fRd:PyData->Option PyData
 | .str x=>some (.int (((x.cps.toList.headD 0:Nat):Int)-48))
 | _=>none
theorem dN8 (w:AC):(sgD w).filterMap fRd=(trd w).map PyData.int:=by
 unfold sgD trd;rw[Ae3,Ar,<- List.filterMap_eq_map];exact S7 λx _=>rfl
def fRw:PyData->Option PyData
 | .str x=>some (lI (trd x.cps.toList))
 | _=>none
theorem dI1 (L:AA):((L.map tx).map PyData.str).filterMap fRw=(L.map trd).map lI:=by
 rw[Ae3,Ar,Ae3,<- List.filterMap_eq_map];exact S7 λx _=>rfl
theorem bN9 (w:AC):(!PyData.eqv (.str (tx w)) (.str (tx []))) = !w.isEmpty:=by
 cases w with
 | nil=>simp[PyData.eqv]
 | cons v l=>
  show(!PyData.eqv (.str (tx (v::l))) (.str (tx [])))=true
  simp only[PyData.eqv];rw[Bool.not_eq_true'];refine beq_eq_false_iff_ne.mpr λz=>?_
  have:=congrArg Str.length z
  rw[T6,T6]at this;cases this
theorem Ln.wrd {n:Nat}{l:AC}(h:Ln n l):∀w∈wrd l,Ln n w:=λw z=>by
 obtain⟨h1,y⟩:=bN2 (λc=>c<128) l (λc e _=>h.2 c e) w z
 exact⟨Ax h1 h.1,λc e=>(y c e).2⟩
theorem Ln.bd {l:AC}(h:Ln 150 l):Bd (usT l):=by
 refine⟨?_,λu e=>?_⟩
 .unfold usT;rw[Aa3]
  have:=aW2 l
  have:=h.1
  lia
 .obtain⟨w,y,rfl⟩:=Aa8.mp e;rw[dH4];exact(h.wrd w y).1
theorem bD4 {l:AC}(h:bad l=none):∀w∈wrd l,isW w=true:=λw e=>by
 have:=(List.findIdx?_eq_none_iff.mp h) w e
 simpa using this
theorem o8 {l:AC}{k:Nat}(h:bad l=some k):∃w,(wrd l)[k]? = some w/\isW w=false/\∀j w',j<k->(wrd l)[j]? = some w'->isW w'=true:=by
 obtain⟨s,h1,z⟩:=List.findIdx?_eq_some_iff_getElem.mp h;refine⟨_,Aa2 s,by simpa using h1,λj w' c e=>?_⟩
 have:=z j c
 have y:=(Ab0.mp e).2
 rw[y]at this;simpa using this
def dOk (us:AB):PyData:=.tuple (((tsN us).map TT.M5).map tN)
def dQ9 (ds:AF)(d:PyData):Prop:=∃l,Ln 150 l/\bad l=none/\ft (usT l)=none/\ds=[.str (tx l)]/\d=dOk (usT l)
def dU9 (CT CN:Addr)(ds:AF)(C:Addr)(fs:List (Str×PyData)):Prop:=∃l,Ln 150 l/\ds=[.str (tx l)]/\((∃k:Nat,bad l=some k/\C=CT/\fs=[(("at" : Str),PyData.int (k:Int))])\/∃(wd:Str) (k:Nat),bad l=none/\ft (usT l)=some (wd,k)/\C=CN/\fs=[(("word" : Str),PyData.str wd),(("at" : Str),PyData.int (k:Int))])
theorem dO4 {K:Frag}{ds:AF}{t:TS}{N:AH}{vs:List V}{S:Addr->Prop}{H:Hp}{Q:VK}(Z:PyData->Prop)(y:∀b,S b->∃u:HM,H b=some u.ho)(r:Reps K (hid S H) vs ds)(w:WB K H t (sl0 N.length ds) {nx:=λ_=>False,rt:=Z})
  (k:∀d,Z d->∀v H',Same H H'->Rep K (hid S H') v d->Q v H'):t {nx:=λ_ H'=>Q .non H',rt:=Q} (L2.S5 N vs) H:=
 w S _ _ H _ (env0 y r) ⟨λY X H' m c z=>z.elim,λv e H' s j z=>k e z v H' s j,λ_ _ _ _ _ _ _ _ z=>z.elim,λ_ _ _ _ _ z=>z.elim,λ_ _ _ _ _ z=>z.elim⟩
section
variable {P:Program}{w:World}{K:Frag}{mg:Str->Option Value}{base:Heap}{a:Ad}
theorem bS1 (T:Tx K mg a):J0 P w K mg base CX0 1 a.L4 a.n9 ["self", "at"] (dN2 a.C0 ["at"]):=by
 refine T.bF3.ok bC0 (λvs H Q E ⟨x,xs,e,k,_⟩=>by rw[e,Al,k];rfl) (λm A outer s H vs Q E X h=>?_)
 obtain⟨x,xs,rfl,k,j,q⟩:=h
 match xs,k with
 | [v],_=>
  obtain⟨c,cl⟩:=T.R5.cl;refine⟨_,(A3 (G7 (bB8 PySem.F.excBase_ValueError K rfl T.aA2 T.aG9 (A0 (pv 0) (A0 (pv 1) A1)))) (A6 (cE7 (pv 0) (pv 1)))),?_⟩;refine⟨.ref x,rfl,v,rfl,x,a.C0,none,[v],rfl,j,T.R5.ek,by simp,?_⟩
  refine⟨v,rfl,.ref x,rfl,x,a.C0,c,rfl,j,cl,T.U5,λdx z y=>q dx _ z y B6 ?_ λb h1 Y=>?_⟩
  .rw[B4 y];exact B6
  .rw[B4 h1,B4 Y]
theorem eK1 (T:Tx K mg a):J0 P w K mg base CX0 1 a.aC5 a.aD4 ["word"] (spV K eJ2):=by
 obtain⟨y,N⟩:=T.t5;refine T.aE0.F.ok aV5 (W7 (by rintro ds d ⟨_,_,rfl,_⟩;rfl)) (λX A outer s H vs Q E M h=>?_)
 obtain⟨ds,S,d,U,r,⟨l,⟨R,k⟩,rfl,rfl⟩,q⟩:=h;refine⟨_,(A6 (B7 (bL3 (R9 (cC7 K M) (pv 0) L5 (C6 _)) (aJ2 (B5 (aF1 K rfl) (by rfl) T.bI7 boot_all (A0 (L9 (T:=["sign"]) (N':=["sign"]) (is:=[]) rfl (.of rfl rfl rfl (by exact trivial) rfl rfl rfl (by exact trivial)) (cD1 (pv 0)) (K2 (by decide)) λ_ _ _ _=>⟨(F1 (i:=0) (by decide +kernel:(["sign"]:AH).Nodup) rfl (Or.inl rfl)),G4,(R9 cO0 (pv 0) (N6 (v:=.str "0123456789") rfl N ⟨y,rfl⟩) rfl)⟩) A1)))))),L6 U r ?_ q⟩
 refine E1 (cK7 (a := !PyData.eqv (.str (tx l)) (.str (tx []))) (b:=(l.map fgB).all id) (cL2 v0 (U4 rfl) (cW0 k) (cW0 (λc z=>by cases z))) λ_=>cL7 (l:=l.map fgB) (A2 (EF.e' (EF.to (G8 (m:=true) fIs (cW7 (l:=l) v0 k) (by unfold sgD;rw[Aa3];unfold sizeLine;lia) λd Y=>?_) (dI0 l))) A5)) ?_
 .unfold sgD at Y;obtain⟨c,J,rfl⟩:=Aa8.mp Y;refine⟨_,B9,U3,?_⟩;have e:=eH5 (K:=K) (m:=true) (i:=tx [c]) (j:=tx [48,49,50,51,52,53,54,55,56,57]) (ρ:=[.val (.str (tx [c]))]) (ta:=F0 0) (tb:=tC (.str "0123456789")) v0 (U4 (by first | rfl | decide))
  rw[eE5 c (k c J)]at e;exact e
 .rw[bN9,List.all_map];rfl
theorem eA1 (T:Tx K mg a):J0 P w K mg base CX0 1 a.aV0 a.aT4 ["word"] (spL K eB6):=by
 refine T.aV2.F.ok bP1 (cQ3 (by rintro ds d ⟨_,_,_,rfl,_⟩;rfl)) (λz A outer s H vs Q E M h=>?_)
 obtain⟨ds,S,U,k,r,⟨l,⟨J,X⟩,e,rfl,rfl⟩,q⟩:=h;refine⟨_,(A6 (B7 (L9 (T:=["sign"]) (N':=["sign"]) (is:=[]) rfl (.of rfl rfl rfl (by exact trivial) rfl rfl rfl (by exact trivial)) (cD1 (pv 0)) (K2 (by decide)) λ_ _ _ _=>⟨(F1 (i:=0) (by decide +kernel:(["sign"]:AH).Nodup) rfl (Or.inl rfl)),G4,(L7 cM2 (by rfl) T.bU0 boot_int (A0 (pv 0) A1))⟩))),aR9 k r ?_ q⟩
 refine bQ2 (EF.to (G8 (m:=true) fRd (cW7 (l:=l) v0 X) (by unfold sgD;rw[Aa3];unfold sizeLine;lia) λd y=>?_) (dN8 l)) rfl
 unfold sgD at y;obtain⟨c,j,rfl⟩:=Aa8.mp y;have Y:fgB c=true:=by
  unfold isW at e;rw[Bu,Ac9]at e;exact e.2 c j
 exact⟨_,B9,U3,dX8 (A2 v0 A5) (dI7 Y) (by rw[T6];exact(show 1<=640 by decide))⟩
theorem eB7 (T:Tx K mg a):J0 P w K mg base (CXd P w) 7 a.aC7 a.aC3 ["text"] (spF K dQ9 (dU9 a.C0 a.A9)):=by
 have c := @eK1 P w K mg base a T
 have X := @eA1 P w K mg base a T
 have J:J0 P w K mg base (CXd P w) 6 _ _ _ _:=eH2 T
 have Y := @bS1 P w K mg base a T
 refine T.V3.F.okD S9 (cN5 (λds d ⟨_,_,_,_,e,_⟩=>by rw[e];rfl) λds C fs ⟨_,_,e,_⟩=>by rw[e];rfl) (λcdv A outer s H vs Q E hr h=>?_)
 obtain⟨ds,S,hS,r,z⟩:=h;obtain⟨l,hl,rfl,qv,qt,qd⟩:∃l,Ln 150 l/\ds=[.str (tx l)]/\(bad l=none->ft (usT l)=none->∀v U,Same H U->Rep K (hid S U) v (dOk (usT l))->Q v U)/\(∀k:Nat,bad l=some k->∀(U:Hp) (D:AK) (vs:List (Str×V)),Same H U->XdA U vs D->FdF K U vs [(("at" : Str),PyData.int (k:Int))]->E (.ref a.C0) D U)/\(∀(wd:Str) (k:Nat),bad l=none->ft (usT l)=some (wd,k)->∀(U:Hp) (D:AK) (vs:List (Str×V)),Same H U->XdA U vs D->FdF K U vs [(("word" : Str),PyData.str wd),(("at" : Str),PyData.int (k:Int))]->E (.ref a.A9) D U):=by
  rcases z with⟨d,⟨l,h1,N,R,h4,rfl⟩,q⟩ | ⟨C,fs,⟨l,h1,N,⟨k,R,rfl,rfl⟩ | ⟨wd,k,R,h4,rfl,rfl⟩⟩,q⟩
  .exact⟨l,h1,h4,λ_ _=>q,λk e=>(nomatch N.symm.trans e),λwd k _ e=>(nomatch R.symm.trans e)⟩
  .exact⟨l,h1,N,λe=>(nomatch R.symm.trans e),λk' e=>(by cases R.symm.trans e;exact q),λwd k e=>(nomatch R.symm.trans e)⟩
  .exact⟨l,h1,N,λ_ e=>(nomatch h4.symm.trans e),λk' e=>(nomatch R.symm.trans e),λwd' k' _ e=>(by cases h4.symm.trans e;exact q)⟩
 refine⟨_,(A3 (psS 1 S9 (N3 PySem.F.plainAttrs_str PySem.F.slot_str_split PySem.F.type_str_split bS2 (pv 0) (A0 L5 A1)))
   (A3 (G6 PassesOwn.leaving rfl (bU7 K rfl T.X3 (A0 (pv 1) A1)) (aZ6 (n:=2) rfl (S6 (pgN 2 S9) (S6 (pgN 3 S9) aP5))) (A6 (G9 (aA1 (V1 (pcl c hr T.aE0 (A0 (pv 3) A1)))) (A6 (bJ1 T.R5.mke T.R5.kp Y (hr.mono (by decide)) rfl T.aZ7 T.aI3 .nil bX3 rfl (A0 (pv 2) A1) λ_ _ _ _ _ _ I hy e q=>cF3 I hy e q)) C5)))
   (A6 (B7 (cH4 J (hr.mono (by decide)) rfl T.aF0.m T.aF0.F.kp T.aF0.b .nil eD6 (A0 (L9 (T:=["word"]) (N':=["word"]) (is:=[]) rfl (.of rfl rfl rfl (by exact trivial) rfl rfl rfl (by exact trivial)) (T3 (pv 1)) (K2 (by decide)) λ_ _ _ _=>⟨(F1 (i:=0) (by decide +kernel:(["word"]:AH).Nodup) rfl (Or.inl rfl)),G4,(pcl X hr T.aV2 (A0 (pv 0) A1))⟩) A1)))))),dO4 (λd=>bad l=none/\ft (usT l)=none/\d=dOk (usT l)) hS r ?_ (by rintro d ⟨h1,N,rfl⟩;exact qv h1 N)⟩
 have hl1:=hl.1
 have hwl:=aW2 l
 refine bA5 (W.wb (K6 (ds:=((wrd l).map tx).map PyData.str) (EF.to (bS5 (z:=tx l) (y:=tx [32]) v0 (A2 (U4 (by decide)) A5) rfl (by rw[T6];unfold sizeLine;lia)) (by rw[bL0])) ?_ (show 1<4 by decide)))
 refine LV.cV9 (i:=1) rfl ?_;refine bA5 (dU4 (cG6 (ds:=((wrd l).map tx).map PyData.str) (A2 v1 A5)) (λi ρ=>(∀k,bad l=some k->i<=k)/\∃x2 x3,ρ=[.val (.str (tx l)),.val (.list (((wrd l).map tx).map PyData.str)),x2,x3]) ⟨λ_ _=>Bv _,.no,.no,rfl⟩ ?_ ?_)
 .rintro B' sb i d _ hd ⟨hb,x2,x3,rfl⟩;obtain⟨y,hy,rfl⟩:=aJ5 hd;rw[Aa9,Aa9]at hy;obtain⟨y',hy',rfl⟩:=Ba.mp hy;obtain⟨wd,M,rfl⟩:=Ba.mp hy';have hw:=Bf M;refine⟨_,bT4 (X2 B9 (X2 B9 aX9)),?_⟩;refine dT1 (b := !isW wd) (aD8 (t_b (G1 (A2 v3 A5) ⟨wd,hl.wrd wd hw,rfl,rfl⟩))) (λh=>?_) (λh=>W.wb (E2 ⟨λk e=>?_,_,_,rfl⟩))
  .have hwf:isW wd=false:=by simpa using h
   have hk:bad l=some i:=by
    unfold bad;refine List.findIdx?_eq_some_iff_getElem.mpr ⟨(Ab0.mp M).1,?_,λj hj=>?_⟩
    .rw[(Ab0.mp M).2];exact h
    .have hjl:j<(wrd l).length:=by have:=(Ab0.mp M).1;lia
     intro z;cases e:bad l with
     | none=>
      have:=bD4 e wd hw
      rw[this]at hwf;cases hwf
     | some k=>
      have h1:=hb k e
      obtain⟨_,_,_,R⟩:=o8 e
      have:=R j _ (by lia) (Aa2 hjl)
      rw[this]at z;cases z
   exact bG4 (ds:=[.int (i:Int)]) (A2 v2 A5) rfl (λd hd=>by simp at hd;rcases hd with rfl;rfl) (show 1<=1000 by decide) λU dx vs s' e1 e2=>qt i hk U (some dx) vs (L2.Same.tr sb s') e1 e2
  .have h1:=hb k e
   obtain⟨w',e3,e4,_⟩:=o8 e;rcases Bq i k with h' | h'
   .exact h'
   .have:k=i:=by lia
    subst this;rw[M]at e3;cases e3;rw[e4]at h;cases h
 .rintro _ ⟨hb,x2,x3,rfl⟩;have hn:bad l=none:=by
   cases e:bad l with
   | none=>rfl
   | some k=>
    have h1:=hb k e
    obtain⟨_,N,_⟩:=o8 e;have N:=(Ab0.mp N).1;rw[aO0,Aa3,Aa3]at h1
    lia
  have B:=hl.bd
  refine dK3 (ds:=[.list ((usT l).map lI)]) (A2 (EF.e' (EF.to (G8 (m:=true) fRw (W5 (ds:=((wrd l).map tx).map PyData.str) v1) (by rw[Aa3,Aa3];unfold sizeLine;lia) λd hd=>?_) (dI1 (wrd l)))) A5) ?_
  .obtain⟨y,hy,rfl⟩:=Aa8.mp hd;obtain⟨wd,hw,rfl⟩:=Aa8.mp hy;exact⟨_,B9,U3,EF.e' (w9 (A2 v0 A5) ⟨wd,hl.wrd wd hw,bD4 hn wd hw,rfl,rfl⟩)⟩
  .cases hf:ft (usT l) with
   | none=>exact .inl ⟨_,⟨usT l,B,hf,rfl,rfl⟩,hn,rfl,rfl⟩
   | some x=>
    obtain⟨wd,k⟩:=x;exact .inr ⟨_,_,⟨rfl,usT l,wd,k,B,hf,rfl,rfl⟩,λU D vs s' e1 e2=>qd wd k hn hf U D vs s' e1 e2⟩
end
end K05
namespace L2
open PySem PySem.Spec PyProof.Rows
theorem dX6 (A B:Nat):sliceRange (A:Int) (B:Int) 1=(List.range (B-A)).map (λk=>A+k):=by
 unfold sliceRange;have e:(if(1:Int)>0 then(if(A:Int)<(B:Int) then((B:Int)-A+1-1) / 1 else 0) else(if(A:Int)>(B:Int) then((A:Int)-B-1-1) / (-1) else 0)).toNat=B-A:=by
  rw[Ae (by decide),Int.ediv_one]
  split <;> lia
 simp only[]at e ⊢;rw[e];refine Av λk _=>?_
 lia
def Lo (n:Nat)(lo:Option Int)(A:Nat):Prop:=(lo=none/\A=0)\/∃a:Nat,lo=some (a:Int)/\A=min a n
def Hi (n:Nat)(hi:Option Int)(B:Nat):Prop:=(hi=none/\B=n)\/∃b:Nat,hi=some (b:Int)/\B=min b n
theorem cO1 {n A B:Nat}{lo hi:Option Int}(h1:Lo n lo A)(e:Hi n hi B):Builtin.Str.strSliceIndices lo hi 1 n=(List.range (B-A)).map (λk=>A+k):=by
 rw[<- dX6];have c:∀a:Nat,max (0:Int) (min (if(a:Int)<0 then(a:Int)+n else a) n)=((min a n:Nat):Int):=λa=>by
  rw[Ac (by lia)];lia
 unfold Builtin.Str.strSliceIndices;rcases h1 with⟨rfl,rfl⟩ | ⟨a,rfl,rfl⟩ <;> rcases e with⟨rfl,rfl⟩ | ⟨b,rfl,rfl⟩ <;> simp only[show((1:Int)>0)=True from eq_true (by decide),if_true,c] <;> rfl
section
def dL9:V->Option Int->Option Int->Hp->VK->Prop:=λx lo hi H Q=>∃(z:Str) (A B:Nat),x=.str z/\z.length<=sizeLine/\Lo z.length lo A/\Hi z.length hi B/\Q (.str ⟨((z.cps.toList.drop A).take (B-A)).toArray⟩) H
theorem aF3:SlR X dL9:=by
 intro aA s σ H x v vl vu lo hi sl Q I rx hs pl pu ⟨z,a,b,ex,Y,h1,y,q⟩;subst ex;obtain⟨t,rfl⟩:=rx;obtain⟨l,M,w⟩:∃l:Option (Int×Tok),vl=partValue l/\l.map (·.1)=lo:=by
  cases pl with
  | none=>exact⟨none,rfl,rfl⟩
  | int i t=>exact⟨some (i,t),rfl,rfl⟩
 obtain⟨u,N,j⟩:∃u:Option (Int×Tok),vu=partValue u/\u.map (·.1)=hi:=by
  cases pu with
  | none=>exact⟨none,rfl,rfl⟩
  | int i t=>exact⟨some (i,t),rfl,rfl⟩
 refine⟨"str",_,F.slot_str_getitem.lookup,typeIs_str s z t,?_⟩;have m:s.heap.IsSlice sl l u none:=by
  obtain⟨o,h1,y,D⟩:=hs;exact⟨o,h1,y,by rw[D,M,N];rfl⟩
 refine wpAny_getItem_str_slice m rfl ?_;have B:a<=z.length:=by rcases h1 with⟨_,rfl⟩ | ⟨a',_,rfl⟩ <;> lia
 have P:b<=z.length:=by rcases y with⟨_,rfl⟩ | ⟨b',_,rfl⟩ <;> lia
 have U:slicePicked z l u none=(List.range (b-a)).map (λk=>a+k):=by
  unfold slicePicked;rw[w,j];exact cO1 h1 y
 have J:((slicePicked z l u none).filterMap (z.cps[·]?))=(z.cps.toList.drop a).take (b-a):=by
  rw[U];have h:=PySem.StrLaws.picks z.cps.toList (b-a) a (by simp[Str.length]at B P ⊢;lia)
  simpa using h
 unfold sliceMade;split
 .rename_i hc;have hl:b-a=z.length:=by
   rw[U]at hc;simp at hc;exact hc
  have e:(⟨((z.cps.toList.drop a).take (b-a)).toArray⟩:Str)=z:=by
   rw[hl];rcases Nat.eq_zero_or_pos z.length with R | hp
   .have hz:z.cps.toList=[]:=List.eq_nil_of_length_eq_zero (by simpa[Str.length]using R)
    refine Str.ext' (Array.toList_inj.mp ?_);show((z.cps.toList.drop a).take z.length)=z.cps.toList;rw[hz];simp
   .have c:a=0:=by lia
    subst c;refine Str.ext' (Array.toList_inj.mp ?_);show((z.cps.toList.drop 0).take z.length)=z.cps.toList;rw[List.drop_zero,Cj (by simp[Str.length])]
  rw[e]at q;exact⟨.str _,H,I,⟨_,rfl⟩,q⟩
 .rw[J];refine⟨?_,.str _,H,I.tok _,⟨_,rfl⟩,q⟩;show((z.cps.toList.drop a).take (b-a)).toArray.size<=sizeLine;rw[Ab2,Ad1,Bb];simp only[Str.length]at Y
  simp;lia
end
end L2
namespace LV
open PySem L2
section
variable {K:Frag}{ρ:List Sl}{m:Bool}{ta:TE}
theorem dP7 {tl th:TO}{lo hi:Option Int}{z:AC}{a b:Nat}(s:E K false ta ρ (.str (tx z)))(X:O K tl ρ lo)(Y:O K th ρ hi)(M:z.length<=10000)(h1:Lo z.length lo a)(c:Hi z.length hi b) :
  E K m (tSl dL9 ta tl th) ρ (.str (tx ((z.drop a).take (b-a)))):=E.bor (E.imm (m:=false) λS B σ H o I Q q=>s S B σ H o I _ λx w e U=>X S B σ w o (I.grow e) _ λk y=>Y S B σ k o ((I.grow e).grow y) _ λj J=>by
 cases U
 refine⟨tx z,a,b,rfl,by rw[T6];unfold sizeLine;lia,by rw[T6];exact h1,by rw[T6];exact c,?_⟩
 have:=q (.str (tx ((z.drop a).take (b-a)))) j (L2.Same.tr e (L2.Same.tr y J)) (.str _)
 simpa[tx]using this)
end
end LV
namespace L2
open PySem PySem.Spec PyProof.Rows
end L2
namespace LV
open PySem PySem.Spec PyProof.Rows L2
end LV
namespace L2
open PySem PySem.Spec PyProof.Rows
end L2
namespace LV
open PySem PySem.Spec PyProof.Rows L2
end LV
namespace L2
open PySem PySem.Spec PyProof.Rows
abbrev zO (f0 f1:Value)(TI TO:Addr):Obj:={cls:=.type "zip",dict:=none,data:=.fields #[f0,f1,.bool false,.ref TI,.ref TO],slots := #[]}
end L2
namespace LV
open PySem PySem.Spec PyProof.Rows L2
section
variable {K:Frag}{ρ:List Sl}{m:Bool}{ta tb:TE}{t:TA}
theorem cV4 {z:Str}(e:A K false t ρ [.str z])(y:z.length<=100000):E K m (tCB (λxs H Q=>∃z,xs=[.str z]/\z.length<=sizeLine/\Q (.int z.length) H) t) ρ (.int z.length):=bV4 e λH vs Q r q=>by
 cases r with
 | cons a b=>
  cases a;cases b
  exact⟨z,rfl,by unfold sizeLine;lia,q _ λH=>.int _⟩
end
end LV
set_option maxHeartbeats 1000000
namespace K05
open PySem L2 LV PyProof.Rows
theorem t7:C3 ["_law_cell", "_law_some"] ["_law_cell"] (B1 aD0):={}
theorem X7:C3 ["_law_text", "_law_cell", "_law_spot", "_law_sign_here"] ["_law_text", "_law_cell"] (B1 Z3):={}
theorem L8:C3 ["_law_cell", "_law_text", "_law_rest", "_law_k"] ["_law_cell"] (B1 W8):={}
theorem sc__law_due:C3 ["_law_text", "_law_turns", "_law_at", "_law_word", "_law_turn", "_law_fault_here"] ["_law_text"] (B1 aJ6):={}
def sgA:AC:=[32,33,34,35,36,38,39,40,41,42,43,44,45,46,47,48,49,50,51,52,53,54,55,56,57,58,59,60,61,62,63,64,65,66,67,68,69,70,71,72,73,74,75,76,77,78,79,80,81,82,83,84,85,86,87,88,89,90,91,92,93,94,95,96]
def cR0:AC:=[97,98,99,100,101,102,103,104,105,106,107,108,109,110,111,112,113,114,115,116,117,118,119,120,121,122,123,124,125,126]
def sgC:AC:=[48,49,50,51,52,53,54,55,56,57,32,32,120]
theorem eE8 {z:AC}{i n:Int}(y:(z.length:Int)=n)(h:∀c∈z,c<128)(h0:0<=i)(h1:i<n):∃x,x<128/\atI z i=some x:=by
 obtain⟨k,rfl⟩:=Int.eq_ofNat_of_zero_le h0;have e:k<z.length:=by lia
 exact⟨z[k],h _ (Cs e),S1 k rfl (Aa2 e)⟩
theorem bP3 {z:AC}{n:Int}(i:Int)(e:(z.length:Int)=n)(h:∀c∈z,c<128)(h0:0<n):∃x,x<128/\atI z (i % n)=some x:=eE8 e h (Bs _ (by lia)) (Ce _ h0)
def eF0 (ds:AF)(post:PyData->Prop):Prop:=∃c:Int,ds=[.int c]/\post=λd=>∃x,x<128/\d=.str (tx [x])
def dW7 (ds:AF)(post:PyData->Prop):Prop:=∃(l:AC) (c:Int) (n:Nat),Ln n l/\n<=140/\ds=[.str (tx l),.int c]/\post=λd=>∃l',Ln (n+1) l'/\d=.str (tx l')
def eB3 (ds:AF)(post:PyData->Prop):Prop:=∃c:Int,ds=[.int c]/\post=λd=>∃l',Ln 60 l'/\d=.str (tx l')
theorem Ln.mono {n m:Nat}{l:AC}(h:Ln n l)(e:n<=m):Ln m l:=⟨Ax h.1 e,h.2⟩
theorem Ln.app {n m:Nat}{l v:AC}(h:Ln n l)(h':Ln m v):Ln (n+m) (l++v):=⟨by rw[Ab7];have:=h.1;have:=h'.1;lia,λc e=>(Aa0.mp e).elim (h.2 c) (h'.2 c)⟩
theorem Ln.take {n:Nat}{l:AC}(h:Ln n l)(k:Nat):Ln (min k l.length) (l.take k):=⟨by rw[Ad1];lia,λc e=>h.2 c (Bg e)⟩
theorem Ln.drop {n:Nat}{l:AC}(h:Ln n l)(k:Nat):Ln (l.length-k) (l.drop k):=⟨by rw[Bb];lia,λc e=>h.2 c (Co e)⟩
theorem Ln.one {x:Nat}(h:x<128):Ln 1 [x]:=⟨Aa7 _,λc e=>by rw[Ad8.mp e];exact h⟩
noncomputable def bE5 (l:AC):PyData:=match bad l with
 | some k=>.tuple [.str "text",.int (k:Int)]
 | none=>match ft (usT l) with
  | some (wd,k)=>.tuple [.str wd,.int (k:Int)]
  | none=>dOk (usT l)
def dG2 (ds:AF)(d:PyData):Prop:=∃l,Ln 150 l/\ds=[.str (tx l)]/\d=bE5 l
def fFd:PyData->Option PyData
 | .str x=>some (.int (fnd (x.cps.toList.headD 0)))
 | _=>none
theorem dM5 (w:AC):(sgD w).filterMap fFd=(w.map fnd).map PyData.int:=by
 unfold sgD;rw[Ar,Ae3,<- List.filterMap_eq_map];exact S7 λx _=>rfl
theorem dJ0 (L:AD)(i:Int):((L.map PyData.int).any λz=>PyData.eqv z (.int i))=L.contains i:=by
 induction L with
 | nil=>rfl
 | cons x L e=>
  rw[Ac7,List.any_cons,e,List.contains_cons]
  have:PyData.eqv (.int x) (.int i)=(i==x):=by
   have h:PyData.eqv (.int x) (.int i)=(x==i):=by simp[PyData.eqv]
   rw[h];exact Bool.beq_comm
  rw[this]
theorem aZ0 (L:AD):Fit (lI L):=(aY1 (n:=0) λd e=>by obtain⟨q,_,rfl⟩:=Aa8.mp e;exact bD1 0 _).fit
def fBg:PyData->Option PyData
 | .list l=>some (tN (TT.M5 (l.map toN)))
 | _=>none
theorem dH8 (L:AA):(L.map lN).filterMap fBg=(L.map TT.M5).map tN:=by
 rw[Ar,Ae3,<- List.filterMap_eq_map]
 congr 1
 funext l
 show some (tN (TT.M5 ((nI l).map toN)))=some (tN (TT.M5 l))
 rw[aY0]
theorem eG7 {us:AB}(B:Bd us)(h:ft us=none):Rt (tsN us):=by
 have hp:pf us=none:=by
  rw[dQ4]at h;cases e:pf us with
  | none=>rfl
  | some x=>rw[e]at h;cases h
 obtain⟨w,y,z,k,j⟩:=cG1 hp;exact(aK3 (l9 B w y z) k).rt (by rw[K3];exact j)
theorem cC4 {us:AB}(B:Bd us)(h:ft us=none):∀l∈tsN us,l≠[]/\l.length<=10:=λl w=>by
 obtain⟨k,y,j⟩:=aW7 h;obtain⟨p,hp,e⟩:=List.mem_iff_getElem.mp w;have z:l=TT.trn (tsN us) p:=by
  have:=aE1 hp
  rw[Aa2 hp,e]at this;exact Ab4 this
 rw[z];exact⟨(l9 B k y j).ne p hp,(eG7 B h).tle p⟩
section
variable {P:Program}{w:World}{K:Frag}{mg:Str->Option Value}{base:Heap}{a:Ad}
section
variable {ρ:List Sl}{m:Bool}{ta:TE}{tl th:TO}{z:AC}
theorem aG8 (l:AC)(a b:Nat):(l.drop (min a l.length)).take (min b l.length-min a l.length)=(l.drop a).take (b-a):=by
 rcases Nat.le_total a l.length with h | h
 .rw[Nat.min_eq_left h];rcases Nat.le_total b l.length with h2 | h2
  .rw[Nat.min_eq_left h2]
  .rw[Nat.min_eq_right h2,Cj (by rw[Bb];lia),Cj (by rw[Bb];lia)]
 .rw[Nat.min_eq_right h,List.drop_eq_nil_of_le (Aa7 _),List.drop_eq_nil_of_le h,List.take_nil,List.take_nil]
theorem bG6 {k:Nat}(y:LV.E K false ta ρ (.str (tx z)))(j:O K th ρ (some (k:Int)))(c:z.length<=10000):LV.E K m (tSl dL9 ta aW6 th) ρ (.str (tx (z.take k))):=by
 have e:=dP7 (m:=m) (a:=0) (b:=min k z.length) y aS2 j c (.inl ⟨rfl,rfl⟩) (.inr ⟨k,rfl,rfl⟩)
 have q:=aG8 z 0 k
 rw[Nat.zero_min]at q;rw[q]at e;exact e
theorem cZ1 {k:Nat}(y:LV.E K false ta ρ (.str (tx z)))(j:O K tl ρ (some (k:Int)))(c:z.length<=10000):LV.E K m (tSl dL9 ta tl aW6) ρ (.str (tx (z.drop k))):=by
 have e:=dP7 (m:=m) (a:=min k z.length) (b:=z.length) y j aS2 c (.inr ⟨k,rfl,rfl⟩) (.inl ⟨rfl,rfl⟩)
 have q:=aG8 z k z.length
 rw[Nat.min_self,Cj (i:=z.length-k) (by rw[Bb];lia)]at q
 rw[q]at e;exact e
end
theorem eC8 (T:Tx K mg a):J0 P w K mg base CX0 1 a.aV1 a.aU6 ["_law_cell"] (spX K eF0):=by
 refine T.aT2.F.ok t7 (dZ9 (by rintro ds d ⟨_,rfl,_⟩;rfl)) (λm A outer s H vs Q E X h=>?_)
 obtain⟨ds,S,k,Y,r,⟨c,rfl,rfl⟩,q⟩:=h;refine⟨_,(A3 (psS 1 t7 L5)
   (A3 (psS 1 t7 (B2 T9 (pv 1) L5))
   (A3 (G9 (C1 a8 (B2 K7 (pv 0) A4) A4 (C6 _)) (A6 (B7 (B8 (ixK K) (pv 1) (B2 K7 (B2 O5 (pv 0) A4) (B5 aQ2 (by rfl) T.M4 Am (A0 (pv 1) A1))) (λ_ _=>rfl)))) C5)
   (A3 (G9 (C1 a8 (B2 K7 (pv 0) A4) A4 (C6 _)) (A6 (B7 (B8 (ixK K) L5 (B2 K7 (B2 O5 (pv 0) A4) A4) (λ_ _=>rfl)))) C5)
   (A6 (B7 (B8 (ixK K) L5 (B2 K7 (B2 O5 (pv 0) A4) A4) (λ_ _=>rfl)))))))),cD6 Y r ?_ q⟩
 refine A8 (C9 (d:=.str (tx sgA)) (U4 (by decide +kernel)) ?_)
 refine A8 (C9 (d:=.str (tx (sgA++cR0))) (aK5 (a:=sgA) (b:=cR0) v1 (U4 (by decide +kernel)) (by decide)) ?_)
 refine A8 (O8 (C4 (Y6 (e_i v0 A7 (by decide)) A7)) (λh=>?_) (λh=>E2 ?_))
 .obtain⟨x,y,e⟩:=bP3 (z:=sgA++cR0) (n:=94) (c / 3) (by decide) (by decide) (by decide)
  exact E1 (cI2 (z:=sgA++cR0) v1 (e_i (e_i v0 A7 ⟨by decide,by decide⟩) (EI.to (j:=94) (cV4 (z:=tx (sgA++cR0)) (A2 v1 A5) (by decide)) (by decide)) (by decide)) (by decide) e) ⟨x,y,rfl⟩
 refine A8 (O8 (C4 (Y6 (e_i v0 A7 (by decide)) A7)) (λh=>?_) (λh=>E2 ?_))
 .obtain⟨x,y,e⟩:=bP3 (z:=[48,49,50,51,52,53,54,55,56,57]) (n:=10) (c / 3) (by decide) (by decide) (by decide)
  exact E1 (cI2 (z:=[48,49,50,51,52,53,54,55,56,57]) (U4 (by decide)) (e_i (e_i v0 A7 ⟨by decide,by decide⟩) A7 (by decide)) (by decide) e) ⟨x,y,rfl⟩
 .obtain⟨x,y,e⟩:=bP3 (z:=[32,48]) (n:=2) (c / 3) (by decide) (by decide) (by decide)
  exact E1 (cI2 (z:=[32,48]) (U4 (by decide)) (e_i (e_i v0 A7 ⟨by decide,by decide⟩) A7 (by decide)) (by decide) e) ⟨x,y,rfl⟩
theorem dZ5 (T:Tx K mg a):J0 P w K mg base CX0 2 a.aD9 a.aE5 ["_law_text", "_law_cell"] (spX K dW7):=by
 have e := @eC8 P w K mg base a T
 refine T.aC0.F.ok X7 (dZ9 (by rintro ds d ⟨_,_,_,_,_,rfl,_⟩;rfl)) (λU A outer s H vs Q E D h=>?_)
 obtain⟨ds,S,X,J,r,⟨l,c,n,y,B,rfl,rfl⟩,q⟩:=h;refine⟨_,(A3 (psS 2 X7 (B2 K7 (B2 O5 (pv 1) A4) (B2 K8 (B5 aQ2 (by rfl) T.M4 Am (A0 (pv 0) A1)) A4)))
   (A3 (psS 3 X7 (pcl e D T.aT2 (A0 (B2 O5 (pv 1) A4) A1)))
   (A3 (G9 (C1 a8 (B2 K7 (pv 1) A4) A4 (C6 _)) (A6 (B7 (B2 T9 (B2 T9 (Q7 aF3 (pv 0) W9 (T1 (pv 2))) (pv 3)) (Q7 aF3 (pv 0) (T1 (pv 2)) W9)))) C5)
   (A3 (G9 (C1 a8 (B2 K7 (pv 1) A4) A4 (C6 _)) (A6 (B7 (B2 T9 (B2 T9 (Q7 aF3 (pv 0) W9 (T1 (pv 2))) (pv 3)) (Q7 aF3 (pv 0) (T1 (B2 K8 (pv 2) A4)) W9)))) C5)
   (A3 (G9 (C1 a8 (B2 K7 (pv 1) A4) A4 (C6 _)) (A6 (B7 (B2 T9 (Q7 aF3 (pv 0) W9 (T1 (pv 2))) (Q7 aF3 (pv 0) (T1 (B2 K8 (pv 2) A4)) W9)))) C5)
   (A6 (B7 (pv 0)))))))),cD6 J r ?_ q⟩
 have R:=y.1
 obtain⟨k,M⟩:∃k:Nat,c / 4 % ((l.length:Int)+1)=(k:Int):=⟨(c / 4 % ((l.length:Int)+1)).toNat,by have:=Bs (c / 4) (b:=(l.length:Int)+1) (by lia);lia⟩
 have N:k<=l.length:=by have:=Ce (c / 4) (b:=(l.length:Int)+1) (by lia);lia
 refine A8 (C9 (d:=.int (k:Int)) (EI.to (e_i (e_i v1 A7 ⟨by decide,by decide⟩) (P3 (EI.to (j:=(l.length:Int)) (cV4 (z:=tx l) (A2 v0 A5) (by rw[T6];lia)) (by rw[T6])) A7) (by lia)) M) ?_)
 refine A8 (bZ0 (A2 (e_i v1 A7 ⟨by decide,by decide⟩) A5) ⟨_,rfl,rfl⟩ ?_)
 rintro d ⟨x,m,rfl⟩;have Y:(k:Int)+1=((k+1:Nat):Int):=by lia
 refine A8 (O8 (C4 (Y6 (e_i v1 A7 (by decide)) A7)) (λh=>?_) (λh=>E2 ?_))
 .exact E1 (aK5 (aK5 (bG6 (k:=k) v0 (X6 v2) (by lia)) v3 (by simp;lia)) (cZ1 (k:=k) v0 (X6 v2) (by lia)) (by simp;lia)) ⟨_,((y.take k).app (.one m)).app (y.drop k) |>.mono (by lia),rfl⟩
 refine A8 (O8 (C4 (Y6 (e_i v1 A7 (by decide)) A7)) (λh=>?_) (λh=>E2 ?_))
 .exact E1 (aK5 (aK5 (bG6 (k:=k) v0 (X6 v2) (by lia)) v3 (by simp;lia)) (cZ1 (k:=k+1) v0 (X6 (EI.to (P3 v2 A7) Y)) (by lia)) (by simp;lia)) ⟨_,((y.take k).app (.one m)).app (y.drop (k+1)) |>.mono (by lia),rfl⟩
 refine A8 (O8 (C4 (Y6 (e_i v1 A7 (by decide)) A7)) (λh=>?_) (λh=>E2 ?_))
 .exact E1 (aK5 (bG6 (k:=k) v0 (X6 v2) (by lia)) (cZ1 (k:=k+1) v0 (X6 (EI.to (P3 v2 A7) Y)) (by lia)) (by simp;lia)) ⟨_,(y.take k).app (y.drop (k+1)) |>.mono (by lia),rfl⟩
 .exact E1 v0 ⟨l,y.mono (by lia),rfl⟩
theorem dZ2 (T:Tx K mg a):J0 P w K mg base CX0 1 a.p4 a.s9 ["_law_cell"] (spX K eB3):=by
 refine T.o9.F.ok L8 (dZ9 (by rintro ds d ⟨_,rfl,_⟩;rfl)) (λm A outer s H vs Q E D h=>?_)
 obtain⟨ds,S,k,X,r,⟨c,rfl,rfl⟩,q⟩:=h;refine⟨_,(A3 (psS 1 L8 L5)
   (A3 (psS 2 L8 (B2 O5 (pv 0) A4))
   (A3 (G6 Ai rfl (D9 rfl T.F7 (A0 (B2 K7 (pv 0) A4) A1)) (pgN 3 L8) (A3 (psS 1 L8 (B2 T9 (pv 1) (B8 (ixK K) L5 (B2 K7 (pv 2) A4) (λ_ _=>rfl))))
   (A6 (psS 2 L8 (B2 O5 (pv 2) A4)))))
   (A6 (B7 (pv 1)))))),cD6 X r ?_ q⟩
 refine A8 (C9 (d:=.str (tx [])) (U4 rfl) ?_);refine A8 (C9 (e_i v0 A7 ⟨by decide,by decide⟩) ?_)
 obtain⟨n,N,Y⟩:∃n:Nat,c % 60=(n:Int)/\n<60:=⟨(c % 60).toNat,by lia,by lia⟩
 refine A8 (O4 (N1 (j:=(n:Int)) (A2 (EI.to (e_i v0 A7 (by decide)) N) A5) (by lia) (by lia)) (λj ρ=>∃l i y,Ln j l/\y.nb=true/\ρ=[vI c,.val (.str (tx l)),vI i,y]) ⟨[],_,.no,⟨Aa7 _,λc U=>by cases U⟩,rfl,rfl⟩ ?_ ?_)
 .rintro j d _ hj ⟨l,i,y,hl,b3,rfl⟩;obtain⟨rfl,J⟩:=N0 hj;refine⟨_,B9,?_⟩;have M:=hl.1;obtain⟨x,R,e⟩:=bP3 (z:=sgC) (n:=13) i (by decide) (by decide) (by decide)
  refine A8 (C9 (d:=.str (tx (l++[x]))) (aK5 v1 (cI2 (z:=sgC) (U4 (by decide)) (e_i v2 A7 (by decide)) (by decide) e) (by simp;lia)) ?_)
  exact C9 (e_i v2 A7 ⟨by decide,by decide⟩) ⟨_,_,_,hl.app (.one R),rfl,rfl⟩
 .rintro _ ⟨l,i,y,hl,b3,rfl⟩;refine E1 v1 ⟨l,hl.mono ?_,rfl⟩;unfold Y9
  simp;lia
theorem eE4 (T:Tx K mg a):J0 P w K mg base CX0 4 a.aY2 a.bC9 ["_law_text"] (spV K dG2):=by
 have X := @eK2 P w K mg base a T
 have Y := @bU6 P w K mg base a T
 refine T.aY9.F.ok sc__law_due (W7 (by rintro ds d ⟨_,_,rfl,_⟩;rfl)) (λcdv A outer s H vs Q E hr h=>?_)
 obtain⟨ds,S,d,hS,r,⟨l,hl,rfl,rfl⟩,q⟩:=h;refine⟨_,(A3 (psS 1 sc__law_due (D5 A1))
   (A3 (G6 Ai rfl (bU7 K rfl T.X3 (A0 (N3 PySem.F.plainAttrs_str PySem.F.slot_str_split PySem.F.type_str_split bS2 (pv 0) (A0 L5 A1)) A1)) (aZ6 (n:=2) rfl (S6 (pgN 2 sc__law_due) (S6 (pgN 3 sc__law_due) aP5))) (A3 (aY4 (i:=4) sc__law_due.nd rfl rfl (T:=["_law_sign_here"]) (N':=["_law_sign_here"]) (is:=[]) rfl (.of rfl rfl rfl (by exact trivial) rfl rfl rfl (by exact trivial)) (cD1 (pv 3)) (K2 (by decide)) λ_ _ _ _=>⟨(F1 (i:=0) (by decide +kernel:(["_law_sign_here"]:AH).Nodup) rfl (Or.inl rfl)),G4,(cZ8 K PySem.F.plainAttrs_str PySem.F.slot_str_find PySem.F.type_str_find dN0 L5 (A0 (pv 0) A1))⟩)
   (A3 (G9 (PW.pt (aT6 (C1 a8 (B5 (u7 K) (by rfl) T.M4 Am (A0 (pv 4) A1)) A4 (C6 _)) (aI5 (C1 (bQ7 K hr) (aU4 aC1 A4) (pv 4) rfl)))) (A6 (B7 (E9 (A0 L5 (A0 (pv 2) A1))))) C5)
   (A6 (G7 (N3 Ab1 Ah Ag E6 (pv 1) (A0 (pv 4) A1)))))))
   (A3 (psS 5 sc__law_due (pcl X hr T.aN2 (A0 (pv 1) A1)))
   (A3 (G9 (C1 bM0 (pv 5) aJ9 (C6 _)) (A6 (B7 (pv 5))) C5)
   (A6 (B7 (L7 (cU2 K) (by rfl) T.R8 boot_tuple (A0 (L9 (T:=["_law_turn"]) (N':=["_law_turn"]) (is:=[]) rfl (.of rfl rfl rfl (by exact trivial) rfl rfl rfl (by exact trivial)) (T3 (pv 1)) (K2 (by decide)) λ_ _ _ _=>⟨(F1 (i:=0) (by decide +kernel:(["_law_turn"]:AH).Nodup) rfl (Or.inl rfl)),G4,(pcl Y hr T.w5 (A0 (pv 0) A1))⟩) A1)))))))),L6 hS r ?_ q⟩
 have hl1:=hl.1
 have hwl:=aW2 l
 refine A8 (K6 (K5 A5) ?_ (show 1<6 by decide))
 refine A8 (O4 (cG6 (ds:=((wrd l).map tx).map PyData.str) (A2 (EF.e' (EF.to (bS5 (z:=tx l) (y:=tx [32]) v0 (A2 (U4 (by decide)) A5) rfl (by rw[T6];unfold sizeLine;lia)) (by rw[bL0]))) A5)) (λi ρ=>(∀k,bad l=some k->i<=k)/\∃x2 x3 x4,x2.nb=true/\x3.nb=true/\x4.nb=true/\ρ=[.val (.str (tx l)),.own ((((wrd l).take i).map trd).map lI),x2,x3,x4,.no]) ⟨λ_ _=>Bv _,.no,.no,.no,rfl,rfl,rfl,rfl⟩ ?_ ?_)
 .rintro i d _ N ⟨hb,x2,x3,x4,b2,b3,b4,rfl⟩;obtain⟨y,hy,rfl⟩:=aJ5 N;rw[Aa9,Aa9]at hy;obtain⟨y',hy',rfl⟩:=Ba.mp hy;obtain⟨wd,U,rfl⟩:=Ba.mp hy';have hw:=Bf U;have hil:=(Ab0.mp U).1;obtain⟨w1,w2⟩:=hl.wrd wd hw;refine⟨_,bT4 (X2 B9 (X2 B9 aX9)),?_⟩;refine A8 (K6 (ds:=(wd.map fnd).map PyData.int) (EF.to (G8 (m:=true) fFd (cW7 (l:=wd) v3 w2) (by unfold sgD;rw[Aa3];unfold sizeLine;lia) λd N=>?_) (dM5 wd)) ?_ (show 4<6 by decide))
  .unfold sgD at N;obtain⟨c,hc,rfl⟩:=Aa8.mp N;refine⟨_,B9,U3,?_⟩;show LV.E K true _ _ (.int (fnd c));exact EI.to (dT9 (z:=tx [48,49,50,51,52,53,54,55,56,57]) (y:=tx [c]) (U4 (by decide)) (A2 v0 A5)) (dH2 c (w2 c hc))
  refine bU1 (i:=4) rfl ?_;show W K _ [.val (.str (tx l)),.own ((((wrd l).take i).map trd).map lI),vI (i:Int),.val (.str (tx wd)),.val (lI (wd.map fnd)),.no] _;have tin:=cM1 (K:=K) (m:=false) (ρ:=[.val (.str (tx l)),.own ((((wrd l).take i).map trd).map lI),vI (i:Int),.val (.str (tx wd)),.val (lI (wd.map fnd)),.no]) (ds:=(wd.map fnd).map PyData.int) (d:=.int (-1)) (d':=lI (wd.map fnd)) (EI.to (aU1 (A7 (i:=1))) rfl) v4 rfl (Y1 _) (aZ0 _);rw[dJ0]at tin;refine A8 (O8 (b := !isW wd) ?_ (λh=>?_) (λh=>E2 ?_))
  .rw[<- dN7,<- show decide (((wd.map fnd).length:Int)=0)=decide ((wd.map fnd).length=0) from Bo.mpr (by lia)]
   exact bQ5 (C4 (Y6 (EI.to (j:=((wd.map fnd).length:Int)) (P5 (d:=lI (wd.map fnd)) (ds:=(wd.map fnd).map PyData.int) (A2 v4 A5)) (by simp)) A7)) λ_=>C4 tin
  .have J:isW wd=false:=by simpa using h
   have hk:bad l=some i:=by
    cases e:bad l with
    | none=>
     have:=bD4 e wd hw
     rw[this]at J;cases J
    | some k=>
     have h1:=hb k e
     obtain⟨_,_,_,h3⟩:=o8 e;rcases Bq i k with h' | h'
     .have:=h3 i wd h' U
      rw[this]at J;cases J
     .rw[show k=i by lia]
   exact E1 (N2 (A2 l3 (A2 v2 A5))) (by unfold bE5;rw[hk])
  .have M:isW wd=true:=by simpa using h
   refine P9 rfl v4 (by rw[Aa3,Aa3,Ad1];unfold sizeLine;lia) ⟨λk e=>?_,vI (i:Int),.val (.str (tx wd)),.val (lI (wd.map fnd)),rfl,rfl,rfl,?_⟩
   .have h1:=hb k e
    obtain⟨w',e3,e4,_⟩:=o8 e;rcases Bq i k with h' | h'
    .exact h'
    .rw[show k=i by lia,U]at e3
     cases e3
     rw[e4]at M;cases M
   .have:(((wrd l).take i).map trd).map lI++[lI (wd.map fnd)]=(((wrd l).take (i+1)).map trd).map lI:=by
     rw[Di,U,dW2 M]
     simp
    rw[<- this];rfl
 .rintro _ ⟨hb,x2,x3,x4,b2,b3,b4,rfl⟩;rw[aO0,Aa3,Aa3]at hb ⊢;have hn:bad l=none:=by
   cases e:bad l with
   | none=>rfl
   | some k=>
    have h1:=hb k e
    obtain⟨_,h2,_⟩:=o8 e;have h2:=(Ab0.mp h2).1
    lia
  rw[Cr];refine bU1 (i:=1) rfl ?_;have B:=hl.bd;show W K _ [.val (.str (tx l)),.val (.list ((usT l).map lI)),x2,x3,x4,.no] _;have bl:=B.1;refine A8 (C9 (d:=fD (ft (usT l))) (G1 (A2 v1 A5) ⟨usT l,B,rfl,rfl⟩) ?_);unfold bE5;rw[hn];cases hf:ft (usT l) with
  | some x=>
   obtain⟨wd,k⟩:=x;exact A8 (O8 (b:=true) (C4 (aS7 (d:=.tuple [.str wd,.int (k:Int)]) v5)) (λ_=>E1 v5 rfl) (λh=>by cases h))
  | none=>
   refine A8 (O8 (b:=false) (C4 (aS7 (d:=.none) v5)) (λh=>by cases h) (λ_=>E2 ?_))
   obtain⟨h3,h10,m0⟩:=aW7 hf;have tl:=K3 (usT l);refine E1 (X1 (A2 (EF.e' (EF.to (G8 (m:=true) fBg (W5 (ds:=(tsN (usT l)).map lN) (by rw[<- cU8 m0];exact B0 (i:=1) rfl)) (by rw[Aa3,tl];unfold sizeLine;lia) λd N=>?_) (dH8 (tsN (usT l))))) A5) (cG0 _)) rfl
   obtain⟨R,D,rfl⟩:=Aa8.mp N;rw[show fBg (lN R)=some (tN (TT.M5 R)) by show some (tN (TT.M5 ((nI R).map toN)))=_;rw[aY0]]
   exact⟨_,B9,U3,G1 (A2 v0 A5) ⟨R,(cC4 B hf R D).1,by have:=(cC4 B hf R D).2;lia,rfl,rfl⟩⟩
end
end K05
namespace LV
open PySem PyProof.Rows L2
end LV
set_option maxHeartbeats 1000000
namespace K05
open PySem L2 LV PyProof.Rows
theorem i4:C3 ["_law_found", "_law_turn"] ["_law_found"] (B1 U8):={}
theorem aH6:C3 ["_law_found"] ["_law_found"] (B1 y0):={}
def dV0 (ds:AF)(d:PyData):Prop:=∃L:AA,L.length<=10/\(∀l∈L,l.length<=10)/\ds=[tD L]/\d=.bool true
theorem m5:C3 ["_law_e", "_law_one", "_law_two"] ["_law_e"] (B1 w6):={}
theorem sc__law_asked:C3 ["_law_text", "_law_told", "_law_e", "_law_kinds_here"] ["_law_text"] (B1 z4):={}
theorem dG0 {X:Cx}(K:Frag){k:Nat}(m:RoomU k X.A)(h:X.K=K:=by rfl):OpR X (compareOp .Eq) (cM3 K false):=by
 subst h;intro M s σ H x y v u Q I U J ⟨d,e,j,c,w,z,q⟩;obtain⟨N,Y⟩:=P2 I d w.1 j U;obtain⟨bs,rb⟩:=P2 I e z.1 c J;exact SeqAt.compareEq_reads Y rb w.1 z.1 (by have:=m.un;have:=w.2;lia) ⟨.bl _,H,I,rfl,q⟩
theorem cX3:typeOf (.type "ValueError")=pure (.type "type"):=by unfold typeOf;rfl
theorem N4 {K:Frag}{C D:Addr}(q:XCl K D)(s:PySem.W.subIn K (.ref C) (.ref D)=some false)(s':PySem.W.subIn K (.ref C) (.ref C)=some true):XIs K C (.ref D) false:=⟨q,s,λe=>by rw[e,s']at s;cases s⟩
theorem dX3 (i:Nat):PyData.strOk (wdi i)=true:=by
 rcases (show i=0\/i=1\/i=2\/i=3\/4<=i by lia) with rfl | rfl | rfl | rfl | h
 .decide +kernel
 .decide +kernel
 .decide +kernel
 .decide +kernel
 .obtain⟨j,rfl⟩:∃j,i=j+4:=⟨i-4,by lia⟩
  show PyData.strOk "land" = true
  decide +kernel
theorem cX0 (us:AB)(b:Nat):∀k wd p,ftG us b k=some (wd,p)->PyData.strOk wd=true
 | 0,wd,p,h=>by cases h
 | k+1,wd,p,h=>by
  have h:(match (List.range us.length).find? (fb us (b-k)) with | some p=>some (wdi (b-k),p) | none=>ftG us b k)=some (wd,p):=h
  cases e:(List.range us.length).find? (fb us (b-k)) with
  | some x=>rw[e]at h;cases h;exact dX3 _
  | none=>rw[e]at h;exact cX0 us b k wd p h
theorem eD9 {us:AB}{wd:Str}{k:Nat}(h:ft us=some (wd,k)):PyData.strOk wd=true:=by
 unfold ft at h;split at h
 .cases h;decide +kernel
 .cases e:ftG us 4 5 with
  | some x=>rw[e]at h;cases h;exact cX0 us 4 5 _ _ e
  | none=>
   rw[e]at h;dsimp only at h;split at h
   .cases h;decide +kernel
   .split at h
    .cases h
    .cases h;decide +kernel
theorem bZ9 {wd:Str}{k:Int}(h:PyData.strOk wd=true):Fit (.tuple [.str wd,.int k]):=⟨by simp[PyData.canLay0,PyData.canLayAll0,h],by simp[PyData.depth,PyData.depthAll]⟩
def b4 (x y:Bool):PyData:=.tuple [.bool true,.bool x,.bool y,.bool false]
theorem cZ5 (x y:Bool):Fit (b4 x y):=⟨rfl,by simp[b4,PyData.depth,PyData.depthAll]⟩
def dC7 (CT CN:Addr)(ds:AF)(d:PyData):Prop:=∃fs,(ds=[xfD CT fs]/\d=b4 true false)\/(ds=[xfD CN fs]/\d=b4 false true)
section
variable {P:Program}{w:World}{K:Frag}{mg:Str->Option Value}{base:Heap}{a:Ad}
theorem cV2 (T:Tx K mg a):J0 P w K mg base CX0 1 a.aA9 a.y6 ["_law_found"] (spV K aQ7):=by
 refine T.M2.F.ok aH6 (W7 (by rintro ds d ⟨_,rfl,_⟩;rfl)) (λe A outer s H vs Q E z h=>?_)
 obtain⟨ds,S,d,y,r,⟨i,rfl,rfl⟩,q⟩:=h;refine⟨_,(A6 (B7 (bL3 (B5 (bZ4 K) (by rfl) T.E8 boot_isinstance (A0 (pv 0) (A0 (aU3 rfl T.bU0 boot_int) A1))) (aJ2 (cY3 (B5 (bZ4 K) (by rfl) T.E8 boot_isinstance (A0 (pv 0) (A0 (aU3 rfl T.bO4 boot_bool) A1)))))))),L6 y r ?_ q⟩
 exact E1 (cK7 (aV3 (T := "int") (d:=.int i) v0) λh=>(dS7 (aV3 (T := "bool") (d:=.int i) v0))) rfl
theorem eA7 (T:Tx K mg a):J0 P w K mg base CX0 2 a.k9 a.j8 ["_law_found"] (spV K dV0):=by
 have e := @cV2 P w K mg base a T
 refine T.l4.F.ok i4 (W7 (by rintro ds d ⟨_,_,_,rfl,_⟩;rfl)) (λc A outer s H vs Q E X h=>?_)
 obtain⟨ds,S,d,Y,r,⟨L,M,k,rfl,rfl⟩,q⟩:=h;refine⟨_,(A3 (G9 (aA1 (V1 (B5 (bZ4 K) (by rfl) T.E8 boot_isinstance (A0 (pv 0) (A0 (aU3 rfl T.R8 boot_tuple) A1))))) (A6 (B7 Z0)) C5)
   (A3 (G6 Ai rfl (m9 (pv 0)) (pgN 1 i4) (A6 (G9 (PW.pt (aT6 (aA1 (V1 (B5 (bZ4 K) (by rfl) T.E8 boot_isinstance (A0 (pv 1) (A0 (aU3 rfl T.R8 boot_tuple) A1))))) (aI5 (aA1 (V1 (B5 (aF1 K rfl) (by rfl) T.bI7 boot_all (A0 (L9 (T:=["_law_place"]) (N':=["_law_place"]) (is:=[]) rfl (.of rfl rfl rfl (by exact trivial) rfl rfl rfl (by exact trivial)) (m9 (pv 1)) (K2 (by decide)) λ_ _ _ _=>⟨(F1 (i:=0) (by decide +kernel:(["_law_place"]:AH).Nodup) rfl (Or.inl rfl)),G4,(pcl e X T.M2 (A0 (pv 0) A1))⟩) A1))))))) (A6 (B7 Z0)) C5)))
   (A6 (B7 Z0)))),L6 Y r ?_ q⟩
 refine A8 (O8 (b := !true) (aD8 (t_b (aV3 (T := "tuple") (d:=.tuple (L.map tN)) v0))) (λh=>by cases h) (λh=>E2 ?_))
 refine A8 (O4 (aH9 (ds:=L.map tN) v0) (λi ρ=>∃j,ρ=[vD L,j]) ⟨.no,rfl⟩ ?_ ?_)
 .rintro i d _ y ⟨j,rfl⟩;rw[Aa9]at y;obtain⟨l,h1,rfl⟩:=Ba.mp y;have z:=k l (Bf h1);refine⟨_,B9,?_⟩;show W K _ [vD L,.val (tN l)] _;refine O8 (b := !true || !((l.map λ_=>true).all id)) (bQ5 (aD8 (t_b (aV3 (T := "tuple") (d:=tN l) v1))) λ_=>aD8 (t_b (cL7 (l:=l.map λ_=>true) (A2 (EF.e' (EF.to (G8 (m:=true) (λ_=>some (.bool true)) (aH9 (ds:=nI l) v1) (by rw[G5];unfold sizeLine;lia) λd y=>?_) ?_)) A5)))) (λh=>?_) (λh=>E2 ⟨_,rfl⟩)
  .obtain⟨J,N,rfl⟩:=aS4 y;exact⟨_,B9,U3,G1 (A2 v0 A5) ⟨(J:Int),rfl,rfl⟩⟩
  .unfold nI
   clear h1 z y
   induction l with
   | nil=>rfl
   | cons b l U=>
    show _::_=_::_
    rw[U]
  .simp at h
 .rintro _ ⟨j,rfl⟩;exact E1 bT3 rfl
theorem cN3 (T:Tx K mg a):bG8 P w K mg base 1 a.aA9 a.y6 ["_law_found"] (spV K aQ7):=by
 refine T.M2.F.okU aH6 (W7 (by rintro ds d ⟨_,rfl,_⟩;rfl)) (λe A outer s H vs Q E z h=>?_)
 obtain⟨ds,S,d,y,r,⟨x,rfl,rfl⟩,q⟩:=h;refine⟨_,(A6 (B7 (bL3 (B5 (bZ4 K) (by rfl) T.E8 boot_isinstance (A0 (pv 0) (A0 (aU3 rfl T.bU0 boot_int) A1))) (aJ2 (cY3 (B5 (bZ4 K) (by rfl) T.E8 boot_isinstance (A0 (pv 0) (A0 (aU3 rfl T.bO4 boot_bool) A1)))))))),L6 y r ?_ q⟩
 exact E1 (cK7 (a:=true) (b:=true) (aV3 (d:=.int x) v0) λ_=>dS7 (a:=false) (aV3 (d:=.int x) v0)) rfl
theorem eE0 (T:Tx K mg a):bG8 P w K mg base 1 a.aM3 a.aO5 ["_law_e"] (spV K (dC7 a.C0 a.A9)):=by
 refine T.Y3.F.okU m5 (W7 λds d ⟨_,z⟩=>by rcases z with⟨e,_⟩ | ⟨e,_⟩ <;> rw[e] <;> rfl) (λk A outer s H vs Q E c h=>?_)
 obtain⟨ds,S,d,j,r,⟨fs,z⟩,q⟩:=h;refine⟨_,(A3 (psS 1 m5 (B5 (p6 K) (by rfl) T.E8 boot_isinstance (A0 (pv 0) (A0 (E9 (A0 (N6 (v:=.ref a.U6) rfl T.dA4 rfl) (A0 (N6 (v:=.ref a.aA5) rfl T.eA2 rfl) (A0 (N6 (v:=.ref a.P7) rfl T.cC9 rfl) (A0 (N6 (v:=.ref a.R3) rfl T.cX6 rfl) (A0 (N6 (v:=.ref a.P4) rfl T.cO9 rfl) A1)))))) A1))))
   (A3 (psS 2 m5 (B5 (p6 K) (by rfl) T.E8 boot_isinstance (A0 (pv 0) (A0 (E9 (A0 (N6 (v:=.ref a.U9) rfl T.dN3 rfl) (A0 (N6 (v:=.ref a.Q9) rfl T.dA6 rfl) (A0 (N6 (v:=.ref a.O7) rfl T.cN2 rfl) (A0 (N6 (v:=.ref a.R6) rfl T.dF4 rfl) (A0 (N6 (v:=.ref a.F9) rfl T.bF0 rfl) A1)))))) A1))))
   (A6 (B7 (E9 (A0 (B5 (p6 K) (by rfl) T.E8 boot_isinstance (A0 (pv 0) (A0 (aU3 rfl T.y9 PyProof.Rows.Boot.«ValueError») A1))) (A0 (B5 (p6 K) (by rfl) T.E8 boot_isinstance (A0 (pv 0) (A0 (N6 (v:=.ref a.C0) rfl T.aZ7 rfl) A1))) (A0 (B5 (p6 K) (by rfl) T.E8 boot_isinstance (A0 (pv 0) (A0 (N6 (v:=.ref a.A9) rfl T.aT9 rfl) A1))) (A0 (dD0 (pv 1) (aJ2 (pv 2))) A1))))))))),L6 j r ?_ q⟩
 rcases z with⟨rfl,rfl⟩ | ⟨rfl,rfl⟩
 .have y:=O3 T.H9 3 rfl
  refine A8 (C9 (d:=.bool false) (aW3 (fs:=fs) (bs:=[false,false,false,false,false]) (B0 rfl) T.j4 T.i6 (λσ H Q h=>h) ⟨N4 T.bT7 (O3 T.H9 2 rfl) y,N4 T.dA5 (O3 T.H9 4 rfl) y,N4 T.bD9 (O3 T.H9 5 rfl) y,N4 T.bU4 (O3 T.H9 6 rfl) y,N4 T.bG3 (O3 T.H9 7 rfl) y,trivial⟩ (show 5<=sizeLine by decide)) ?_)
  refine A8 (C9 (d:=.bool false) (aW3 (fs:=fs) (bs:=[false,false,false,false,false]) (B0 rfl) T.j4 T.i6 (λσ H Q h=>h) ⟨N4 T.cF9 (O3 T.H9 8 rfl) y,N4 T.bU9 (O3 T.H9 9 rfl) y,N4 T.bI8 (O3 T.H9 10 rfl) y,N4 T.bS0 (O3 T.H9 11 rfl) y,N4 T.aH3 (O3 T.H9 12 rfl) y,trivial⟩ (show 5<=sizeLine by decide)) ?_)
  show W K _ [.val (xfD a.C0 fs),.val (.bool false),.val (.bool false)] _
  exact E1 (N2 (A2 (aS3 (fs:=fs) (B0 rfl) T.j4 T.i6 ⟨cX3,O3 T.H9 13 rfl⟩) (A2 (aS3 (b:=true) (fs:=fs) (B0 rfl) T.j4 T.i6 ⟨T.i6,y,λ_=>rfl⟩) (A2 (aS3 (b:=false) (fs:=fs) (B0 rfl) T.j4 T.i6 (N4 T.Q5 (O3 T.H9 1 rfl) y)) (A2 (dI6 (a:=false) (b:=false) (B0 rfl) λ_=>B0 rfl) A5))))) rfl
 .have y:=O3 T.D8 1 rfl
  refine A8 (C9 (d:=.bool false) (aW3 (fs:=fs) (bs:=[false,false,false,false,false]) (B0 rfl) T.Q4 T.Q5 (λσ H Q h=>h) ⟨N4 T.bT7 (O3 T.D8 2 rfl) y,N4 T.dA5 (O3 T.D8 4 rfl) y,N4 T.bD9 (O3 T.D8 5 rfl) y,N4 T.bU4 (O3 T.D8 6 rfl) y,N4 T.bG3 (O3 T.D8 7 rfl) y,trivial⟩ (show 5<=sizeLine by decide)) ?_)
  refine A8 (C9 (d:=.bool false) (aW3 (fs:=fs) (bs:=[false,false,false,false,false]) (B0 rfl) T.Q4 T.Q5 (λσ H Q h=>h) ⟨N4 T.cF9 (O3 T.D8 8 rfl) y,N4 T.bU9 (O3 T.D8 9 rfl) y,N4 T.bI8 (O3 T.D8 10 rfl) y,N4 T.bS0 (O3 T.D8 11 rfl) y,N4 T.aH3 (O3 T.D8 12 rfl) y,trivial⟩ (show 5<=sizeLine by decide)) ?_)
  show W K _ [.val (xfD a.A9 fs),.val (.bool false),.val (.bool false)] _
  exact E1 (N2 (A2 (aS3 (fs:=fs) (B0 rfl) T.Q4 T.Q5 ⟨cX3,O3 T.D8 13 rfl⟩) (A2 (aS3 (b:=false) (fs:=fs) (B0 rfl) T.Q4 T.Q5 (N4 T.i6 (O3 T.D8 3 rfl) y)) (A2 (aS3 (b:=true) (fs:=fs) (B0 rfl) T.Q4 T.Q5 ⟨T.Q5,y,λ_=>rfl⟩) (A2 (dI6 (a:=false) (b:=false) (B0 rfl) λ_=>B0 rfl) A5))))) rfl
theorem eK0 (T:Tx K mg a):J0 P w K mg base CX0 8 a.aM8 a.aM1 ["_law_text"] (spV K dG2):=by
 have Y:J0 P w K mg base (CXd P w) 7 _ _ _ _:=eB7 T
 have U:bG8 P w K mg base 1 _ _ _ _:=eE0 T
 have c:bG8 P w K mg base 1 _ _ _ _:=cN3 T
 refine T.aP0.F.ok sc__law_asked (W7 (by rintro ds d ⟨_,_,rfl,_⟩;rfl)) (λcdv A outer s H vs Q E M h=>?_)
 obtain⟨ds,S,d,hS,r,⟨l,hl,rfl,rfl⟩,q⟩:=h;refine⟨_,(A3 (psS 1 sc__law_asked aJ9)
   (A3 (dM6 (j:=2) (dJ7 (i:=1) sc__law_asked.nd rfl (Or.inl rfl) Y (M.mono (by decide)) rfl T.V3.m T.V3.F.kp T.V3.b .nil (A0 (pv 0) A1)) rfl T.aA2 (cP7 T.V0) sc__law_asked.nd rfl rfl rfl rfl λe=>(A3 (psS 3 sc__law_asked (bA3 U (M.u.mark.mono (by decide)) rfl T.Y3.m T.Y3.F.kp T.Y3.b .nil (A0 (pv 2) A1))) (A3 (G9 (PW.pt (bB5 (C1 (dG0 K M.u.mark) (pv 3) (E9 (A0 Z0 (A0 Z0 (A0 Z0 (A0 Z0 A1))))) (C6 _)) (aM2 (V1 (bA3 c (M.u.mark.mono (by decide)) rfl T.M2.m T.M2.F.kp T.M2.b .nil (A0 (bX8 K (pv 2) rfl) A1)))))) (A6 (psS 1 sc__law_asked (E9 (A0 L5 (A0 (bX8 K (pv 2) rfl) A1))))) C5) (A6 (G9 (PW.pt (bB5 (C1 (dG0 K M.u.mark) (pv 3) (E9 (A0 Z0 (A0 Z0 (A0 Z0 (A0 Z0 A1))))) (C6 _)) (aM2 (V1 (bA3 c (M.u.mark.mono (by decide)) rfl T.M2.m T.M2.F.kp T.M2.b .nil (A0 (bX8 K (pv 2) rfl) A1)))))) (A6 (psS 1 sc__law_asked (E9 (A0 (bX8 K (pv 2) rfl) (A0 (bX8 K (pv 2) rfl) A1))))) C5)))))
   (A6 (B7 (pv 1))))),L6 hS r ?_ q⟩
 refine A8 (C9 (d:=.none) bW0 ?_);show W K _ [.val (.str (tx l)),.val .none,.no,.no] _;unfold bE5;have J:∀{ρ:List Sl} {x y R D z:Bool},ρ[3]? = some (.val (b4 x y))->PyData.eqv (b4 x y) (b4 R D)=z->LV.E K false (tOp (cM3 K false) (F0 3) (cB1 (J9 (tC (.bl true)) (J9 (tC (.bl R)) (J9 (tC (.bl D)) (J9 (tC (.bl false)) W2)))))) ρ (.bool z):=λ{ρ x y R D z} h3 hz=>by
  have t1:=dC8 (K:=K) (m:=false) (ρ := ρ) (d:=b4 x y) (d':=b4 R D) (B0 (i:=3) h3) (N2 (A2 bT3 (A2 bT3 (A2 bT3 (A2 bT3 A5))))) (cZ5 _ _) (cZ5 _ _)
  rw[hz]at t1;exact t1
 cases B:bad l with
 | some k=>
  refine A8 (aY5 (C:=a.C0) (fs:=[(("at" : Str),PyData.int (k:Int))]) (A2 v0 A5) ⟨l,hl,rfl,.inl ⟨k,B,rfl,rfl⟩⟩ T.R5.ek (dC4 (O3 T.H9 0 rfl)) ?_);show W K _ [.val (.str (tx l)),.val .none,.val (xfD a.C0 [(("at" : Str),PyData.int (k:Int))]),.no] _;refine A8 (C9 (d:=b4 true false) (G1 (pre:=dC7 a.C0 a.A9) (X:=E0) (A2 v2 A5) ⟨_,.inl ⟨rfl,rfl⟩⟩) ?_);have N:∀{m:Bool} {x:PyData},LV.E K m (tXf K (F0 2) "at") [.val (.str (tx l)),.val x,.val (xfD a.C0 [(("at" : Str),PyData.int (k:Int))]),.val (b4 true false)] (.int (k:Int)):=λ{m x}=>dW4 (C:=a.C0) (fs:=[(("at" : Str),PyData.int (k:Int))]) v2 T.R5.gt T.R5.hd T.U5 rfl
  refine A8 (O8 (b:=true) (aT3 (a:=true) (b:=true) (C4 (J (x:=true) (y:=false) rfl (by decide +kernel))) λ_=>t_b (G1 (pre:=aQ7) (X:=E0) (A2 N A5) ⟨(k:Int),rfl,rfl⟩)) (λ_=>?_) (λh=>by cases h))
  refine C9 (d:=.tuple [.str "text",.int (k:Int)]) (N2 (A2 l3 (A2 N A5))) ?_;refine O8 (b:=false) (aT3 (a:=false) (b:=true) (C4 (J (x:=true) (y:=false) rfl (by decide +kernel))) λh=>by cases h) (λh=>by cases h) (λ_=>E2 ?_)
  exact E1 v1 rfl
 | none=>
  cases hf:ft (usT l) with
  | none=>
   refine A8 (cO3 (pre:=dQ9) (d:=dOk (usT l)) (A2 v0 A5) ⟨l,hl,B,hf,rfl,rfl⟩ ?_);exact E1 v1 rfl
  | some x=>
   obtain⟨wd,k⟩:=x;refine A8 (aY5 (C:=a.A9) (fs:=[(("word" : Str),PyData.str wd),(("at" : Str),PyData.int (k:Int))]) (A2 v0 A5) ⟨l,hl,rfl,.inr ⟨wd,k,B,hf,rfl,rfl⟩⟩ T.N9.ek (dC4 (O3 T.D8 0 rfl)) ?_);show W K _ [.val (.str (tx l)),.val .none,.val (xfD a.A9 [(("word" : Str),PyData.str wd),(("at" : Str),PyData.int (k:Int))]),.no] _;refine A8 (C9 (d:=b4 false true) (G1 (pre:=dC7 a.C0 a.A9) (X:=E0) (A2 v2 A5) ⟨_,.inr ⟨rfl,rfl⟩⟩) ?_);have xw:∀{m:Bool},LV.E K m (tXf K (F0 2) "word") [.val (.str (tx l)),.val .none,.val (xfD a.A9 [(("word" : Str),PyData.str wd),(("at" : Str),PyData.int (k:Int))]),.val (b4 false true)] (.str wd):=λ{m}=>dW4 (C:=a.A9) (fs:=[(("word" : Str),PyData.str wd),(("at" : Str),PyData.int (k:Int))]) v2 T.N9.gt T.N9.hd T.Q2 rfl
   have N:∀{m:Bool},LV.E K m (tXf K (F0 2) "at") [.val (.str (tx l)),.val .none,.val (xfD a.A9 [(("word" : Str),PyData.str wd),(("at" : Str),PyData.int (k:Int))]),.val (b4 false true)] (.int (k:Int)):=λ{m}=>dW4 (C:=a.A9) (fs:=[(("word" : Str),PyData.str wd),(("at" : Str),PyData.int (k:Int))]) v2 T.N9.gt T.N9.hd T.T0 rfl
   refine A8 (O8 (b:=false) (aT3 (a:=false) (b:=true) (C4 (J (x:=false) (y:=true) rfl (by decide +kernel))) λh=>by cases h) (λh=>by cases h) (λ_=>E2 ?_))
   refine O8 (b:=true) (aT3 (a:=true) (b:=true) (C4 (J (x:=false) (y:=true) rfl (by decide +kernel))) λ_=>t_b (G1 (pre:=aQ7) (X:=E0) (A2 N A5) ⟨(k:Int),rfl,rfl⟩)) (λ_=>?_) (λh=>by cases h)
   refine C9 (d:=.tuple [.str wd,.int (k:Int)]) (N2 (A2 xw (A2 N A5))) ?_;exact E1 v1 rfl
end
set_option maxHeartbeats 1000000
theorem V8:C3 ["_law_script", "_law_m", "_law_drawing", "_law_text", "_law_head", "_law_k", "_law_cell", "_law_due_here", "_law_turn", "_law_found"] ["_law_script"] (B1 cZ9):={}
def tW (l:AC):PyData:=.str (tx (wd l))
def Lg (L:AA):Prop:=L.length<=10/\∀l∈L,l.length<=10/\∀v∈l,v<10
def fFg:PyData->Option PyData
 | .int i=>some (.str (tx [48+i.toNat]))
 | _=>none
theorem dL2 (l:AC):(nI l).filterMap fFg=((wd l).map λc=>tx [c]).map PyData.str:=by
 unfold nI wd;rw[Ar,Ae3,Ae3,<- List.filterMap_eq_map];exact S7 λx _=>rfl
def fWd:PyData->Option PyData
 | .tuple l=>some (tW (l.map toN))
 | _=>none
theorem dF7 (l:AC):fWd (tN l)=some (tW l):=by
 show some (tW ((nI l).map toN))=_
 rw[aY0]
theorem dJ2 (L:AA):(L.map tN).filterMap fWd=(L.map λl=>tx (wd l)).map PyData.str:=by
 rw[Ar,Ae3,<- List.filterMap_eq_map];exact S7 λx _=>dF7 x
theorem cR4 (l:AC):(wd l).length=l.length:=by unfold wd;simp
theorem dW6 (l:AC):((l.map λc=>tx [c]).map (·.length)).sum=l.length:=by
 induction l with
 | nil=>rfl
 | cons c l e=>rw[Ac7,Ac7,List.sum_cons,e,T6,Al,Al];simp;lia
theorem dY8 {L:AA}(h:∀l∈L,l.length<=10):((L.map λl=>tx (wd l)).map (·.length)).sum<=L.length*10:=by
 induction L with
 | nil=>exact Bv _
 | cons l L y=>
  have h1:=h l Af
  have w:=y λl e=>h l (Ad4 _ e)
  rw[Ac7,Ac7,List.sum_cons,T6,cR4,Al,Nat.add_mul]
  lia
theorem Dw.lg {m:Nat}{dr tr:AA}(y:Dw m dr tr):Lg dr:=by
 have k:=y.m7
 refine⟨by rw[y.len];lia,λl w=>?_⟩
 obtain⟨p,hp,e⟩:=List.mem_iff_getElem.mp w;have h1:=aE1 (dr:=dr) hp;rw[Aa2 hp,e]at h1;rw[Ab4 h1];exact⟨y.tle p,λv z=>by have:=y.good.lt p v z;lia⟩
def dG9 (xs:AD)(lo hi:Option Int):AD:=List.take (HT.sIx xs.length xs.length hi-HT.sIx xs.length 0 lo) (List.drop (HT.sIx xs.length 0 lo) xs)
theorem eH6 (xs:AD)(lo hi:Option Int):LV.aR2 (xs.map PyData.int) lo hi=(dG9 xs lo hi).map PyData.int:=by
 unfold LV.aR2 dG9;rw[Aa3,List.map_take,List.map_drop]
def cJ8 (K:Frag):Sp:=λvs H Q _=>∃(a:Addr) (ns:AD),vs=[.ref a]/\SqL K H a (ns.map V.int)/\ns.length<=63/\∀H',Q (.bl true) H'
theorem bQ9 (L:AA):Fit (.tuple (L.map tN)):=(bY1 (n:=1) λd e=>by obtain⟨x,_,rfl⟩:=Aa8.mp e;rw[bK5];exact bD6 _).fit
theorem cM9 {l:AC}(h:Ln 150 l):(∃(z:Str) (k:Int),PyData.strOk z=true/\bE5 l=.tuple [.str z,.int k])\/(∃(x:AC) (L:AA),bE5 l=.tuple ((x::L).map tN)/\(x::L).length<=10/\∀y∈x::L,y.length<=10):=by
 have B:=h.bd
 unfold bE5;cases bad l with
 | some k=>exact .inl ⟨"text",k,by decide +kernel,rfl⟩
 | none=>
  cases j:ft (usT l) with
  | some p=>exact .inl ⟨p.1,p.2,eD9 (k:=p.2) j,rfl⟩
  | none=>
   obtain⟨X,s,U⟩:=aW7 j;have w:=K3 (usT l);have m:=cC4 B j;cases e:tsN (usT l) with
   | nil=>rw[e]at w;simp at w;lia
   | cons y L=>
    refine .inr ⟨TT.M5 y,L.map TT.M5,?_,?_,λz c=>?_⟩
    .show dOk (usT l)=_
     unfold dOk;rw[e];rfl
    .rw[e]at w;simp at w ⊢
     lia
    .rw[<- Ac7 (f:=TT.M5),<- e]at c;obtain⟨u,Y,rfl⟩:=Aa8.mp c;rw[TT.aQ8];exact(m u Y).2
theorem ES.to {K:Frag}{m:Bool}{t:TE}{ρ:List Sl}{x y:Str}(h:LV.E K m t ρ (.str x))(e:x=y):LV.E K m t ρ (.str y):=e▸h
section
variable {P:Program}{w:World}{K:Frag}{mg:Str->Option Value}{base:Heap}{a:Ad}
theorem eL1 (l:AC)(s:l.length<=10)(y:∀v∈l,v<10)(ρ:List Sl)(h0:ρ[0]? = some (.val (tN l))){x0:Str}(k:x0=tx []) :
  LV.E K true (tBM K "str" (dC0 K) (tC (.str x0)) (J9 (bK3 (dL0 K (F0 0)) 1 [] (Q3 0) bE1 (tCB cJ2 (J9 (F0 0) W2))) W2)) ρ (tW l):=by
 have e:=cX9 (K:=K) (m:=true) (ρ := ρ) (z:=tx []) (zs:=(wd l).map λc=>tx [c]) (U4 k) (A2 (EF.e' (EF.to (G8 (m:=true) (n:=1) (is:=[]) (g:=Q3 0) (tt:=bE1) (te:=tCB cJ2 (J9 (F0 0) W2)) fFg (aH9 (ds:=nI l) (B0 (i:=0) h0)) (by rw[G5];unfold sizeLine;lia) λd j=>?_) (dL2 l))) A5) (by decide) (by rw[dW6,Aa3,cR4];lia)
 .rw[dH3]at e;exact e
 .obtain⟨v,h1,rfl⟩:=aS4 j;have y:=y v h1;refine⟨_,B9,U3,?_⟩;show LV.E K true _ _ (.str (tx [48+((v:Int)).toNat]));rw[Ac8,<- eE9 v y];exact dY2 (A2 v0 A5) ⟨by lia,by lia⟩
theorem dY4 (T:Tx K mg a):J0 P w K mg base CX0 9 a.cJ1 a.bS9 ["_law_script"] (cJ8 K):=by
 have y := @bC2 P w K mg base a T
 have e := @cI0 P w K mg base a T
 have R := @cT0 P w K mg base a T
 have U := @dZ5 P w K mg base a T
 have X := @dZ2 P w K mg base a T
 have B := @eE4 P w K mg base a T
 have N := @eK0 P w K mg base a T
 have Y := @eA7 P w K mg base a T
 have J := @bS1 P w K mg base a T
 refine T.dS2.F.ok V8 (by rintro vs H Q E ⟨_,_,rfl,_⟩;rfl) (λcdv A outer s H vs Q E hr h=>?_)
 obtain⟨ad,M,rfl,hS,D,q⟩:=h;have r:Reps K (hid (λ_=>False) H) [V.ref ad] [lI M]:=by rw[cV8];exact .cons (.lst hS (aG2 M)) .nil
 refine⟨_,(A3 (psS 1 V8 (B2 K7 (pcl y hr T.P6 (A0 (pcl e hr T.M8 (A0 (pv 0) (A0 A4 A1))) (A0 A4 A1))) A4))
   (A3 (psS 2 V8 (B8 (ixK K) (pcl R hr T.aN9 (A0 (pcl e hr T.M8 (A0 (pv 0) (A0 A4 A1))) (A0 (Q7 (eL6 K) (pv 0) (T1 A4) (T1 A4)) (A0 (pv 1) A1)))) A4 (λ_ _=>rfl)))
   (A3 (psS 3 V8 (N3 PySem.F.plainAttrs_str PySem.F.slot_str_join PySem.F.type_str_join (cH1 K) L5 (A0 (L9 (T:=["_law_turn"]) (N':=["_law_turn"]) (is:=[]) rfl (.of rfl rfl rfl (by exact trivial) rfl rfl rfl (by exact trivial)) (m9 (pv 2)) (K2 (by decide)) λ_ _ _ _=>⟨(F1 (i:=0) (by decide +kernel:(["_law_turn"]:AH).Nodup) rfl (Or.inl rfl)),G4,(cZ8 K PySem.F.plainAttrs_str PySem.F.slot_str_join PySem.F.type_str_join (cH1 K) L5 (A0 (L9 (T:=["_law_place"]) (N':=["_law_place"]) (is:=[]) rfl (.of rfl rfl rfl (by exact trivial) rfl rfl rfl (by exact trivial)) (dK2 K (pv 0)) (K2 (by decide)) λ_ _ _ _=>⟨(F1 (i:=0) (by decide +kernel:(["_law_place"]:AH).Nodup) rfl (Or.inl rfl)),G4,(L7 cN6 (by rfl) T.cK8 boot_str (A0 (pv 0) A1))⟩) A1))⟩) A1)))
   (A3 (psS 4 V8 (pcl y hr T.P6 (A0 (pcl e hr T.M8 (A0 (pv 0) (A0 A4 A1))) (A0 A4 A1))))
   (A3 (G6 Ai rfl (D9 rfl T.F7 (A0 (B2 K7 (pv 4) A4) A1)) (pgN 5 V8) (A3 (psS 6 V8 (pcl e hr T.M8 (A0 (pv 0) (A0 (B2 K8 A4 (pv 5)) A1))))
   (A6 (psS 3 V8 (pcl U hr T.aC0 (A0 (pv 3) (A0 (B2 K8 (B2 k7 (pcl y hr T.P6 (A0 (pv 6) (A0 A4 A1))) A4) (pcl y hr T.P6 (A0 (pv 6) (A0 A4 A1)))) A1)))))))
   (A3 (G9 (C1 a8 (B2 K7 (B2 O5 (pv 4) A4) A4) A4 (C6 _)) (A6 (psS 3 V8 (B2 dO3 L5 (B2 K7 (B2 O5 (pv 4) A4) A4)))) C5)
   (A3 (G9 (C1 aH0 (B2 K7 (B2 O5 (pv 4) A4) A4) A4 (C6 _)) (A6 (psS 3 V8 (pcl X hr T.o9 (A0 (pcl e hr T.M8 (A0 (pv 0) (A0 A4 A1))) A1)))) C5)
   (A3 (psS 7 V8 (pcl B hr T.aY9 (A0 (pv 3) A1)))
   (A3 (G6 Ai rfl (D9 rfl T.F7 (A0 A4 A1)) (pgN 8 V8) (A3 (psS 9 V8 (pcl N hr T.aP0 (A0 (pv 3) A1)))
   (A6 (G9 (PW.pt (aT6 (C1 (cC7 K hr) (pv 9) (pv 7) (C6 _)) (aI5 (PW.pt (bB5 (aA1 (V1 (B5 (bZ4 K) (by rfl) T.E8 boot_isinstance (A0 (B8 (ixK K) (pv 7) A4 (λ_ _=>rfl)) (A0 (aU3 rfl T.cK8 boot_str) A1))))) (aM2 (aA1 (V1 (pcl Y hr T.l4 (A0 (pv 9) A1)))))))))) (A6 (B7 Z0)) C5))))
   (A6 (B7 (R9 a8 (eH8 K (dM9 T.R5.mke T.R5.kp J (hr.mono (by decide)) rfl T.aZ7 T.aI3 .nil bX3 (A0 (B2 K7 (pv 4) A4) A1)) rfl) (B2 K7 (pv 4) A4) (C6 _))))))))))))),L6 (d:=.bool true) (by intro b hb;exact hb.elim) r ?_ (by intro v H' _ rv;cases rv;exact q H')⟩
 obtain⟨m,hm,hm7⟩:∃m:Nat,mx (cl M 0) 90 % 8=(m:Int)/\m<=7:=⟨(mx (cl M 0) 90 % 8).toNat,by lia,by lia⟩
 obtain⟨dr,tr,Bt⟩:=eG5 (TT.v9 (nu (cl M 1) (dG9 M (some 2) (some 9))) m) (eG6 (cl M 1) m);have dw:Dw m dr tr:=⟨hm7,Bt.dl,Bt.good⟩;obtain⟨h1,h2⟩:=dw.lg;have cel:∀{mm:Bool} {ρ:List Sl} (k:Nat),ρ[0]? = some (.val (lI M))->LV.E K mm (aO9 (spV K cI5) [] E0 (J9 (F0 0) (J9 (tC (.int (k:Int))) W2))) ρ (.int (cl M (k:Int))):=λ{mm ρ} k h0=>G1 (A2 (B0 (i:=0) h0) (A2 A7 A5)) ⟨M,(k:Int),by lia,rfl,rfl⟩
 refine A8 (C9 (d:=.int (m:Int)) (EI.to (e_i (G1 (A2 (cel 0 rfl) (A2 A7 A5)) ⟨cl M 0,90,⟨by lia,by lia⟩,rfl,rfl⟩) A7 (by decide)) hm) ?_)
 refine A8 (C9 (d:=.tuple (dr.map tN)) (G0 (ds:=[tD dr,tD tr]) (G1 (A2 (cel 1 rfl) (A2 (EF.e' (cV1 (ds:=M.map PyData.int) v0 (X6 A7) (X6 A7) (aF6 M))) (A2 v1 A5))) ⟨cl M 1,dG9 M (some 2) (some 9),m,dr,tr,hm7,Bt,by rw[eH6];rfl,rfl⟩) A7 rfl rfl) ?_)
 have hs:=dY8 λl D=>(h2 l D).1
 have htl:=cI9 (k:=10) λl D=>(h2 l D).1
 refine A8 (C9 (d:=.str (tx (txL dr))) (ES.to (cX9 (z:=tx [32]) (zs:=dr.map λl=>tx (wd l)) (U4 (by decide)) (A2 (EF.e' (EF.to (G8 (m:=true) fWd (aH9 (ds:=dr.map tN) v2) (by rw[Aa3];unfold sizeLine;lia) λd hd=>?_) (dJ2 dr))) A5) (by decide) (by rw[Aa3];lia)) (dI4 dr)) ?_)
 .obtain⟨l,D,rfl⟩:=Aa8.mp hd;rw[dF7];exact⟨_,B9,U3,eL1 l (h2 l D).1 (h2 l D).2 _ rfl (by first | rfl | decide)⟩
 obtain⟨hd,hhd⟩:∃hd:Int,mx (cl M 12) 93=hd:=⟨_,rfl⟩;refine A8 (C9 (d:=.int hd) (EI.to (G1 (A2 (cel 12 rfl) (A2 A7 A5)) ⟨cl M 12,93,⟨by lia,by lia⟩,rfl,rfl⟩) hhd) ?_)
 let PT:Nat->List Sl->Prop:=λn ρ=>∃l x5 x6,Ln n l/\x5.nb=true/\x6.nb=true/\ρ=[.val (lI M),vI (m:Int),vD dr,.val (.str (tx l)),vI hd,x5,x6,.no,.no,.no]
 have l0:Ln 110 (txL dr):=⟨by lia,cS7 λl D=>(h2 l D).2⟩
 obtain⟨n4,hn4,h4⟩:∃n:Nat,hd % 4=(n:Int)/\n<4:=⟨(hd % 4).toNat,by lia,by lia⟩
 refine A8 (O4 (N1 (j:=(n4:Int)) (A2 (EI.to (e_i v4 A7 (by decide)) hn4) A5) (by lia) (by lia)) (λj ρ=>PT (110+j) ρ) ⟨_,.no,.no,l0,rfl,rfl,rfl⟩ ?_ ?_)
 .rintro j d _ hj ⟨l,x5,x6,D,b5,b6,rfl⟩;obtain⟨rfl,hj2⟩:=N0 hj;rw[Ac8]at hj2;refine⟨_,B9,?_⟩;obtain⟨c,hc⟩:∃c:Int,cl M (9+(j:Int))=c:=⟨_,rfl⟩;refine A8 (C9 (d:=.int c) (EI.to (G1 (A2 v0 (A2 (P3 A7 v5) A5)) ⟨M,9+(j:Int),by lia,rfl,rfl⟩) hc) ?_)
  have m1:=eB5 c 3
  have m2:=eB5 c 7
  refine bZ0 (A2 v3 (A2 (P3 (e_i (G1 (A2 v6 (A2 A7 A5)) ⟨c,3,by decide,rfl,rfl⟩) A7 (cO5 (by lia) (by decide))) (G1 (A2 v6 (A2 A7 A5)) ⟨c,7,by decide,rfl,rfl⟩)) A5)) ⟨l,_,110+j,D,by lia,rfl,rfl⟩ (by rintro d ⟨l',h',rfl⟩;exact⟨l',_,_,h',rfl,rfl,rfl⟩)
 rintro _ ⟨l,x5,x6,D,b5,b6,rfl⟩;have D:Ln 150 l:=D.mono (by unfold Y9;simp;lia)
 refine A8 (dS6 (PT 150) (C4 (Y6 (e_i (e_i v4 A7 ⟨by decide,by decide⟩) A7 (by decide)) A7)) (λ_=>?_) (λ_=>E2 ⟨l,x5,x6,D,b5,b6,rfl⟩) ?_)
 .refine C9 (dZ1 (c:=32) (n:=hd / 36 % 4) (U4 (by decide)) (e_i (e_i v4 A7 ⟨by decide,by decide⟩) A7 (by decide)) (by lia)) ⟨_,x5,x6,⟨?_,λc hc=>?_⟩,b5,b6,rfl⟩
  .rw[Ct];lia
  .rw[List.eq_of_mem_replicate hc];decide
 rintro _ ⟨l,x5,x6,D,b5,b6,rfl⟩;refine A8 (dS6 (PT 150) (C4 (aD3 (e_i (e_i v4 A7 ⟨by decide,by decide⟩) A7 (by decide)) A7)) (λ_=>?_) (λ_=>E2 ⟨l,x5,x6,D,b5,b6,rfl⟩) ?_)
 .exact bZ0 (A2 (cel 10 rfl) A5) ⟨_,rfl,rfl⟩ (by rintro d ⟨l',h',rfl⟩;exact⟨l',x5,x6,h'.mono (by decide),b5,b6,rfl⟩)
 rintro _ ⟨l,x5,x6,D,b5,b6,rfl⟩;refine A8 (C9 (d:=bE5 l) (G1 (A2 v3 A5) ⟨l,D,rfl,rfl⟩) ?_);refine A8 (O4 (N1 (A2 A7 A5) (by decide) (by decide)) (λj ρ=>∃x8 x9,x8.nb=true/\x9.nb=true/\ρ=[.val (lI M),vI (m:Int),vD dr,.val (.str (tx l)),vI hd,x5,x6,.val (bE5 l),x8,x9]) ⟨.no,.no,rfl,rfl,rfl⟩ ?_ ?_)
 .rintro j d _ hj ⟨x8,x9,b8,b9,rfl⟩;obtain⟨rfl,hj2⟩:=N0 hj;refine⟨_,B9,?_⟩;refine A8 (C9 (d:=bE5 l) (G1 (A2 v3 A5) ⟨l,D,rfl,rfl⟩) ?_);rcases cM9 D with⟨z,k,hz,hd'⟩ | ⟨x,L,hd',hL,hx⟩
  .rw[hd'];have t1:=cL2 (K:=K) (m:=false) (ρ:=[.val (lI M),vI (m:Int),vD dr,.val (.str (tx l)),vI hd,x5,x6,.val (.tuple [.str z,.int k]),vI (j:Int),.val (.tuple [.str z,.int k])]) (d:=.tuple [.str z,.int k]) (d':=.tuple [.str z,.int k]) (B0 (i:=9) rfl) v7 (bZ9 hz) (bZ9 hz);rw[PySem.SeqAt.eqv_refl _ (bZ9 hz).1]at t1;exact O8 (b:=false) (bQ5 (a:=false) (b:=false) (C4 t1) λ_=>aT3 (a:=false) (b:=false) (aD8 (a:=true) (t_b (aV3 (d:=.str z) (G0 (ds:=[.str z,.int k]) v7 A7 rfl rfl)))) λh=>by cases h) (λh=>by cases h) (λ_=>E2 ⟨_,_,rfl,rfl,rfl⟩)
  .rw[hd'];have t1:=cL2 (K:=K) (m:=false) (ρ:=[.val (lI M),vI (m:Int),vD dr,.val (.str (tx l)),vI hd,x5,x6,.val (.tuple ((x::L).map tN)),vI (j:Int),.val (.tuple ((x::L).map tN))]) (d:=.tuple ((x::L).map tN)) (d':=.tuple ((x::L).map tN)) (B0 (i:=9) rfl) v7 (bQ9 _) (bQ9 _);rw[PySem.SeqAt.eqv_refl _ (bQ9 (x::L)).1]at t1;exact O8 (b:=false) (bQ5 (a:=false) (b:=false) (C4 t1) λ_=>aT3 (a:=true) (b:=false) (aD8 (a:=false) (t_b (aV3 (d:=tN x) (G0 (ds:=(x::L).map tN) v7 A7 rfl (S1 0 rfl rfl))))) λ_=>aD8 (a:=true) (t_b (G1 (A2 (B0 (i:=9) rfl) A5) ⟨x::L,hL,hx,rfl,rfl⟩))) (λh=>by cases h) (λ_=>E2 ⟨_,_,rfl,rfl,rfl⟩)
 .rintro _ ⟨x8,x9,b8,b9,rfl⟩;exact E1 (Y6 (eH1 (C:=a.C0) (nms:=["at"]) (ds:=[.int (hd % 7)]) (d:=.int (hd % 7)) (A2 (e_i v4 A7 (by decide)) A5) rfl (λd hd=>by simp at hd;rcases hd with rfl;rfl) (show 1<=1000 by decide) T.R5.gt T.R5.hd T.U5 rfl rfl) (e_i v4 A7 (by decide))) (by simp)
end
theorem fin_of {l:PySem.W.OpenLaw}{w:World}{fa f:Addr}{K:Frag}{mg:Str->Option Value}(y:mg "law" = some (.ref fa))(h:∃a:Ad,Tx K mg a/\a.cJ1=f/\∀(s:Shared) (v:Value),BindsTo s a.bS9 ⟨[v],[]⟩ [("_law_script",v)])
  : ∃fd:FuncData,(∀(s:Shared) (v:Value),BindsTo s fd ⟨[v],[]⟩ [("_law_script",v)])/\∀base:Heap,K.In base->base.Ns mainGlobals mg->J0 l.prog w K mg base CX0 9 fa fd ["_law_script"] (cJ8 K):=by
 obtain⟨a,T,k,z⟩:=h;have e:=y.symm.trans T.dS2.m;cases e;exact⟨a.bS9,z,λbase _ _=>dY4 T⟩
theorem walk {l:PySem.W.OpenLaw}{q:Program}{loose:AH}{XP:(Str->Option Value)->Heap->Prop}{YP:World->Heap->Prop}{d:DefRec}{K:Params->Frag}(m:l.most=some 63)(e:d.params.defaults=[])
  (j:∀(w:World) (h:Heap),YP w h->(K w.params).In h)
  (F:∀(w:World) (mg:Str->Option Value) (fa:Addr) (h:Heap),(K w.params).In h->h.Ns mainGlobals mg->mg d.name=some (.ref fa) ->
   ∃fd:FuncData,(∀(s:Shared) (u:Value),BindsTo s fd ⟨[u],[]⟩ [("_law_script",u)])/\∀base:Heap,(K w.params).In base->base.Ns mainGlobals mg->J0 l.prog w (K w.params) mg base CX0 9 fa fd ["_law_script"] (cJ8 (K w.params))) :
  PySem.W.WalkO q loose XP YP l.row.toRowW d [] (λf vs=>PySem.call f vs):=
 L2.dJ3 (n:=63) (k:=9) (x := "_law_script") (CX:=λ_=>CX0) (sp:=λw=>cJ8 (K w.params)) m (by decide) e ⟨rfl,by decide,by decide⟩ j F (λ_ _ a Y c _ y=>⟨a,Y,rfl,y,c,λ_=>rfl⟩) λ_ _ _ _ _ z=>z
end K05
namespace PySem.W.Fast
def tw7844185248227491856:=0
def tw3751642529707352113:=0
def tw10637040546364176725:=0
def tw3973801001782106141:=0
def tw2421384847623798348:=0
def tw4897883240335783015:=0
def tw1617004960099844397:=0
def tw15239037750772894245:=0
def tw14183160051136794047:=0
def tw9581296010919103483:=0
def tw8161937730811810688:=0
def tw3050049837959112930:=0
def tw14013505810188711392:=0
def tw18196592387429766108:=0
def tw3214342787988693624:=0
def tw17425693674218473658:=0
def tw13168936825704766379:=0
def tw13090013416450555784:=0
def tw16701023204434951513:=0
def tw9813129189454541574:=0
def tw4205726098647869390:=0
def tw4612625722855090897:=0
def tw13893433494619303857:=0
def tw7979758440676283057:=0
def tw12480803891792240988:=0
def tw1529204737298484887:=0
def tw9499693679453938793:=0
def tw3026098161879263065:=0
def tw13205517802738993426:=0
def tw15126913044002823386:=0
def tw2243192828019323797:=0
def tw15236030881037560710:=0
def tw6540815984606525119:=0
def tw16693890203724184455:=0
def tw10234582815136181596:=0
def tw15383578076859976449:=0
def tw12192454214975670094:=0
def tw9710162846149126123:=0
def tw15461274733190649933:=0
def tw12745472838264607843:=0
def tw3540995828577843409:=0
def tw8792272277762679293:=0
def tw13320043271326132248:=0
def tw14571506038361452737:=0
def tw8937504821831978445:=0
def tw15724099332449528925:=0
def tw11011737557799066059:=0
def tw4753284576253334527:=0
def tw16568948040954790449:=0
def tw18285791319524233957:=0
def tw3124268830761118080:=0
def tw9080096861196172018:=0
def tw13047679130205498172:=0
def tw5752977112639008039:=0
def tw1115131513082148994:=0
def tw17469548293567858347:=0
def tw17237483016043824414:=0
def tw12956245518548262536:=0
def tw16481167245178851162:=0
def tw15778499341221363281:=0
def tw11207791294233873637:=0
def tw3057785355709017938:=0
def tw16261659682680119154:=0
def tw18310245272713383825:=0
def tw16708484044012154304:=0
def tw12222340524327174614:=0
def tw16975097321204016960:=0
def tw13250269679600598649:=0
def tw3624192607873576653:=0
def tw7964199843012703783:=0
def tw6011968836571422105:=0
def tw8268123488908251458:=0
def tw15799617926382150197:=0
def tw17290523354721507260:=0
def tw2629965999538758573:=0
def tw6836591153846680692:=0
def tw14902037200861403260:=0
def tw5500672004180408471:=0
def tw2606079787693563310:=0
def tw1195390634527315869:=0
def tw2794553390165461399:=0
def tw15076648189899104208:=0
def tw14236534474183819138:=0
def tw15070147508748482203:=0
def tw14373673355965919857:=0
def tw214210793887724612:=0
def tw6536414277918770349:=0
def tw11081772121591203555:=0
def tw13562601787459032459:=0
def tw5026354647248311034:=0
def tw13501130196777005557:=0
def tw4569301120870968382:=0
def tw2117654014215767317:=0
def tw13422493536190265341:=0
def tw3684066049722136984:=0
def tw13458664430996365032:=0
def tw8578694951656359329:=0
def tw3077714568462359582:=0
def tw17040701607565113808:=0
def tw13567963976496204628:=0
def tw364948253602722637:=0
def tw16128005031300801713:=0
def tw13711037187695189608:=0
def tw9463609831290851917:=0
def tw18380645236138070256:=0
def tw14398265118135135300:=0
def tw12835193879803692265:=0
def tw8437526867149992242:=0
def tw505336983393748616:=0
def tw1683228194299656045:=0
def tw14198239730873957196:=0
def tw2630244508161038615:=0
def tw598540437236562310:=0
def tw6958109045137344706:=0
def tw1003395499770034997:=0
def tw16959500598479138793:=0
def tw7199755326903178508:=0
def tw10832328461691171956:=0
def tw15682808983958560939:=0
def tw1169508792745501297:=0
def tw13620362159237144420:=0
def tw3944004856390327054:=0
def tw6733167530734898114:=0
def tw10357666270936268228:=0
def tw2889745723412727279:=0
def tw5307125454689916576:=0
def tw17281348015333566429:=0
def tw14987585614178000629:=0
def tw7652716918023725537:=0
def tw17711151698720576813:=0
def tw15686572851312711048:=0
def tw13985019683767882420:=0
def tw8813826305201938757:=0
def tw5747592477046426973:=0
def tw1360691926701617468:=0
def tw8574073732747249917:=0
def tw9055211323791652354:=0
def tw10163337054383328867:=0
def tw404982915375664594:=0
def tw12921362391850588817:=0
def tw2225984375512013667:=0
def tw4363573720911122565:=0
def tw4029088678488292073:=0
def tw15759317169273617576:=0
def tw15386044535979481005:=0
def tw11927120042145958064:=0
def tw14846226102888501233:=0
def tw12909948143685847956:=0
def tw2043181805513861279:=0
def tw5053665872766595685:=0
def tw5296747086739861255:=0
def tw14112985981708433283:=0
def tw1246563809798940869:=0
def tw17883065946869791765:=0
def tw4012134044847341672:=0
def tw11853487031173133797:=0
def tw18331755180147444807:=0
def tw17545535751312415073:=0
def tw10935648147828221323:=0
def tw14216346221585453343:=0
def tw5145121607637242183:=0
def tw3391273867661821084:=0
def tw7946018468945828824:=0
def tw10517387087263481075:=0
def tw11358459510613948033:=0
def tw6402021864186644158:=0
def tw9379497067041152197:=0
def tw10699648367063484535:=0
def tw12594047186827313372:=0
def tw14434920304297875268:=0
def tw9173640810519388140:=0
def tw9405177246051414514:=0
def tw1408262860738505045:=0
def tw6525325024288065148:=0
def tw5722042320368594459:=0
def tw13289083216360926772:=0
def tw17384286672346598055:=0
def tw12535566151179487666:=0
def tw1866908301182251074:=0
def tw17085273681252602139:=0
def tw12366266462132819865:=0
def tw4262030623755559919:=0
def tw11756759215826549879:=0
def tw9902352032807714632:=0
def tw5962370646241612042:=0
def tw2088952238605296642:=0
def tw4460063755068358418:=0
def tw10087676878657052575:=0
def tw18102229304554057057:=0
def tw8956474814040102117:=0
def tw15626133355283309268:=0
def tw3432777789415831351:=0
def tw13012692677589117594:=0
def tw11686683915918511173:=0
def tw16376529935343602090:=0
def tw11018021528837908834:=0
def tw2972358626500084942:=0
def tw648407819265366956:=0
def tw5361699520818950845:=0
def tw16491519481238404548:=0
end PySem.W.Fast
open PySem PySem.W PyProof.Rows
set_option maxRecDepth 100000 in
set_option maxHeartbeats 0 in
theorem PySem.Challenge.cw_threetrees_k05_texts_refused_holds : PySem.Challenge.rw_threetrees_k05_texts_refused.Holds := by
 w_on;o_law;k_head;(case hw=>w_witness2)
 k_fill
 refine K05.walk (l:=PySem.Challenge.rw_threetrees_k05_texts_refused) rfl rfl (λw h Y=>PySem.W.kIn_of Y) ?F
 case F=>
  intro w mg fa h KX G hmg;refine' K05.fin_of hmg (K05.tx_mk KX G ⟨_,L2.E5 _ _ _⟩ ⟨_,L2.E5 _ _ _⟩ ⟨_,L2.E5 _ _ _⟩ ⟨_,L2.E5 _ _ _⟩ ⟨_,L2.E5 _ _ _⟩ ⟨_,L2.E5 _ _ _⟩ ⟨_,L2.E5 _ _ _⟩ ⟨_,L2.E5 _ _ _⟩ ⟨_,L2.E5 _ _ _⟩ ⟨_,L2.E5 _ _ _⟩ ⟨_,L2.E5 _ _ _⟩ ⟨_,L2.E5 _ _ _⟩ ⟨_,L2.E5 _ _ _⟩ ⟨_,L2.E5 _ _ _⟩ ⟨_,L2.E5 _ _ _⟩ ⟨_,L2.E5 _ _ _⟩ ⟨_,L2.E5 _ _ _⟩ ⟨_,L2.E5 _ _ _⟩ ⟨_,L2.E5 _ _ _⟩ ⟨_,L2.E5 _ _ _⟩ ⟨_,L2.E5 _ _ _⟩ ⟨_,L2.E5 _ _ _⟩ ⟨_,L2.E5 _ _ _⟩ ⟨_,L2.E5 _ _ _⟩ ⟨_,L2.E5 _ _ _⟩ ⟨_,L2.E5 _ _ _⟩ ⟨_,L2.E5 _ _ _⟩ ⟨_,L2.E5 _ _ _⟩ ⟨_,L2.E5 _ _ _⟩ ⟨_,L2.E5 _ _ _⟩ ⟨_,L2.E5 _ _ _⟩ ⟨_,L2.E5 _ _ _⟩ ⟨_,L2.E5 _ _ _⟩ ⟨_,L2.E5 _ _ _⟩ ⟨_,L2.E5 _ _ _⟩ ⟨_,L2.E5 _ _ _⟩ _ _ _ _ _ _ _ _ _ _ _ _ _ _ _ _ _ _ _ _ _ _ _ _ _ _ _ _ (K05.ex_mk _ _ _) (K05.ex_mk _ _ _) (K05.ex_mk _ _ _) (K05.ex_mk _ _ _) (K05.ex_mk _ _ _) (K05.ex_mk _ _ _) (K05.ex_mk _ _ _) (K05.ex_mk _ _ _) (K05.ex_mk _ _ _) (K05.ex_mk _ _ _) (K05.ex_mk _ _ _) (K05.ex_mk _ _ _) (K05.ex_mk _ _ _) _ _ _ _ _ _ _ _ ⟨_,_,_,_,_⟩ ⟨_,_,_,_,_⟩ (K05.sb_mk _) (K05.sb_mk _) _ _ _ _ _ _ _ _ _ _ _ _ _ _ _ _ _ _ _ _ _ _ _ _ _ _ _ _ _ _ _ _ _ _)
  any_goals first | k_is | k_exc | kernel_rfl
