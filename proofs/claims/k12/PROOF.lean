import PyProof.Rows.All
import Wide.All
import OpenK.AllK
import Wide.FinOn
import Lean
import PyProof.EqAt
import PyProof.EqKinds
import PyProof.TupleCall
import KE.KDictList
import PyProof.Rows.TupDisplay
import PyProof.ZipIter
import PySem.Challenge.RW_threetrees_k12_arrows_taken
set_option genSizeOfSpec false
set_option linter.all false
set_option Elab.async false
set_option maxRecDepth 100000
set_option linter.defProp false
def Aa0:=@List.mem_append
def Aa1:=@List.mem_cons
def Aa2:=@List.getElem?_eq_getElem
def Aa3:=@List.length_map
def Aa4:=@List.nodup_append
def Aa5:=@List.nodup_cons
def Aa6:=@PySem.Heap.get?_push_of_some
def Aa7:=@Nat.le_refl
def Aa8:=@List.mem_map
def Aa9:=@List.getElem?_map
def Ab0:=@List.getElem?_eq_some_iff
def Ab1:=@PySem.F.plainAttrs_list
def Ab2:=@List.size_toArray
def Ab3:=@PySem.Heap.lt_size
def Ab4:=@Option.some.inj
def Ab5:=@List.mem_range
def Ab6:=@List.cons_append
def Ab7:=@List.length_append
def Ab8:=@Nat.lt_of_lt_of_le
def Ab9:=@Nat.ne_of_lt
def Ac0:=@List.getD_eq_getElem?_getD
def Ac1:=@List.mem_append_right
def Ac2:=@List.not_mem_nil
def Ac3:=@PySem.Heap.get?_push_size
def Ac4:=@List.eq_nil_or_concat
def Ac5:=@List.nodup_iff_pairwise_ne
def Ac6:=@List.map_cons
def Ac7:=@Int.toNat_natCast
def Ac8:=@List.all_eq_true
def Ac9:=@List.getElem?_set_ne
def Ad0:=@List.length_take
def Ad1:=@List.map_append
def Ad2:=@List.take_append_drop
def Ad3:=@List.mem_cons_of_mem
def Ad4:=@List.getElem?_eq_none
def Ad5:=@List.append_assoc
def Ad6:=@List.mem_singleton
def Ad7:=@Nat.lt_irrefl
def Ad8:=@List.pairwise_map
def Ad9:=@List.length_reverse
def Ae0:=@List.map_map
namespace L2
open PySem PySem.Spec PyProof.Rows
abbrev Key:=Sum Int Str
def cR9:Key->Value->Bool
 | .inl k,v=>Value.isInt k v
 | .inr x,v=>Value.isStrOf x v
def dI1 (w:World):Key->Int
 | .inl k=>hashInt k
 | .inr x=>hashStr w x
theorem N1:∀{k:Key} {v:Value},cR9 k v=true->(∃i t,k=Sum.inl i/\v=Value.int i t)\/(∃x t,k=Sum.inr x/\v=Value.str x t)
 | .inl i,v,h=>by
  obtain ⟨t,e⟩:=Value.isInt_shape (k:=i) (v:=v) h;exact .inl ⟨i,t,rfl,e⟩
 | .inr x,v,h=>by
  obtain ⟨t,e⟩:=Value.isStrOf_shape (x:=x) (v:=v) h;exact .inr ⟨x,t,rfl,e⟩
theorem cZ4 (a b:Int):decide ((Sum.inl a:Key)=Sum.inl b)=(a==b):=by
 by_cases e:a=b
 ·subst e;simp
 ·have h:¬(Sum.inl a:Key)=Sum.inl b:=λq=>e (Sum.inl.inj q)
  rw[decide_eq_false h];exact(beq_eq_false_iff_ne.mpr e).symm
theorem dA4 (a b:Str):decide ((Sum.inr a:Key)=Sum.inr b)=decide (a=b):=by
 by_cases e:a=b
 ·subst e;simp
 ·have h:¬(Sum.inr a:Key)=Sum.inr b:=λq=>e (Sum.inr.inj q)
  rw[decide_eq_false h,decide_eq_false e]
theorem dB5 (a:Int)(b:Str):decide ((Sum.inl a:Key)=Sum.inr b)=false:=decide_eq_false (λq=>nomatch q)
theorem cU9 (a:Str)(b:Int):decide ((Sum.inr a:Key)=Sum.inl b)=false:=decide_eq_false (λq=>nomatch q)
def bS1 (prog:Program)(w:World):PySem.KeyKind prog w Key where
 is:=cR9
 hash:=dI1 w
 inj:=λv a b ha hb=>by
  rcases N1 ha with ⟨i,t,rfl,rfl⟩ | ⟨x,t,rfl,rfl⟩
  ·rcases N1 hb with ⟨j,u,rfl,e⟩ | ⟨y,u,rfl,e⟩
   ·injection e with e1 _;rw[e1]
   ·exact nomatch e
  ·rcases N1 hb with ⟨j,u,rfl,e⟩ | ⟨y,u,rfl,e⟩
   ·exact nomatch e
   ·injection e with e1 _;rw[e1]
 byValue:=λk v h=>by
  rcases N1 h with ⟨i,t,rfl,rfl⟩ | ⟨x,t,rfl,rfl⟩ <;> rfl
 pyHash:=λhv h=>by
  rcases N1 hv with ⟨i,t,rfl,rfl⟩ | ⟨x,t,rfl,rfl⟩
  ·exact wpAny_pyHash_int h
  ·exact wpAny_pyHash_str h
 eqBool:=λhu hv h=>by
  rcases N1 hu with ⟨i,t,rfl,rfl⟩ | ⟨x,t,rfl,rfl⟩
  ·rcases N1 hv with ⟨j,u,rfl,rfl⟩ | ⟨y,u,rfl,rfl⟩
   ·rw[cZ4]at h;exact wpAny_eqBool_int h
   ·rw[dB5]at h;exact SeqAt.EqAt.int_str i t y u _ _ _ _ h
  ·rcases N1 hv with ⟨j,u,rfl,rfl⟩ | ⟨y,u,rfl,rfl⟩
   ·rw[cU9]at h;exact SeqAt.EqAt.str_int x t j u _ _ _ _ h
   ·rw[dA4]at h;exact wpAny_eqBool_str h
 «strs» := λk x t v h=>by
  rcases N1 h with ⟨i,u,rfl,e⟩ | ⟨y,u,rfl,e⟩
  ·exact nomatch e
  ·injection e with e1 _
   subst e1;cases v <;> rfl
inductive V where
 | non | bl (b:Bool) | int (i:Int) | str (x:Str) | byt (b:Array UInt8) | flt (b:UInt64) | ref (a:Addr) | ty (n:String)
 deriving DecidableEq
def RelV:V->Value->Prop
 | .non,u=>u=Value.none
 | .bl b,u=>u=Value.bool b
 | .int i,u=>∃t,u=Value.int i t
 | .str x,u=>∃t,u=Value.str x t
 | .byt b,u=>∃t,u=Value.bytes b t
 | .flt b,u=>∃t,u=Value.float b t
 | .ref a,u=>u=Value.ref a
 | .ty n,u=>u=Value.type n
abbrev Vals:List V->List Value->Prop:=Paired RelV
theorem Vals.length {xs:List V}{us:List Value}(r:Vals xs us):xs.length=us.length:=Paired.length r
theorem Vals.get:∀{xs:List V} {us:List Value} {i:Nat} {x:V},Vals xs us->xs[i]? = some x->∃u,us[i]? = some u/\RelV x u
 | _,_,_,_,.nil,e=>by simp at e
 | _,_,0,_,.cons r _,e=>by simp at e;subst e;exact⟨_,rfl,r⟩
 | _,_,i+1,x,.cons _ t,e=>by
  obtain ⟨u,h1,h2⟩:=Vals.get (i:=i) (x:=x) t (by simpa using e)
  exact⟨u,by simpa using h1,h2⟩
theorem Vals.set {x:V}{u:Value}(r:RelV x u):∀{xs:List V} {us:List Value} (i:Nat),Vals xs us->Vals (xs.set i x) (us.set i u)
 | _,_,_,.nil=>.nil
 | _,_,0,.cons _ t=>.cons r t
 | _,_,i+1,.cons q t=>.cons q (Vals.set r i t)
theorem Vals.append:∀{xs ys:List V} {us ws:List Value},Vals xs us->Vals ys ws->Vals (xs++ys) (us++ws)
 | _,_,_,_,.nil,s=>s
 | _,_,_,_,.cons r t,s=>.cons r (Vals.append t s)
theorem Vals.take:∀{xs:List V} {us:List Value} (n:Nat),Vals xs us->Vals (xs.take n) (us.take n)
 | _,_,0,_=>.nil
 | _,_,_+1,.nil=>.nil
 | _,_,n+1,.cons r t=>.cons r (Vals.take n t)
theorem Vals.drop:∀{xs:List V} {us:List Value} (n:Nat),Vals xs us->Vals (xs.drop n) (us.drop n)
 | _,_,0,r=>r
 | _,_,_+1,.nil=>.nil
 | _,_,n+1,.cons _ t=>Vals.drop n t
def RelO:Option V->Option Value->Prop
 | some v,some u=>RelV v u
 | none,none=>True
 | _,_=>False
def KV {κ:Type}:List (κ×V)->List (κ×Value)->Prop:=Paired λ(p:κ×V) (q:κ×Value)=>p.1=q.1/\RelV p.2 q.2
def kV:Key->V
 | .inl i=>.int i
 | .inr x=>.str x
inductive HO where
 /-- a list -/
 | lst (xs:List V)
 /-- a tuple (never changes) -/
 | tup (xs:List V)
 /-- a dict whose keys are ints and texts;one whose keys are tuples of ints and texts (the empty one is both) -/
 | dK (kvs:List (Key×V)) | dT (kvs:List (List Key×V))
 /-- a set of ints: its members,its size -/
 | set (S:Int->Bool) (n:Nat)
 /-- an instance of the class at C,its dict at dx,its attributes -/
 | ins (C dx:Addr) (fs:List (Str×V))
 /-- the dict of the instance at x -/
 | own (x:Addr)
 /-- the dict of an exception -/
 | xd (fs:List (Str×V))
 /-- a bound method,f of x -/
 | met (f x:Addr)
 /-- a range object lo,lo+1,.. below hi -/
 | rng (lo hi:Int)
 /-- a thing that is known to the object (the script;a dict while a loop walks it): read,never written while it is so -/
 | frz (o:Obj) (u:HO)
 /-- a code object's table -/
 | tbl (ps:Array Value)
 /-- any other thing,by what is true of its one object (a def of one's own: SetO a S n:=HO.ext λh=>..) -/
 | ext (φ:Heap->Prop)
abbrev Hp:=Addr->Option HO
def upd (H:Hp)(a:Addr)(o:HO):Hp:=λb=>if b=a then some o else H b
theorem B7 {H:Hp}{a:Addr}{o:HO}:upd H a o a=some o:=by unfold upd;rw[if_pos rfl]
theorem B1 {H:Hp}{a b:Addr}{o:HO}(h:b≠a):upd H a o b=H b:=by unfold upd;rw[if_neg h]
theorem C9 {H:Hp}{a b:Addr}{o:HO}(h:H a=some o)(h':H b=none):a≠b:=by
 intro e;subst e;rw[h]at h';cases h'
def Tup0 (h:Heap)(a:Addr)(items:Array Value):Prop:=∃o,h.get? a=some o/\o.cls=.type "tuple" /\ (∃n,o.data=.seq items n)/\o.dict=none
theorem Tup0.tup {h:Heap}{a:Addr}{items:Array Value}(p:Tup0 h a items):IsTup h a items:=p.imp λ_ q=>⟨q.1,q.2.1,q.2.2.1⟩
theorem Tup0.nw (h:Heap)(items:Array Value)(n:Nat):Tup0 (h.push {cls:=.type "tuple",data:=.seq items n}) h.objs.size items:=⟨_,Ac3 _ rfl,rfl,⟨n,rfl⟩,rfl⟩
section
variable (P:Program)(w:World)
def ObjOk (H:Hp)(h:Heap)(a:Addr):HO->Prop
 | .lst xs=>xs.length<=sizeLine/\∃(its:List Value) (n:Nat),Vals xs its/\h.get? a=some {cls:=.type "list",data:=.seq its.toArray n}
 | .tup xs=>xs.length<=sizeLine/\∃its:List Value,Vals xs its/\Tup0 h a its.toArray
 | .dK kvs=>kvs.length<=sizeLine/\(a==sysModules)=false/\∃vs,KV kvs vs/\h.DictOf (bS1 P w) a vs
 | .dT kvs=>kvs.length<=sizeLine/\(a==sysModules)=false/\∃xs:List (List Key×Addr×Value),
   Paired (λ(p:List Key×V) (q:List Key×Addr×Value)=>p.1=q.1/\H q.2.1=some (.tup (p.1.map kV))/\RelV p.2 q.2.2) kvs xs /\
   ∃o es ep,h.get? a=some o/\o.ExactDict/\o.data=.dict es ep/\es.toList=xs.map (entryOfKey (tupleKind (bS1 P w)))/\(xs.map (·.1)).Nodup
 | .set S n=>h.SetOf (intKind P w) a S n
 | .ins C dx fs=>H dx=some (.own a)/\fs.length<=1000/\dx≠a/\h.get? a=some (PySem.W.instObj C dx) /\
   ∃mA,h.Ns1 dx mA/\(∀f,RelO (fs.lookup f) (mA f))/\PySem.Within mA (fs.map (·.1))
 | .own _=>∃o,h.get? a=some o
 | .xd fs=>∃mA,h.Ns1 a mA/\∀f,RelO (fs.lookup f) (mA f)
 | .rng lo hi=>∃t u v,h.get? a=some {cls:=.type "range",data:=.fields #[.int lo t,.int hi u,.int 1 v]}
 | .frz o u=>h.get? a=some o/\ObjOk H h a u
 | .tbl ps=>h.get? a=some {cls:=.none,data:=.fields ps}
 | .met f x=>h.get? a=some (PySem.W.methodObj (.ref f) (.ref x))
 | .ext φ => φ h/\(∃o,h.get? a=some o)/\∀h1 h2:Heap,φ h1->(∀o,h1.get? a=some o->h2.get? a=some o)->φ h2
def HOk (H:Hp)(h:Heap):Prop:=∀a o,H a=some o->ObjOk P w H h a o
end
section
variable {P:Program}{w:World}{H H':Hp}{h h':Heap}{a:Addr}{o:HO}
theorem ObjOk.lt (x:ObjOk P w H h a o):a<h.objs.size:=by
 cases o with
 | lst xs=>obtain ⟨_,_,_,_,e⟩:=x;exact Ab3 e
 | tup xs=>obtain ⟨_,_,_,p⟩:=x;exact p.tup.lt
 | dK kvs=>obtain ⟨_,_,_,_,o,_,_,e,_⟩:=x;exact Ab3 e
 | dT kvs=>obtain ⟨_,_,_,_,o,_,_,e,_⟩:=x;exact Ab3 e
 | set S n=>obtain ⟨o,_,_,_,e,_⟩:=x;exact Ab3 e
 | ins C dx fs=>obtain ⟨_,_,_,e,_⟩:=x;exact Ab3 e
 | own y=>obtain ⟨_,e⟩:=x;exact Ab3 e
 | xd fs=>obtain ⟨_,⟨_,_,_,e,_⟩,_⟩:=x;exact Ab3 e
 | rng lo hi=>obtain ⟨_,_,_,e⟩:=x;exact Ab3 e
 | frz ob u=>obtain ⟨e,_⟩:=x;exact Ab3 e
 | tbl ps=>exact Ab3 (show h.get? a=some _ from x)
 | met f y=>exact Ab3 (show h.get? a=some _ from x)
 | ext φ=>obtain ⟨_,⟨_,e⟩,_⟩:=x;exact Ab3 e
theorem Paired.mapP {α β:Type}{F G:α->β->Prop}:∀{l₁:List α} {l₂:List β},Paired F l₁ l₂->(∀a b,F a b->G a b)->Paired G l₁ l₂
 | _,_,.nil,_=>.nil
 | _,_,.cons r t,f=>.cons (f _ _ r) (Paired.mapP t f)
theorem ObjOk.stay (x:ObjOk P w H h a o)(k:∀b u,(b=a\/H b=some (.own a))->h.get? b=some u->h'.get? b=some u)
  (ho:∀b,H b=some (.own a)->H' b=some (.own a)) (ht:∀b xs,H b=some (.tup xs)->H' b=some (.tup xs)):ObjOk P w H' h' a o:=by
 induction o with
 | lst xs=>obtain ⟨z,its,n,r,e⟩:=x;exact⟨z,its,n,r,k _ _ (.inl rfl) e⟩
 | tup xs=>obtain ⟨z,its,r,ob,e,c⟩:=x;exact⟨z,its,r,ob,k _ _ (.inl rfl) e,c⟩
 | dK kvs=>obtain ⟨z,y,vs,r,ob,es,ep,e,c⟩:=x;exact⟨z,y,vs,r,ob,es,ep,k _ _ (.inl rfl) e,c⟩
 | dT kvs=>
  obtain ⟨z,y,xs,r,ob,es,ep,e,c⟩:=x;exact⟨z,y,xs,Paired.mapP r λp q z=>⟨z.1,ht _ _ z.2.1,z.2.2⟩,ob,es,ep,k _ _ (.inl rfl) e,c⟩
 | set S n=>obtain ⟨ob,es,ep,t,e,c⟩:=x;exact⟨ob,es,ep,t,k _ _ (.inl rfl) e,c⟩
 | ins C dx fs=>
  obtain ⟨d,z,ne,e,mA,⟨od,es,ep,e2,c⟩,r⟩:=x;exact⟨ho _ d,z,ne,k _ _ (.inl rfl) e,mA,⟨od,es,ep,k _ _ (.inr d) e2,c⟩,r⟩
 | own y=>obtain ⟨ob,e⟩:=x;exact⟨ob,k _ _ (.inl rfl) e⟩
 | xd fs=>obtain ⟨mA,⟨od,es,ep,e,c⟩,r⟩:=x;exact⟨mA,⟨od,es,ep,k _ _ (.inl rfl) e,c⟩,r⟩
 | rng lo hi=>obtain ⟨t,u,v,e⟩:=x;exact⟨t,u,v,k _ _ (.inl rfl) e⟩
 | frz ob u ih=>obtain ⟨e,q⟩:=x;exact⟨k _ _ (.inl rfl) e,ih q⟩
 | tbl ps=>
  have e:h.get? a=some {cls:=.none,data:=.fields ps}:=x
  show h'.get? a=some {cls:=.none,data:=.fields ps}
  exact k a _ (.inl rfl) e
 | met f y=>
  have e:h.get? a=some (PySem.W.methodObj (.ref f) (.ref y)):=x
  show h'.get? a=some (PySem.W.methodObj (.ref f) (.ref y))
  exact k a _ (.inl rfl) e
 | ext φ=>obtain ⟨p,⟨o,e⟩,st⟩:=x;exact⟨st _ _ p λo q=>k _ _ (.inl rfl) q,⟨o,k _ _ (.inl rfl) e⟩,st⟩
theorem HOk.lt (x:HOk P w H h)(e:H a=some o):a<h.objs.size:=(x a o e).lt
theorem HOk.fresh (x:HOk P w H h)(e:h.objs.size<=a):H a=none:=by
 cases q:H a with
 | none=>rfl
 | some u=>exact absurd (Ab8 (x.lt q) e) (Ad7 _)
theorem HOk.kept (x:HOk P w H h)(k:∀b u,h.get? b=some u->h'.get? b=some u):HOk P w H h':=λa o e=>
 (x a o e).stay (λb u _ q=>k b u q) (λ_ q=>q) λ_ _ q=>q
theorem HOk.laid (x:HOk P w H h)(k:∀b u,h.get? b=some u->h'.get? b=some u)(hp:h.objs.size<=a)(new:ObjOk P w (upd H a o) h' a o):HOk P w (upd H a o) h':=λb u e=>by
 have hn:=x.fresh hp
 by_cases hb:b=a
 ·subst hb;rw[B7]at e;cases e;exact new
 ·rw[B1 hb]at e;exact(x b u e).stay (λc v _ q=>k c v q) (λc q=>by rw[B1 (C9 q hn)];exact q) λc xs q=>by rw[B1 (C9 q hn)];exact q
end
def Rd (H:Hp)(a:Addr)(u:HO):Prop:=H a=some u\/∃o,H a=some (.frz o u)
theorem Rd.ok {P:Program}{w:World}{H:Hp}{h:Heap}{a:Addr}{u:HO}(r:Rd H a u)(x:HOk P w H h):ObjOk P w H h a u:=by
 rcases r with r | ⟨o,r⟩
 ·exact x a u r
 ·obtain ⟨_,q⟩:=x a _ r;exact q
def Mut:Option HO->Prop
 | some (.lst _)=>True
 | some (.dK _)=>True
 | some (.dT _)=>True
 | some (.set _ _)=>True
 | some (.ins _ _ _)=>True
 | some (.ext _)=>True
 | _=>False
section
variable {P:Program}{w:World}{H:Hp}{h h':Heap}{x e:Addr}{o':HO}
theorem HOk.write (ok:HOk P w H h)(mu:Mut (H x))(he:e=x\/H e=some (.own x))(k:∀b u,b≠e->h.get? b=some u->h'.get? b=some u)(heo:∃u,h'.get? e=some u)
  (new:ObjOk P w (upd H x o') h' x o'):HOk P w (upd H x o') h':=λb u q=>by
 have nown:∀c y,H c=some (.own y)->c≠x:=λc y r z=>by subst z;rw[r]at mu;exact mu
 have ntup:∀c xs,H c=some (.tup xs)->c≠x:=λc xs r z=>by subst z;rw[r]at mu;exact mu
 by_cases hb:b=x
 ·subst hb;rw[B7]at q;cases q;exact new
 ·rw[B1 hb]at q;by_cases hbe:b=e
  ·have q':H b=some (.own x):=by
    rcases he with z | z
    ·exact absurd (hbe.trans z) hb
    ·rw[hbe];exact z
   rw[q]at q';cases q';obtain ⟨v,hv⟩:=heo;exact⟨v,by rw[hbe];exact hv⟩
  ·refine(ok b u q).stay (λc v hc r=>k c v ?_ r) (λc r=>by rw[B1 (nown c b r)];exact r) λc xs r=>by rw[B1 (ntup c xs r)];exact r
   rcases hc with rfl | hc
   ·exact hbe
   ·rintro rfl;rcases he with z | z
    ·exact nown c b hc z
    ·rw[hc]at z;cases z;exact hb rfl
end
structure Un (fs ex:List Addr)(H H':Hp)(h h':Heap):Prop where
 keep:∀b o,h.get? b=some o->H b=none->b∉fs->b∉ex->h'.get? b=some o
 slot:∀b o,h.get? b=some o->H b=none->b∈fs->b∉ex->∃sl,h'.get? b=some {o with slots:=sl}
 free:∀b o,h.get? b=some o->H b=none->b∉ex->H' b=none
 there:∀b o,h.get? b=some o->b∉ex->∃o',h'.get? b=some o'
 tups:∀b xs,H b=some (.tup xs)->H' b=some (.tup xs)
 frzs:∀b o u,H b=some (.frz o u)->H' b=some (.frz o u)
 tbls:∀b ps,H b=some (.tbl ps)->∃more,H' b=some (.tbl (ps++more))
section
variable {fs fs' ex ex':List Addr}{H H1 H2:Hp}{h h1 h2 h':Heap}{a x e:Addr}{o:HO}
theorem Un.any (u:Un fs ex H H1 h h1){b:Addr}{ob:Obj}(q:h.get? b=some ob)(n:H b=none)(hx:b∉ex):∃sl,h1.get? b=some {ob with slots:=sl}:=by
 by_cases hb:b∈fs
 ·exact u.slot b ob q n hb hx
 ·exact⟨ob.slots,u.keep b ob q n hb hx⟩
theorem Un.kept (k:∀b u,h.get? b=some u->h'.get? b=some u):Un fs ex H H h h':=
 ⟨λb ob q _ _ _=>k b ob q,λb ob q _ _ _=>⟨ob.slots,k b ob q⟩,λ_ _ _ n _=>n,λb ob q _=>⟨ob,k b ob q⟩,λ_ _ q=>q,λ_ _ _ q=>q,λ_ ps q=>⟨#[],by rw[q];simp⟩⟩
theorem Un.refl:Un fs ex H H h h:=Un.kept λ_ _ q=>q
theorem Un.laid (k:∀b u,h.get? b=some u->h'.get? b=some u)(hp:h.objs.size<=a)(hn:H a=none):Un fs ex H (upd H a o) h h' where
 keep:=λb u q _ _ _=>k b u q
 slot:=λb u q _ _ _=>⟨u.slots,k b u q⟩
 free:=λb u q n _=>by rw[B1 (Ab9 (Ab8 (Ab3 q) hp))];exact n
 there:=λb u q _=>⟨u,k b u q⟩
 tups:=λb xs q=>by rw[B1 (C9 q hn)];exact q
 frzs:=λb u xs q=>by rw[B1 (C9 q hn)];exact q
 tbls:=λb ps q=>⟨#[],by rw[B1 (C9 q hn),q];simp⟩
theorem Un.write (mu:Mut (H x))(he:e=x\/H e=some (.own x))(k:∀b u,b≠e->h.get? b=some u->h'.get? b=some u)(heo:∃u,h'.get? e=some u):Un fs ex H (upd H x o) h h':=by
 have hx:∀b,H b=none->b≠x:=λb n z=>by subst z;rw[n]at mu;exact mu
 have hb:∀b,H b=none->b≠e:=λb n z=>by
  subst z;rcases he with r | r
  ·exact hx b n r
  ·rw[n]at r;cases r
 have hm:∀b u,H b=some u->¬Mut (some u)->b≠x:=λb u q nm z=>by subst z;rw[q]at mu;exact nm mu
 refine⟨λb u q n _ _=>k b u (hb b n) q,λb u q n _ _=>⟨u.slots,k b u (hb b n) q⟩,λb u q n _=>by rw[B1 (hx b n)];exact n,λb u q _=>?_,
  λb xs q=>by rw[B1 (hm b _ q λz=>z)];exact q,λb u xs q=>by rw[B1 (hm b _ q λz=>z)];exact q,λb ps q=>⟨#[],by rw[B1 (hm b _ q λz=>z),q];simp⟩⟩
 by_cases hbe:b=e
 ·subst hbe;exact heo
 ·exact⟨u,k b u hbe q⟩
end
def trk (h:Heap)(H:Hp):List Addr:=(List.range h.objs.size).filter λa=>(H a).isSome
def bB5 (h:Heap)(H:Hp):Heap:=PySem.W.hideAll h (trk h H)
theorem bV2 (h:Heap)(H:Hp):(bB5 h H).objs.size=h.objs.size:=PySem.W.hideAll_size _ _
theorem cA8 {h:Heap}{H:Hp}{b:Addr}{o:Obj}(e:h.get? b=some o)(n:H b=none):(bB5 h H).get? b=some o:=
 PySem.W.hideAll_get _ e λhm=>by
  have q:(H b).isSome=true:=(List.mem_filter.mp hm).2
  rw[n]at q;simp at q
theorem cN6 {h:Heap}{H:Hp}{b:Addr}{o:Obj}(e:(bB5 h H).get? b=some o):h.get? b=some o/\H b=none:=by
 have e':h.get? b=some o:=PySem.W.of_hideAll (trk h H) e
 refine⟨e',?_⟩;cases q:H b with
 | none=>rfl
 | some x=>
  have hm:b∈trk h H:=List.mem_filter.mpr ⟨Ab5.mpr (Ab3 e'),by simp[q]⟩
  have z:(bB5 h H).get? b=none:=PySem.W.hideAll_none (trk h H) hm
  rw[z]at e;cases e
def aY6 (g h:Heap)(L:Addr):List (Addr×Obj):=(List.range h.objs.size).filterMap λa=>if a=L\/(g.get? a).isSome=true then none else(h.get? a).map λo=>(a,o)
theorem aB6 {g h:Heap}{L a:Addr}{o:Obj}(h1:a≠L)(h2:g.get? a=none)(h3:h.get? a=some o):(a,o)∈aY6 g h L:=
 List.mem_filterMap.mpr ⟨a,Ab5.mpr (Ab3 h3),by simp[h1,h2,h3]⟩
theorem aQ5 {g h:Heap}{L:Addr}{p:Addr×Obj}(hp:p∈aY6 g h L):p.1≠L/\g.get? p.1=none/\h.get? p.1=some p.2:=by
 obtain ⟨b,_,e⟩:=List.mem_filterMap.mp hp;split at e
 ·cases e
 ·rename_i hn;cases q:h.get? b with
  | none=>rw[q]at e;simp at e
  | some u=>
   rw[q]at e;simp only[Option.map_some,Option.some.injEq]at e;subst e;refine⟨λz=>hn (.inl z),?_,q⟩
   show g.get? b=none
   cases r:g.get? b with
   | none=>rfl
   | some v=>exact(hn (.inr (by simp[r]))).elim
theorem cI7 {g h:Heap}{L:Addr}:News g L h (aY6 g h L):=λp hp=>let ⟨a,b,c⟩:=aQ5 hp;⟨c,a,b⟩
structure Mod (K:PySem.W.Frag)(mg:Str->Option Value)(base:Heap):Prop where
 kin:K.In base
 glob:base.Ns mainGlobals mg
 blt:∃mb,base.Ns builtinsNs mb/\∀x:Str,x≠"__name__" -> mb x=bootBuiltins x
 nolimit:base.NoLimit
structure Cx where
 prog:Program
 w:World
 K:PySem.W.Frag
 mg:Str->Option Value
 base:Heap
 A:Around
 N:List Str
 s₀:Shared
 H₀:Hp
 env:Env
 outer:List Env
 stack:List Env
 ex:List Addr
 fn:Str->Bool
 calm:Bool
 pn:List (Addr×Obj)
 xe:Value->Shared->Prop
def frs (l:List Env):List Addr:=l.filterMap (·.frame)
abbrev Cx.fs (X:Cx):List Addr:=frs X.outer
def Vis (sc:Scope)(x:Str):Prop:=sc.names.lookup x=some .local\/sc.names.lookup x=some .cell\/sc.names.lookup x=some .free
def Loc (sc:Scope)(x:Str):Prop:=sc.names.lookup x=some .local\/sc.names.lookup x=some .cell
def dE8 (env:Env)(h:Heap)(m:Str->Option Value)(x:Str)(u:Value):Prop:=
 (env.kindOf x=some .local/\m x=some u)\/((env.kindOf x=some .cell\/env.kindOf x=some .free)/\∃c,env.cells.lookup x=some c/\h.IsCell c (some u))
structure Cx.Ok (X:Cx):Prop where
 mod:Mod X.K X.mg X.base
 kind:X.env.scope.kind=.function
 glob:X.env.globals=mainGlobals
 blt:X.env.builtins=builtinsNs
 above:X.s₀.heap.objs.size<=X.env.locals
 inj:∀x y c,X.env.cells.lookup x=some c->X.env.cells.lookup y=some c->x=y
 has:∀x,(X.env.kindOf x=some .cell\/X.env.kindOf x=some .free)->∃c,X.env.cells.lookup x=some c
 cab:∀x c,X.fn x=true->X.env.cells.lookup x=some c->X.s₀.heap.objs.size<=c
 hd:X.calm=true->X.A.handled=none
 frames:X.A.frames=some X.stack
 stk:X.stack=X.outer\/(X.stack=X.env::X.outer/\X.env.frame=some X.env.locals)
 exf:∀b∈X.ex,b≠X.env.locals/\∀x c,X.env.cells.lookup x=some c->c≠b
 bs:∀b o,X.base.get? b=some o->X.s₀.heap.get? b=some o/\X.H₀ b=none
 bsz:X.base.objs.size<=X.s₀.heap.objs.size
 noex:∀b o,X.base.get? b=some o->b∉X.ex
 exfs:∀b∈X.ex,b∉X.fs
 funs:X.s₀.heap.FunFrames X.base X.outer
 frf:∀b∈X.fs,X.H₀ b=none
structure Inv (X:Cx)(pins:List (Addr×Obj))(σ:List (Option V))(H:Hp)(s:Shared):Prop where
 ok:X.Ok
 os:s.os=X.s₀.os
 bare:AllBare s.gens
 base:Un X.fs X.ex X.H₀ H X.s₀.heap s.heap
 loc:∃m,s.heap.Ns X.env.locals m/\∀(i:Nat) (x:Str) (v:V),X.N[i]? = some x->σ[i]? = some (some v)->Vis X.env.scope x->∃u,RelV v u/\dE8 X.env s.heap m x u
 cell:∀x c,X.env.cells.lookup x=some c->∃v,s.heap.IsCell c v
 free:H X.env.locals=none
 freeC:∀x c,X.env.cells.lookup x=some c->H c=none
 pin:∀p∈X.pn++pins,s.heap.get? p.1=some p.2/\H p.1=none/\p.1≠X.env.locals/\p.1∉X.fs/\∀v,p.2.data≠.cell v
 hok:HOk X.prog X.w H s.heap
 len:σ.length=X.N.length
section
variable {X:Cx}{pins:List (Addr×Obj)}{σ:List (Option V)}{H H':Hp}{s:Shared}{h':Heap}
theorem Cx.Ok.nofr (ok:X.Ok){b:Addr}{o:Obj}(e:X.base.get? b=some o):b∉X.fs:=λhb=>by
 have:=(ok.funs.mem hb).1
 rw[e]at this;cases this
theorem Inv.bs (I:Inv X pins σ H s):∀b o,X.base.get? b=some o->s.heap.get? b=some o/\H b=none:=λb o e=>
 ⟨I.base.keep b o (I.ok.bs b o e).1 (I.ok.bs b o e).2 (I.ok.nofr e) (I.ok.noex b o e),I.base.free b o (I.ok.bs b o e).1 (I.ok.bs b o e).2 (I.ok.noex b o e)⟩
theorem Inv.bk (I:Inv X pins σ H s):∀b o,X.base.get? b=some o->s.heap.get? b=some o:=λb o e=>(I.bs b o e).1
theorem Inv.mod (I:Inv X pins σ H s):Mod X.K X.mg X.base:=I.ok.mod
theorem Inv.kIn (I:Inv X pins σ H s):X.K.In s.heap:=I.ok.mod.kin.keeps I.bk
theorem Inv.lt (I:Inv X pins σ H s):X.env.locals<s.heap.objs.size:=let ⟨_,hn,_⟩:=I.loc;hn.lt
theorem Inv.sz (I:Inv X pins σ H s):X.s₀.heap.objs.size<=s.heap.objs.size:=Nat.le_trans I.ok.above (Nat.le_of_lt I.lt)
theorem Inv.nofs (I:Inv X pins σ H s){a:Addr}(h:s.heap.objs.size<=a):a∉X.fs:=λhb=>by
 obtain ⟨_,o,ho,_⟩:=I.ok.funs.mem hb;exact absurd (Ab8 (Ab3 ho) (Nat.le_trans I.sz h)) (Ad7 _)
theorem Inv.cne (I:Inv X pins σ H s):∀x c,X.env.cells.lookup x=some c->c≠X.env.locals:=λx c e z=>by
 obtain ⟨v,o,ho,hd⟩:=I.cell x c e;obtain ⟨m,⟨o',es,ep,ho',hd',_⟩,_⟩:=I.loc;rw[z,ho']at ho;cases ho;rw[hd']at hd;cases hd
theorem Inv.funs (I:Inv X pins σ H s):s.heap.FunFrames X.base X.outer:=by
 have all:∀(l:List Env),(∀b∈frs l,b∈X.fs)->X.s₀.heap.FunFrames X.base l->s.heap.FunFrames X.base l:=by
  intro l;induction l with
  | nil=>intro _ _;trivial
  | cons env r ih=>
   intro hs hl;obtain ⟨hk,⟨L,o,hf,hn,ho,hd⟩,hr⟩:=hl;have hL:L∈X.fs:=hs L (by unfold frs;rw[List.filterMap_cons,hf];exact List.mem_cons_self)
   obtain ⟨sl,e⟩:=I.base.slot L o ho (I.ok.frf L hL) hL λz=>I.ok.exfs L z hL
   exact⟨hk,⟨L,_,hf,hn,e,hd⟩,ih (λb hb=>hs b (by unfold frs;rw[List.filterMap_cons,hf];exact Ad3 _ hb)) hr⟩
 exact all X.outer (λ_ hb=>hb) I.ok.funs
theorem Inv.stack (I:Inv X pins σ H s):s.heap.FunFrames X.base X.stack:=by
 rcases I.ok.stk with e | ⟨e,hf⟩
 ·rw[e];exact I.funs
 ·rw[e];obtain ⟨m,hn,_⟩:=I.loc;refine .cons (by rw[I.ok.kind];decide) hf hn ?_ I.funs
  exact Heap.get?_none_of_le (Nat.le_trans I.ok.bsz I.ok.above)
theorem Inv.stkSub (I:Inv X pins σ H s):∀b∈frs X.stack,b∈X.env.locals::X.fs:=λb hb=>by
 rcases I.ok.stk with e | ⟨e,hf⟩
 ·rw[e]at hb;exact Ad3 _ hb
 ·rw[e]at hb;unfold frs at hb;rw[List.filterMap_cons,hf]at hb;exact hb
theorem Inv.stkFree (I:Inv X pins σ H s):∀b∈frs X.stack,H b=none:=λb hb=>by
 rcases Aa1.mp (I.stkSub b hb) with e | hb
 ·rw[e];exact I.free
 ·obtain ⟨_,o,ho,_⟩:=I.ok.funs.mem hb;exact I.base.free b o ho (I.ok.frf b hb) λz=>I.ok.exfs b z hb
theorem Inv.step {g':Array GenState}{t':Nat}{d':Drawn}{ch:List Addr}(I:Inv X pins σ H s)
  (hch:∀b∈ch,(b∈X.ex\/X.s₀.heap.objs.size<=b)/\b≠X.env.locals/\(∀x c,X.env.cells.lookup x=some c->c≠b)/\∀p∈X.pn++pins,p.1≠b)
  (keep:∀b o,b≠X.env.locals->b∉X.fs->b∉ch->s.heap.get? b=some o->H b=none->h'.get? b=some o)
  (slot:∀b o,b≠X.env.locals->b∈X.fs->b∉ch->s.heap.get? b=some o->H b=none->∃sl,h'.get? b=some {o with slots:=sl}) (free:∀b o,b∉ch->s.heap.get? b=some o->H b=none->H' b=none)
  (there:∀b o,b∉ch->s.heap.get? b=some o->∃o',h'.get? b=some o')
  (tups:∀b xs,H b=some (.tup xs)->H' b=some (.tup xs)) (frzs:∀b o u,H b=some (.frz o u)->H' b=some (.frz o u)) (tbls:∀b ps,H b=some (.tbl ps)->∃more,H' b=some (.tbl (ps++more)))
  (ns:∀m,s.heap.Ns X.env.locals m->h'.Ns X.env.locals m) (hok:HOk X.prog X.w H' h') (hg:AllBare g') :
  Inv X pins σ H' {s with heap:=h',gens:=g',drawn:=d',toks:=t'}:=by
 have neL:∀b o,X.s₀.heap.get? b=some o->b≠X.env.locals:=λb o e=>Ab9 (Ab8 (Ab3 e) I.ok.above)
 have neC:∀b o,X.s₀.heap.get? b=some o->b∉X.ex->b∉ch:=λb o e hx hb=>by
  rcases (hch b hb).1 with z | z
  ·exact hx z
  ·exact absurd (Ab8 (Ab3 e) z) (Ad7 _)
 have cellK:∀x c,X.env.cells.lookup x=some c->∀v,s.heap.IsCell c v->h'.IsCell c v:=λx c e v ⟨o,ho,hd⟩=>by
  have nch:c∉ch:=λz=>(hch c z).2.2.1 x c e rfl
  by_cases hc:c∈X.fs
  ·obtain ⟨sl,q⟩:=slot c o (I.cne x c e) hc nch ho (I.freeC x c e);exact⟨_,q,hd⟩
  ·exact⟨o,keep c o (I.cne x c e) hc nch ho (I.freeC x c e),hd⟩
 refine⟨I.ok,I.os,hg,⟨λb o e n hb hx=>?_,λb o e n hb hx=>?_,λb o e n hx=>?_,λb o e hx=>?_,λb xs e=>tups b xs (I.base.tups b xs e),λb o xs e=>frzs b o xs (I.base.frzs b o xs e),λb ps e=>?_⟩,?_,λx c e=>?_,?_,λx c e=>?_,λp hp=>?_,hok,I.len⟩
 ·exact keep b o (neL b o e) hb (neC b o e hx) (I.base.keep b o e n hb hx) (I.base.free b o e n hx)
 ·obtain ⟨sl,e1⟩:=I.base.slot b o e n hb hx;obtain ⟨sl',e2⟩:=slot b _ (neL b o e) hb (neC b o e hx) e1 (I.base.free b o e n hx);exact⟨sl',e2⟩
 ·obtain ⟨o',e1⟩:=I.base.there b o e hx;exact free b o' (neC b o e hx) e1 (I.base.free b o e n hx)
 ·obtain ⟨o',e1⟩:=I.base.there b o e hx;exact there b o' (neC b o e hx) e1
 ·obtain ⟨m1,e1⟩:=I.base.tbls b ps e;obtain ⟨m2,e2⟩:=tbls b _ e1;exact⟨m1++m2,by rw[e2,Array.append_assoc]⟩
 ·obtain ⟨m,hn,hl⟩:=I.loc;refine⟨m,ns m hn,λi x v e1 e2 e3=>?_⟩
  obtain ⟨u,r,l⟩:=hl i x v e1 e2 e3;refine⟨u,r,?_⟩;rcases l with l | ⟨k,c,e,z⟩
  ·exact .inl l
  ·exact .inr ⟨k,c,e,cellK x c e _ z⟩
 ·obtain ⟨v,z⟩:=I.cell x c e;exact⟨v,cellK x c e v z⟩
 ·obtain ⟨m,⟨o,_,_,ho,_⟩,_⟩:=I.loc;exact free _ o (λz=>(hch _ z).2.1 rfl) ho I.free
 ·obtain ⟨v,o,ho,hd⟩:=I.cell x c e;exact free c o (λz=>(hch c z).2.2.1 x c e rfl) ho (I.freeC x c e)
 ·obtain ⟨e,n,ne,nf,d⟩:=I.pin p hp;have nch:p.1∉ch:=λz=>(hch p.1 z).2.2.2 p hp rfl
  exact⟨keep p.1 p.2 ne nf nch e n,free p.1 p.2 nch e n,ne,nf,d⟩
theorem Inv.un {t':Nat}(I:Inv X pins σ H s)(u:Un X.fs [] H H' s.heap h')(hok:HOk X.prog X.w H' h'):Inv X pins σ H' {s with heap:=h',toks:=t'}:=by
 obtain ⟨m,⟨o,es,ep,ho,r⟩,_⟩:=id I.loc;obtain ⟨sl,hL⟩:=u.any ho I.free (by simp)
 exact I.step (g':=s.gens) (d':=s.drawn) (ch:=[]) (λ_ z=>nomatch z) (λb o _ hb _ e n=>u.keep b o e n hb (by simp)) (λb o _ hb _ e n=>u.slot b o e n hb (by simp)) (λb o _ e n=>u.free b o e n (by simp)) (λb o _ e=>u.there b o e (by simp)) u.tups u.frzs u.tbls (λm' hm=>by
  obtain ⟨o',es',ep',ho',r'⟩:=hm;rw[ho]at ho';cases ho';exact⟨_,es',ep',hL,r'⟩) hok I.bare
theorem Inv.call {g':Array GenState}{t':Nat}{d':Drawn}{ch:List Addr}(I:Inv X pins σ H s)(u:Un (frs X.stack) ch H H' s.heap h')(hok:HOk X.prog X.w H' h')(hg:AllBare g')
  (hch:∀b∈ch,(b∈X.ex\/X.s₀.heap.objs.size<=b)/\b≠X.env.locals/\(∀x c,X.env.cells.lookup x=some c->c≠b)/\∀p∈X.pn++pins,p.1≠b) :
  Inv X pins σ H' {s with heap:=h',gens:=g',drawn:=d',toks:=t'}:=by
 obtain ⟨m,⟨o,es,ep,ho,r⟩,_⟩:=id I.loc;obtain ⟨sl,hL⟩:=u.any ho I.free λz=>(hch _ z).2.1 rfl
 exact I.step (ch:=ch) hch (λb o hL hb hc e n=>u.keep b o e n (λz=>(Aa1.mp (I.stkSub b z)).elim hL hb) hc) (λb o _ _ hc e n=>u.any e n hc) (λb o hc e n=>u.free b o e n hc) (λb o hc e=>u.there b o e hc) u.tups u.frzs u.tbls (λm' hm=>by
  obtain ⟨o',es',ep',ho',r'⟩:=hm;rw[ho]at ho';cases ho';exact⟨_,es',ep',hL,r'⟩) hok hg
theorem Inv.turned {t':Nat}{it:Addr}(I:Inv X pins σ H s)(k:∀b o,b≠it->s.heap.get? b=some o->h'.get? b=some o)(hn:H it=none)(hL:it≠X.env.locals)
  (h1:it∈X.ex\/X.s₀.heap.objs.size<=it) (h2:∀x c,X.env.cells.lookup x=some c->c≠it) (h3:∀p∈X.pn++pins,p.1≠it):Inv X pins σ H {s with heap:=h',toks:=t'}:=by
 have nit:∀b u,H b=some u->b≠it:=λb u e z=>by rw[z,hn]at e;cases e
 refine I.step (g':=s.gens) (d':=s.drawn) (ch:=[it]) (λb hb=>?_) (λb o _ _ hc e _=>k b o (λz=>hc (by simp[z])) e) (λb o _ _ hc e _=>⟨o.slots,k b o (λz=>hc (by simp[z])) e⟩) (λ_ _ _ _ n=>n)
  (λb o hc e=>⟨o,k b o (λz=>hc (by simp[z])) e⟩) (λ_ _ e=>e) (λ_ _ _ e=>e) (λb ps e=>⟨#[],by rw[e];simp⟩) (λm hm=>?_) (λb u e=>?_) I.bare
 ·have e:b=it:=by simpa using hb
  subst e;exact⟨h1,hL,h2,h3⟩
 ·obtain ⟨o,es,ep,ho,r⟩:=hm;exact⟨o,es,ep,k _ o (Ne.symm hL) ho,r⟩
 ·refine(I.hok b u e).stay (λc v hc q=>k c v ?_ q) (λ_ q=>q) λ_ _ q=>q
  rcases hc with z | z
  ·rw[z];exact nit b u e
  ·exact nit c _ z
theorem Inv.tok (I:Inv X pins σ H s)(t:Nat):Inv X pins σ H {s with toks:=t}:=I.un (h':=s.heap) (t':=t) Un.refl I.hok
theorem Inv.kept {t':Nat}(I:Inv X pins σ H s)(k:∀b u,s.heap.get? b=some u->h'.get? b=some u):Inv X pins σ H {s with heap:=h',toks:=t'}:=I.un (Un.kept k) (I.hok.kept k)
theorem Inv.laid {a:Addr}{o:HO}{t':Nat}(I:Inv X pins σ H s)(k:∀b u,s.heap.get? b=some u->h'.get? b=some u)(hp:s.heap.objs.size<=a)(new:ObjOk X.prog X.w (upd H a o) h' a o) :
  Inv X pins σ (upd H a o) {s with heap:=h',toks:=t'}:=I.un (Un.laid k hp (I.hok.fresh hp)) (I.hok.laid k hp new)
theorem Inv.write {x e:Addr}{o:HO}{t':Nat}(I:Inv X pins σ H s)(mu:Mut (H x))(he:e=x\/H e=some (.own x))(k:∀b u,b≠e->s.heap.get? b=some u->h'.get? b=some u)(heo:∃u,h'.get? e=some u)
  (new:ObjOk X.prog X.w (upd H x o) h' x o):Inv X pins σ (upd H x o) {s with heap:=h',toks:=t'}:=I.un (Un.write mu he k heo) (I.hok.write mu he k heo new)
theorem Inv.weak {σ':List (Option V)}(I:Inv X pins σ H s)(hl:σ'.length=σ.length)(w:∀(i:Nat) v,σ'[i]? = some (some v)->σ[i]? = some (some v)):Inv X pins σ' H s:=
 ⟨I.ok,I.os,I.bare,I.base,let ⟨m,hn,hl'⟩:=I.loc;⟨m,hn,λi x v e1 e2 e3=>hl' i x v e1 (w i v e2) e3⟩,I.cell,I.free,I.freeC,I.pin,I.hok,hl.trans I.len⟩
theorem Inv.pins_of {pins':List (Addr×Obj)}(I:Inv X pins σ H s)(h:∀p∈pins',s.heap.get? p.1=some p.2/\H p.1=none/\p.1≠X.env.locals/\p.1∉X.fs/\∀v,p.2.data≠.cell v):Inv X pins' σ H s:=
 ⟨I.ok,I.os,I.bare,I.base,I.loc,I.cell,I.free,I.freeC,λp hp=>(Aa0.mp hp).elim (λz=>I.pin p (List.mem_append_left _ z)) (h p),I.hok,I.len⟩
theorem bH7 {N:List Str}(hN:N.Nodup){i j:Nat}{x:Str}(a:N[i]? = some x)(b:N[j]? = some x):i=j:=by
 obtain ⟨h1,e1⟩:=Ab0.mp a;obtain ⟨h2,e2⟩:=Ab0.mp b;exact(List.getElem_inj hN).mp (e1.trans e2.symm)
theorem aV0 {M:Model}{A:Around}{E:Value->Shared->Prop}{i:Nat}{x:Str}{v:V}{u:Value}{Q:Unit->Shared->Prop}(I:Inv X pins σ H s)(hN:X.N.Nodup)(hi:X.N[i]? = some x)(hx:Loc X.env.scope x)(r:RelV v u)
  (h:∀s',Inv X pins (σ.set i (some v)) H s'->(∃a,Heap.SameBut a s.heap s'.heap/\(a=X.env.locals\/X.env.cells.lookup x=some a))->Q () s') (hf:X.fn x=true\/X.env.scope.names.lookup x=some .local:=by first | exact .inl rfl | exact .inr rfl | assumption):wpAny M A (storeName X.env x u) Q E s:=by
 obtain ⟨m,hn,hl⟩:=id I.loc;have hcls:(X.env.scope.kind == .class||(X.env.scope.kind == .module&&X.env.locals != X.env.globals))=false:=by rw[I.ok.kind];rfl
 have hiσ:i<σ.length:=by rw[I.len];exact(Ab0.mp hi).1
 have cne:=I.cne
 have tracked:∀{a:Addr} {h':Heap},(∃o,s.heap.get? a=some o/\H a=none)->Heap.SameBut a s.heap h'->HOk X.prog X.w H h':=λ{a h'} ha hs b ob e=>by
  obtain ⟨_,_,hfree⟩:=ha;refine(I.hok b ob e).stay (λc w' hc q=>(hs.2 c ?_).trans q) (λ_ q=>q) λ_ _ q=>q
  rintro rfl;rcases hc with rfl | hc
  ·rw[hfree]at e;cases e
  ·rw[hfree]at hc;cases hc
 rcases hx with hk | hk
 ·refine wpAny_storeName_local hk hn (λh' hn' hs=>?_) hcls
  obtain ⟨oL,_,_,hoL,_⟩:=id hn;refine h _ ⟨I.ok,I.os,I.bare,⟨λb o e n hb hx=>?_,λb o e n hb hx=>?_,I.base.free,λb o e hx=>?_,I.base.tups,I.base.frzs,I.base.tbls⟩,⟨_,hn',λj y v' e1 e2 e3=>?_⟩,λy c e=>?_,I.free,I.freeC,λp hp=>?_,tracked ⟨oL,hoL,I.free⟩ hs,by simpa using I.len⟩ ⟨_,hs,.inl rfl⟩
  ·exact(hs.2 b (Ab9 (Ab8 (Ab3 e) I.ok.above))).trans (I.base.keep b o e n hb hx)
  ·obtain ⟨sl,e1⟩:=I.base.slot b o e n hb hx;exact⟨sl,(hs.2 b (Ab9 (Ab8 (Ab3 e) I.ok.above))).trans e1⟩
  ·obtain ⟨o',e1⟩:=I.base.there b o e hx;exact⟨o',(hs.2 b (Ab9 (Ab8 (Ab3 e) I.ok.above))).trans e1⟩
  ·by_cases hj:j=i
   ·subst hj;rw[hi]at e1;cases e1;rw[List.getElem?_set_self hiσ]at e2;cases e2;exact⟨u,r,.inl ⟨hk,by simp⟩⟩
   ·rw[Ac9 (Ne.symm hj)]at e2;obtain ⟨u',r',q⟩:=hl j y v' e1 e2 e3;refine⟨u',r',?_⟩;rcases q with ⟨k,e⟩ | ⟨k,c,e,z⟩
    ·refine .inl ⟨k,?_⟩
     have:y≠x:=λe=>hj (bH7 hN e1 (e▸hi))
     simp[this,e]
    ·exact .inr ⟨k,c,e,z.sameBut hs (cne y c e)⟩
  ·obtain ⟨w',z⟩:=I.cell y c e;exact⟨w',z.sameBut hs (cne y c e)⟩
  ·obtain ⟨e,n,ne,nf,d⟩:=I.pin p hp;exact⟨(hs.2 p.1 ne).trans e,n,ne,nf,d⟩
 ·have hfn:X.fn x=true:=by
   rcases hf with z | z
   ·exact z
   ·rw[z]at hk;cases hk
  obtain ⟨c,hc⟩:=I.ok.has x (.inl hk);obtain ⟨w',z⟩:=I.cell x c hc;refine wpAny_storeName_cell I.ok.kind hk hc z (λh' hc' hs=>?_)
  obtain ⟨oc,hoc,hocd⟩:=id z;refine h {s with heap:=h'} ⟨I.ok,I.os,I.bare,⟨λb o e n hb hx=>?_,λb o e n hb hx=>?_,I.base.free,λb o e hx=>?_,I.base.tups,I.base.frzs,I.base.tbls⟩,⟨m,hn.sameBut hs (Ne.symm (cne x c hc)),λj y v' e1 e2 e3=>?_⟩,λy c' e=>?_,I.free,I.freeC,λp hp=>?_,tracked ⟨oc,hoc,I.freeC x c hc⟩ hs,by simpa using I.len⟩ ⟨c,hs,.inr hc⟩
  ·exact(hs.2 b (Ab9 (Ab8 (Ab3 e) (I.ok.cab x c hfn hc)))).trans (I.base.keep b o e n hb hx)
  ·obtain ⟨sl,e1⟩:=I.base.slot b o e n hb hx;exact⟨sl,(hs.2 b (Ab9 (Ab8 (Ab3 e) (I.ok.cab x c hfn hc)))).trans e1⟩
  ·obtain ⟨o',e1⟩:=I.base.there b o e hx;exact⟨o',(hs.2 b (Ab9 (Ab8 (Ab3 e) (I.ok.cab x c hfn hc)))).trans e1⟩
  ·by_cases hj:j=i
   ·subst hj;rw[hi]at e1;cases e1;rw[List.getElem?_set_self hiσ]at e2;cases e2;exact⟨u,r,.inr ⟨.inl hk,c,hc,hc'⟩⟩
   ·rw[Ac9 (Ne.symm hj)]at e2;obtain ⟨u',r',q⟩:=hl j y v' e1 e2 e3;refine⟨u',r',?_⟩;rcases q with q | ⟨k,c',e,z'⟩
    ·exact .inl q
    ·refine .inr ⟨k,c',e,z'.sameBut hs ?_⟩;rintro rfl;exact hj (bH7 hN e1 (I.ok.inj _ _ _ e hc▸hi))
  ·by_cases hcc:c'=c
   ·subst hcc;exact⟨_,hc'⟩
   ·obtain ⟨w2,z2⟩:=I.cell y c' e;exact⟨w2,z2.sameBut hs hcc⟩
  ·obtain ⟨e,n,ne,nf,d⟩:=I.pin p hp;refine⟨(hs.2 p.1 ?_).trans e,n,ne,nf,d⟩;intro q;rw[q,hoc]at e;have q':oc=p.2:=Ab4 e;exact d w' (by rw[<- q'];exact hocd)
theorem aI5 {M:Model}{A:Around}{E:Value->Shared->Prop}{i:Nat}{x:Str}{v:V}{u:Value}{Q:Unit->Shared->Prop}(I:Inv X pins σ H s)(hN:X.N.Nodup)(hi:X.N[i]? = some x)(hx:Loc X.env.scope x)(r:RelV v u)
  (h:∀s',Inv X pins (σ.set i (some v)) H s'->Q () s') (hf:X.fn x=true\/X.env.scope.names.lookup x=some .local:=by first | exact .inl rfl | exact .inr rfl | assumption):wpAny M A (storeName X.env x u) Q E s:=
 aV0 I hN hi hx r (λs' I' _=>h s' I') hf
theorem Inv.call' {s':Shared}{ch:List Addr}(I:Inv X pins σ H s)(ho:s'.os=s.os)(u:Un (frs X.stack) ch H H' s.heap s'.heap)(hok:HOk X.prog X.w H' s'.heap)(hg:AllBare s'.gens)
  (hch:∀b∈ch,(b∈X.ex\/X.s₀.heap.objs.size<=b)/\b≠X.env.locals/\(∀x c,X.env.cells.lookup x=some c->c≠b)/\∀p∈X.pn++pins,p.1≠b):Inv X pins σ H' s':=by
 obtain ⟨h',g',d',t',o'⟩:=s';have e:o'=s.os:=ho;subst e;exact I.call (g':=g') (t':=t') (d':=d') u hok hg hch
end
abbrev XK:=Value->Option Addr->Hp->Prop
abbrev St:=List (Option V)
abbrev VK:=V->Hp->Prop
abbrev TE:=St->Hp->VK->Prop
abbrev TT:=St->Hp->(Bool->Hp->Prop)->Prop
abbrev TA:=St->Hp->(List V->Hp->Prop)->Prop
structure aM0 where
 nx:St->Hp->Prop
 rt:VK
 bk:St->Hp->Prop:=λ_ _=>False
 ct:St->Hp->Prop:=λ_ _=>False
abbrev TS:=aM0->St->Hp->Prop
def EP (X:Cx)(pins:List (Addr×Obj))(σ:St)(Q:VK)(u:Value)(s':Shared):Prop:=∃v H',Inv X pins σ H' s'/\RelV v u/\Q v H'
def TP (X:Cx)(pins:List (Addr×Obj))(σ:St)(Q:Bool->Hp->Prop)(b:Bool)(s':Shared):Prop:=∃H',Inv X pins σ H' s'/\Q b H'
def AP (X:Cx)(pins:List (Addr×Obj))(σ:St)(Q:List V->Hp->Prop)(us:List Value)(s':Shared):Prop:=∃vs H',Inv X pins σ H' s'/\Vals vs us/\Q vs H'
def SP (X:Cx)(pins:List (Addr×Obj))(D:aM0)(f:Flow)(s':Shared):Prop:=
 match f with
 | .next=>∃σ' H',Inv X pins σ' H' s'/\D.nx σ' H'
 | .brk=>∃σ' H',Inv X pins σ' H' s'/\D.bk σ' H'
 | .cont=>∃σ' H',Inv X pins σ' H' s'/\D.ct σ' H'
 | .ret u=>∃v σ' H',Inv X pins σ' H' s'/\RelV v u/\D.rt v H'
structure PE (X:Cx)(e:Expr)(t:TE):Prop where
 mk ::
 run :
  ∀(pins:List (Addr×Obj)) (s:Shared) (σ:St) (H:Hp) (Q:VK),Inv X pins σ H s->t σ H Q->wpAny (model X.prog X.w) X.A (eval e X.env) (EP X pins σ Q) X.xe s
instance {X:Cx} {e:Expr} {t:TE}:CoeFun (PE X e t) λ_=>
 (∀(pins:List (Addr×Obj)) (s:Shared) (σ:St) (H:Hp) (Q:VK),Inv X pins σ H s->t σ H Q->wpAny (model X.prog X.w) X.A (eval e X.env) (EP X pins σ Q) X.xe s):=⟨PE.run⟩
structure PT (X:Cx)(e:Expr)(t:TT):Prop where
 mk ::
 run :
  ∀(pins:List (Addr×Obj)) (s:Shared) (σ:St) (H:Hp) (Q:Bool->Hp->Prop),Inv X pins σ H s->t σ H Q->wpAny (model X.prog X.w) X.A (isTrue e X.env (eval e X.env)) (TP X pins σ Q) X.xe s
instance {X:Cx} {e:Expr} {t:TT}:CoeFun (PT X e t) λ_=>
 (∀(pins:List (Addr×Obj)) (s:Shared) (σ:St) (H:Hp) (Q:Bool->Hp->Prop),Inv X pins σ H s->t σ H Q->wpAny (model X.prog X.w) X.A (isTrue e X.env (eval e X.env)) (TP X pins σ Q) X.xe s):=⟨PT.run⟩
structure PW (X:Cx)(e:Expr)(t:TT):Prop where
 mk ::
 run :
  ∀(whole:Sem Value) (pins:List (Addr×Obj)) (s:Shared) (σ:St) (H:Hp) (Q:Bool->Hp->Prop),Inv X pins σ H s->t σ H Q->wpAny (model X.prog X.w) X.A (isTrue e X.env whole) (TP X pins σ Q) X.xe s
instance {X:Cx} {e:Expr} {t:TT}:CoeFun (PW X e t) λ_=>
 (∀(whole:Sem Value) (pins:List (Addr×Obj)) (s:Shared) (σ:St) (H:Hp) (Q:Bool->Hp->Prop),Inv X pins σ H s->t σ H Q->wpAny (model X.prog X.w) X.A (isTrue e X.env whole) (TP X pins σ Q) X.xe s):=⟨PW.run⟩
theorem PW.pt {X:Cx}{e:Expr}{t:TT}(h:PW X e t):PT X e t:=⟨h _⟩
structure PA (X:Cx)(es:List Expr)(t:TA):Prop where
 mk ::
 run :
  ∀(pos:Pos) (pins:List (Addr×Obj)) (s:Shared) (σ:St) (H:Hp) (Q:List V->Hp->Prop),Inv X pins σ H s->t σ H Q->wpAny (model X.prog X.w) X.A (spliced (backTo pos (starEach es X.env))) (AP X pins σ Q) X.xe s
instance {X:Cx} {es:List Expr} {t:TA}:CoeFun (PA X es t) λ_=>
 (∀(pos:Pos) (pins:List (Addr×Obj)) (s:Shared) (σ:St) (H:Hp) (Q:List V->Hp->Prop),Inv X pins σ H s->t σ H Q->wpAny (model X.prog X.w) X.A (spliced (backTo pos (starEach es X.env))) (AP X pins σ Q) X.xe s):=⟨PA.run⟩
structure PS (X:Cx)(st:Stmt)(t:TS):Prop where
 mk ::
 run :
  ∀(pins:List (Addr×Obj)) (s:Shared) (σ:St) (H:Hp) (D:aM0),Inv X pins σ H s->t D σ H->wpAny (model X.prog X.w) X.A (exec st X.env) (SP X pins D) X.xe s
instance {X:Cx} {st:Stmt} {t:TS}:CoeFun (PS X st t) λ_=>
 (∀(pins:List (Addr×Obj)) (s:Shared) (σ:St) (H:Hp) (D:aM0),Inv X pins σ H s->t D σ H->wpAny (model X.prog X.w) X.A (exec st X.env) (SP X pins D) X.xe s):=⟨PS.run⟩
structure PSs (X:Cx)(st:List Stmt)(t:TS):Prop where
 mk ::
 run :
  ∀(pins:List (Addr×Obj)) (s:Shared) (σ:St) (H:Hp) (D:aM0),Inv X pins σ H s->t D σ H->wpAny (model X.prog X.w) X.A (execs st X.env) (SP X pins D) X.xe s
instance {X:Cx} {st:List Stmt} {t:TS}:CoeFun (PSs X st t) λ_=>
 (∀(pins:List (Addr×Obj)) (s:Shared) (σ:St) (H:Hp) (D:aM0),Inv X pins σ H s->t D σ H->wpAny (model X.prog X.w) X.A (execs st X.env) (SP X pins D) X.xe s):=⟨PSs.run⟩
theorem thn {α:Type}{t:Sem α}{Q Q':α->Shared->Prop}{M:Model}{A:Around}{E:Value->Shared->Prop}{s:Shared}(h:wpAny M A t Q E s)(hQ:∀a s,Q a s->Q' a s):wpAny M A t Q' E s:=wpAny_mono h hQ λ_ _ x=>x
section
variable {X:Cx}
def Q7 (i:Nat):TE:=λσ H Q=>∃v,σ[i]? = some (some v)/\Q v H
def tC (v:V):TE:=λ_ H Q=>Q v H
theorem cV9 {i:Nat}{x:Str}{pos:Pos}(hN:X.N[i]? = some x)(hv:Vis X.env.scope x)(hd:(x==("__debug__" : Str))=false:=by decide)(hcd:(x==("__classdict__" : Str))=false:=by decide):PE X (.Name x pos) (Q7 i):=by
 refine⟨?_⟩;intro pins s σ H Q I h;obtain ⟨v,e,h⟩:=h;obtain ⟨m,hn,hl⟩:=I.loc;obtain ⟨u,r,l⟩:=hl i x v hN e hv;have fin:EP X pins σ Q u s:=⟨v,H,I,r,h⟩;rcases l with ⟨hk,hm⟩ | ⟨hk,c,hc,hcell⟩
 ·exact wpAny_Name (wpAny_loadName_local I.ok.kind hk hn hm fin) hd
 ·rcases hk with hk | hk
  ·exact wpAny_Name (wpAny_loadName_cell I.ok.kind hk hc hcell fin) hd
  ·exact wpAny_Name (wpAny_loadName_free I.ok.kind hk hc hcell fin hcd) hd
theorem A6 {i j pos}:PE X (.Constant (.int i) j pos) (tC (.int i)):=⟨λ_ _ _ H _ I h=>wpAny_Constant_int ⟨.int i,H,I.tok _,⟨_,rfl⟩,h⟩⟩
theorem aI3 {b j pos}:PE X (.Constant (.bool b) j pos) (tC (.bl b)):=⟨λ_ _ _ H _ I h=>Constant_bool ⟨.bl b,H,I,rfl,h⟩⟩
theorem aO3 {j pos}:PE X (.Constant .none j pos) (tC .non):=⟨λ_ _ _ H _ I h=>Constant_none ⟨.non,H,I,rfl,h⟩⟩
theorem aS6 {x j pos}:PE X (.Constant (.str x) j pos) (tC (.str x)):=⟨λ_ _ _ H _ I h=>Calls.Constant_str ⟨.str x,H,I.tok _,⟨_,rfl⟩,h⟩⟩
def Gl (X:Cx)(x:Str):Prop:=X.env.kindOf x=some .globalImplicit
theorem i9 {E:Value->Shared->Prop}{pins:List (Addr×Obj)}{s:Shared}{σ:St}{H:Hp}{x:Str}{u:Value}{pos:Pos}{Q:Value->Shared->Prop}(I:Inv X pins σ H s)(hg:Gl X x)(hm:X.mg x=some u)(h:Q u s)
  (hd:(x==("__debug__" : Str))=false:=by decide):wpAny (model X.prog X.w) X.A (eval (.Name x pos) X.env) Q E s:=
 Calls.Name_function_global I.ok.kind hg (Calls.loadGlobal_global (by rw[I.ok.glob];exact I.mod.glob.keeps I.bk) hm h) hd
theorem o7 {E:Value->Shared->Prop}{pins:List (Addr×Obj)}{s:Shared}{σ:St}{H:Hp}{x:Str}{u:Value}{pos:Pos}{Q:Value->Shared->Prop}(I:Inv X pins σ H s)(hg:Gl X x)(hm:X.mg x=none)(hv:bootBuiltins x=some u)(h:Q u s)
  (hn:x≠"__name__" := by decide) (hd:(x==("__debug__" : Str))=false:=by decide):wpAny (model X.prog X.w) X.A (eval (.Name x pos) X.env) Q E s:=by
 obtain ⟨mb,h1,h2⟩:=I.mod.blt;exact Calls.Name_function_global I.ok.kind hg (Calls.loadGlobal_builtin (by rw[I.ok.glob];exact I.mod.glob.keeps I.bk) hm (by rw[I.ok.blt];exact h1.keeps I.bk) ((h2 x hn).trans hv) h) hd
theorem O9 {x:Str}{v:V}{u:Value}{pos:Pos}(hg:Gl X x)(hm:X.mg x=some u)(r:RelV v u)(hd:(x==("__debug__" : Str))=false:=by decide):PE X (.Name x pos) (tC v):=⟨λ_ _ _ H _ I h=>i9 I hg hm ⟨v,H,I,r,h⟩ hd⟩
theorem cM2 {x:Str}{v:V}{u:Value}{pos:Pos}(hg:Gl X x)(hm:X.mg x=none)(hv:bootBuiltins x=some u)(r:RelV v u)(hn:x≠"__name__" := by decide)(hd:(x==("__debug__" : Str))=false:=by decide):PE X (.Name x pos) (tC v):=⟨λ_ _ _ H _ I h=>o7 I hg hm hv ⟨v,H,I,r,h⟩ hn hd⟩
def t2I (ta tb:TE)(k:Int->Int->Hp->Prop):St->Hp->Prop:=λσ H=>ta σ H λx H1=>tb σ H1 λy H2=>∃i j,x=.int i/\y=.int j/\k i j H2
variable {a b:Expr}{ta tb:TE}{pos:Pos}
structure PC (X:Cx)(op:CmpOp)(a b:Expr)(t:TE):Prop where
 mk ::
 run :
  ∀(pins:List (Addr×Obj)) (s:Shared) (σ:St) (H:Hp) (Q:VK),Inv X pins σ H s->t σ H Q ->
   wpAny (model X.prog X.w) X.A (eval a X.env) (λv s₁=>wpAny (model X.prog X.w) X.A (eval b X.env) (λu s₂=>wpAny (model X.prog X.w) X.A (compareOp op v u) (EP X pins σ Q) X.xe s₂) X.xe s₁) X.xe s
instance {X:Cx} {op:CmpOp} {a b:Expr} {t:TE}:CoeFun (PC X op a b t) λ_=>
 (∀(pins:List (Addr×Obj)) (s:Shared) (σ:St) (H:Hp) (Q:VK),Inv X pins σ H s->t σ H Q ->
  wpAny (model X.prog X.w) X.A (eval a X.env) (λv s₁=>wpAny (model X.prog X.w) X.A (eval b X.env) (λu s₂=>wpAny (model X.prog X.w) X.A (compareOp op v u) (EP X pins σ Q) X.xe s₂) X.xe s₁) X.xe s):=⟨PC.run⟩
def bU3 (p:Int->Int->Bool)(ta tb:TE):TE:=λσ H Q=>t2I ta tb (λi j H2=>Q (.bl (p i j)) H2) σ H
abbrev tLt:TE->TE->TE:=bU3 λi j=>decide (i<j)
abbrev tLe:TE->TE->TE:=bU3 λi j=>decide (i<=j)
abbrev tGt:TE->TE->TE:=bU3 λi j=>decide (j<i)
abbrev tGe:TE->TE->TE:=bU3 λi j=>decide (j<=i)
abbrev dI6:TE->TE->TE:=bU3 λi j=>decide (i=j)
abbrev dI5:TE->TE->TE:=bU3 λi j => !decide (i=j)
def tB (t:TE):TT:=λσ H Q=>t σ H λx H1=>∃c,x=.bl c/\Q c H1
theorem aF8 {e:Expr}{t:TE}(h:PE X e t)(he:∀whole,isTrue e X.env whole=(do let v <- whole;standAt e.pos;holding [v] (truthy v)):=by intro _;rfl):PT X e (tB t):=by
 refine⟨?_⟩;intro pins s σ H Q I hw;refine isTrue_plain (thn (h pins s σ H _ I hw) λv s1 ⟨x,H1,I1,r1,q1⟩=>?_) (he _)
 obtain ⟨d,rfl,q⟩:=q1;cases r1;exact wpAny_truthy_bool ⟨H1,I1,q⟩
variable {tA tB':TT}{rest:List Expr}
def tOr (t u:TT):TT:=λσ H Q=>t σ H λc H1=>if c=true then Q true H1 else u σ H1 Q
def dH0 (t:TT):TT:=λσ H Q=>t σ H λc H1=>Q (!c) H1
theorem bC1 (ha:PT X a tA):PW X (.BoolOp .Or [a] pos) tA:=by
 refine⟨?_⟩;intro wh pins s σ H Q I h;refine isTrue_or (thn (ha pins s σ H Q I h) λc s1 e=>?_)
 cases c with
 | false=>exact isTrue_or_nil e
 | true=>exact e
theorem bF2 (ha:PT X a tA)(hb:PW X (.BoolOp .Or (b::rest) pos) tB'):PW X (.BoolOp .Or (a::b::rest) pos) (tOr tA tB'):=by
 refine⟨?_⟩;intro wh pins s σ H Q I h;refine isTrue_or (thn (ha pins s σ H _ I h) λc s1 ⟨H1,I1,q1⟩=>?_)
 cases c with
 | true=>exact⟨H1,I1,q1⟩
 | false=>exact hb wh pins s1 σ H1 Q I1 q1
theorem aK5 (ha:PT X a tA):PT X (.UnaryOp .Not a pos) (dH0 tA):=by
 refine⟨?_⟩;intro pins s σ H Q I h;exact isTrue_not (ha pins s σ H (λc H1=>Q (!c) H1) I h)
def cS1 (ta tb:TE):TE:=λσ H Q=>ta σ H λx H1=>∃c,x=.bl c/\if c=true then tb σ H1 Q else Q (.bl false) H1
def dC2 (ta tb:TE):TE:=λσ H Q=>ta σ H λx H1=>∃c,x=.bl c/\if c=true then Q (.bl true) H1 else tb σ H1 Q
def cR4 (ta:TE):TE:=λσ H Q=>ta σ H λx H1=>∃c,x=.bl c/\Q (.bl (!c)) H1
theorem aC1 {op}{t:TE}(h:PE X a t):PE X (.BoolOp op [a] pos) t:=⟨λpins s σ H Q I hw=>BoolOp_one (h pins s σ H Q I hw)⟩
theorem aS0 (ha:PE X a ta)(hb:PE X (.BoolOp .And (b::rest) pos) tb):PE X (.BoolOp .And (a::b::rest) pos) (cS1 ta tb):=by
 refine⟨?_⟩;intro pins s σ H Q I h;refine BoolOp_and (thn (ha pins s σ H _ I h) λv s1 ⟨x,H1,I1,r1,q1⟩=>?_)
 obtain ⟨c,rfl,q1⟩:=q1;cases r1;refine wpAny_truthy_bool ?_;cases c with
 | true=>exact hb pins s1 σ H1 Q I1 q1
 | false=>exact⟨.bl false,H1,I1,rfl,q1⟩
theorem cG2 (ha:PE X a ta)(hb:PE X (.BoolOp .Or (b::rest) pos) tb):PE X (.BoolOp .Or (a::b::rest) pos) (dC2 ta tb):=by
 refine⟨?_⟩;intro pins s σ H Q I h;refine BoolOp_or (thn (ha pins s σ H _ I h) λv s1 ⟨x,H1,I1,r1,q1⟩=>?_)
 obtain ⟨c,rfl,q1⟩:=q1;cases r1;refine wpAny_truthy_bool ?_;cases c with
 | false=>exact hb pins s1 σ H1 Q I1 q1
 | true=>exact⟨.bl true,H1,I1,rfl,q1⟩
theorem cH1 (ha:PE X a ta):PE X (.UnaryOp .Not a pos) (cR4 ta):=by
 refine⟨?_⟩;intro pins s σ H Q I h;refine UnaryOp_ (thn (ha pins s σ H _ I h) λv s1 ⟨x,H1,I1,r1,q1⟩=>?_)
 obtain ⟨c,rfl,q1⟩:=q1;cases r1;exact not_of (wpAny_truthy_bool ⟨.bl (!c),H1,I1,rfl,q1⟩)
def tIf (t:TT)(ta tb:TE):TE:=λσ H Q=>t σ H λc H1=>if c=true then ta σ H1 Q else tb σ H1 Q
theorem bF8 {c:Expr}(hc:PT X c tA)(ha:PE X a ta)(hb:PE X b tb):PE X (.IfExp c a b pos) (tIf tA ta tb):=by
 refine⟨?_⟩;intro pins s σ H Q I h;refine wpAny_IfExp (thn (hc pins s σ H _ I h) λd s1 ⟨H1,I1,q1⟩=>?_)
 cases d with
 | true=>exact ha pins s1 σ H1 Q I1 q1
 | false=>exact hb pins s1 σ H1 Q I1 q1
end
def SqL (K:PySem.W.Frag)(H:Hp)(a:Addr)(xs:List V):Prop:=
 Rd H a (.lst xs) \/
  ∃(o:Obj) (its:Array Value) (n:Nat),K.lookup a=some o/\o.cls=.type "list" /\ o.dict=none/\o.data=.seq its n/\its.size<=sizeLine/\Vals xs its.toList
def SqT (K:PySem.W.Frag)(H:Hp)(a:Addr)(xs:List V):Prop:=
 Rd H a (.tup xs) \/
  ∃(o:Obj) (its:Array Value) (n:Nat),K.lookup a=some o/\o.cls=.type "tuple" /\ o.dict=none/\o.data=.seq its n/\its.size<=sizeLine/\Vals xs its.toList
def dI3:Value->Option V
 | .none=>some .non
 | .bool b=>some (.bl b)
 | .int i _=>some (.int i)
 | .str x _=>some (.str x)
 | .bytes b _=>some (.byt b)
 | .float b _=>some (.flt b)
 | .ref a=>some (.ref a)
 | .type n=>some (.ty n)
 | _=>none
theorem RelV.abs {x:V}{u:Value}(r:RelV x u):dI3 u=some x:=by
 cases x with
 | non=>cases r;rfl
 | bl _=>cases r;rfl
 | int _=>obtain ⟨t,rfl⟩:=r;rfl
 | str _=>obtain ⟨t,rfl⟩:=r;rfl
 | byt _=>obtain ⟨t,rfl⟩:=r;rfl
 | flt _=>obtain ⟨t,rfl⟩:=r;rfl
 | ref _=>cases r;rfl
 | ty _=>cases r;rfl
theorem RelV.inj {x y:V}{u:Value}(r:RelV x u)(q:RelV y u):x=y:=Ab4 (r.abs.symm.trans q.abs)
theorem Vals.inj:∀{xs ys:List V} {us:List Value},Vals xs us->Vals ys us->xs=ys
 | _,_,_,.nil,.nil=>rfl
 | _,_,_,.cons r t,.cons r' t'=>by rw[r.inj r',Vals.inj t t']
section
variable {X:Cx}{pins:List (Addr×Obj)}{σ:St}{H:Hp}{s:Shared}{a:Addr}{xs ys:List V}
theorem SqL.of {K:PySem.W.Frag}(h:H a=some (.lst xs)):SqL K H a xs:=.inl (.inl h)
theorem SqT.of {K:PySem.W.Frag}(h:H a=some (.tup xs)):SqT K H a xs:=.inl (.inl h)
theorem Inv.list (I:Inv X pins σ H s)(h:SqL X.K H a xs):∃its:List Value,Vals xs its/\PlainL s.heap a its.toArray/\xs.length<=sizeLine:=by
 rcases h with h | ⟨o,its,n,hk,hc,hd,hs,hz,r⟩
 ·obtain ⟨z,its,n,r,e⟩:=h.ok I.hok;exact⟨its,r,⟨_,n,e,rfl,rfl,rfl⟩,z⟩
 ·refine⟨its.toList,r,⟨o,n,I.kIn a o hk,hc,hd,by simpa using hs⟩,?_⟩
  have e:=r.length
  simp only[Array.length_toList]at e;omega
theorem Inv.tuple0 (I:Inv X pins σ H s)(h:SqT X.K H a xs):∃its:List Value,Vals xs its/\Tup0 s.heap a its.toArray/\xs.length<=sizeLine:=by
 rcases h with h | ⟨o,its,n,hk,hc,hd,hs,hz,r⟩
 ·obtain ⟨z,its,r,p⟩:=h.ok I.hok;exact⟨its,r,p,z⟩
 ·refine⟨its.toList,r,⟨o,I.kIn a o hk,hc,⟨n,by simpa using hs⟩,hd⟩,?_⟩
  have e:=r.length
  simp only[Array.length_toList]at e;omega
theorem Inv.tuple (I:Inv X pins σ H s)(h:SqT X.K H a xs):∃its:List Value,Vals xs its/\IsTup s.heap a its.toArray/\xs.length<=sizeLine:=by
 obtain ⟨its,r,p,z⟩:=I.tuple0 h;exact⟨its,r,p.tup,z⟩
theorem Inv.list_inj (I:Inv X pins σ H s)(h:SqL X.K H a xs)(h':SqL X.K H a ys):xs=ys:=by
 obtain ⟨its,r,⟨o,n,e,_,_,d⟩,_⟩:=I.list h;obtain ⟨its',r',⟨o',n',e',_,_,d'⟩,_⟩:=I.list h';rw[e]at e';cases e';rw[d]at d'
 injection d' with d1 _
 have:its=its':=by simpa using congrArg Array.toList d1
 subst this;exact r.inj r'
theorem Inv.tuple_inj (I:Inv X pins σ H s)(h:SqT X.K H a xs)(h':SqT X.K H a ys):xs=ys:=by
 obtain ⟨its,r,⟨o,e,_,n,d⟩,_⟩:=I.tuple h;obtain ⟨its',r',⟨o',e',_,n',d'⟩,_⟩:=I.tuple h';rw[e]at e';cases e';rw[d]at d'
 injection d' with d1 _
 have:its=its':=by simpa using congrArg Array.toList d1
 subst this;exact r.inj r'
end
abbrev Cx.wish (X:Cx)(E:Value->Shared->Prop):Cx:={X with xe:=E}
abbrev Cx.nox (X:Cx):Cx:=X.wish λ_ _=>False
theorem Cx.Ok.wish {X:Cx}(ok:X.Ok)(E:Value->Shared->Prop):(X.wish E).Ok:=
 ⟨ok.mod,ok.kind,ok.glob,ok.blt,ok.above,ok.inj,ok.has,ok.cab,ok.hd,ok.frames,ok.stk,ok.exf,ok.bs,ok.bsz,ok.noex,ok.exfs,ok.funs,ok.frf⟩
theorem Cx.Ok.unwish {X:Cx}{E:Value->Shared->Prop}(ok:(X.wish E).Ok):X.Ok:=
 ⟨ok.mod,ok.kind,ok.glob,ok.blt,ok.above,ok.inj,ok.has,ok.cab,ok.hd,ok.frames,ok.stk,ok.exf,ok.bs,ok.bsz,ok.noex,ok.exfs,ok.funs,ok.frf⟩
section
variable {X:Cx}{pins:List (Addr×Obj)}{σ:St}{H:Hp}{s:Shared}{E:Value->Shared->Prop}
theorem Inv.wish (I:Inv X pins σ H s)(E:Value->Shared->Prop):Inv (X.wish E) pins σ H s:=⟨I.ok.wish E,I.os,I.bare,I.base,I.loc,I.cell,I.free,I.freeC,I.pin,I.hok,I.len⟩
theorem Inv.unwish (I:Inv (X.wish E) pins σ H s):Inv X pins σ H s:=⟨I.ok.unwish,I.os,I.bare,I.base,I.loc,I.cell,I.free,I.freeC,I.pin,I.hok,I.len⟩
theorem SP.unwish {D:aM0}{f:Flow}{s':Shared}(h:SP (X.wish E) pins D f s'):SP X pins D f s':=by
 cases f with
 | next=>obtain ⟨σ',H',I,q⟩:=h;exact⟨σ',H',I.unwish,q⟩
 | brk=>obtain ⟨σ',H',I,q⟩:=h;exact⟨σ',H',I.unwish,q⟩
 | cont=>obtain ⟨σ',H',I,q⟩:=h;exact⟨σ',H',I.unwish,q⟩
 | ret u=>obtain ⟨v,σ',H',I,r,q⟩:=h;exact⟨v,σ',H',I.unwish,r,q⟩
theorem PSs.nox {st:List Stmt}{t:TS}(h:PSs X.nox st t):PSs X st t:=⟨λpins s σ H D I hw=>
 wpAny_mono (h pins s σ H D (I.wish _) hw) (λ_ _ q=>q.unwish) λ_ _ z=>False.elim z⟩
end
section
variable {X:Cx}{st:Stmt}{rest:List Stmt}{t u:TS}{e:Expr}{te:TE}{pos:Pos}
def cU6:TS:=λD σ H=>D.nx σ H
def cW1 (t u:TS):TS:=λD σ H=>t {D with nx:=u D} σ H
theorem L9:PSs X [] cU6:=⟨λ_ _ σ H _ I h=>wpAny_execs_nil ⟨σ,H,I,h⟩⟩
theorem A5 (h1:PS X st t)(h2:PSs X rest u):PSs X (st::rest) (cW1 t u):=by
 refine⟨?_⟩;intro pins s σ H D I h;refine wpAny_execs_cons (thn (h1 pins s σ H {D with nx:=u D} I h) λf s1 q=>?_)
 cases f with
 | next=>
  obtain ⟨σ',H',I',q⟩:=q;exact h2 pins s1 σ' H' D I' q
 | ret v=>exact q
 | brk=>exact q
 | cont=>exact q
theorem B0 (h1:PS X st t):PSs X [st] t:=by
 refine⟨?_⟩;intro pins s σ H D I h;refine wpAny_execs_cons (thn (h1 pins s σ H D I h) λf s1 q=>?_)
 cases f with
 | next=>exact wpAny_execs_nil q
 | ret v=>exact q
 | brk=>exact q
 | cont=>exact q
theorem Inv.quiet {pins:List (Addr×Obj)}{σ:St}{H:Hp}{s:Shared}(I:Inv X pins σ H s):interactive X.env=false:=by simp[interactive,I.ok.kind]
def bE1 (te:TE):TS:=λD σ H=>te σ H λ_ H1=>D.nx σ H1
theorem N8 (he:PE X e te)(hs:swapsWith e none pos.line X.env=pure false:=by rfl):PS X (.Expr e pos) (bE1 te):=by
 refine⟨?_⟩;intro pins s σ H D I h;exact wpAny_Expr_any (thn (he pins s σ H _ I h) λv s1 ⟨x,H1,I1,r1,q1⟩=>⟨σ,H1,I1,q1⟩) I.quiet hs
def cQ0 (te:TE):TS:=λD σ H=>te σ H D.rt
theorem D6 (he:PE X e te):PS X (.Return (some e) pos) (cQ0 te):=by
 refine⟨?_⟩;intro pins s σ H D I h;exact wpAny_Return_some (thn (he pins s σ H _ I h) λv s1 ⟨x,H1,I1,r1,q1⟩=>⟨x,σ,H1,I1,r1,q1⟩)
def cF2 (c:TT)(t u:TS):TS:=λD σ H=>c σ H λb H1=>if b=true then t D σ H1 else u D σ H1
theorem V6 {c:Expr}{a b:List Stmt}{tc:TT}(hc:PT X c tc)(ha:PSs X a t)(hb:PSs X b u):PS X (.If c a b pos) (cF2 tc t u):=by
 refine⟨?_⟩;intro pins s σ H D I h;refine wpAny_If (thn (hc pins s σ H _ I h) λd s1 ⟨H1,I1,q1⟩=>?_)
 cases d with
 | true=>exact ha pins s1 σ H1 D I1 q1
 | false=>exact hb pins s1 σ H1 D I1 q1
end
abbrev TG:=V->St->Hp->(St->Hp->Prop)->Prop
abbrev TGs:=List V->St->Hp->(St->Hp->Prop)->Prop
structure PG (X:Cx)(target:Expr)(t:TG):Prop where
 mk ::
 run :
  ∀(pins:List (Addr×Obj)) (s:Shared) (σ:St) (H:Hp) (v:V) (u:Value) (Q:St->Hp->Prop),Inv X pins σ H s->RelV v u->t v σ H Q ->
   wpAny (model X.prog X.w) X.A (assign target X.env u) (λ_ s'=>∃σ' H',Inv X pins σ' H' s'/\Q σ' H') X.xe s
instance {X:Cx} {target:Expr} {t:TG}:CoeFun (PG X target t) λ_=>
 (∀(pins:List (Addr×Obj)) (s:Shared) (σ:St) (H:Hp) (v:V) (u:Value) (Q:St->Hp->Prop),Inv X pins σ H s->RelV v u->t v σ H Q ->
  wpAny (model X.prog X.w) X.A (assign target X.env u) (λ_ s'=>∃σ' H',Inv X pins σ' H' s'/\Q σ' H') X.xe s):=⟨PG.run⟩
structure PGs (X:Cx)(ts:List Expr)(t:TGs):Prop where
 mk ::
 run :
  ∀(pins:List (Addr×Obj)) (s:Shared) (σ:St) (H:Hp) (vs:List V) (us:List Value) (Q:St->Hp->Prop),Inv X pins σ H s->Vals vs us->t vs σ H Q ->
   wpAny (model X.prog X.w) X.A (assignInOrder ((assignEach ts X.env).map (·.2)) us) (λ_ s'=>∃σ' H',Inv X pins σ' H' s'/\Q σ' H') X.xe s
instance {X:Cx} {ts:List Expr} {t:TGs}:CoeFun (PGs X ts t) λ_=>
 (∀(pins:List (Addr×Obj)) (s:Shared) (σ:St) (H:Hp) (vs:List V) (us:List Value) (Q:St->Hp->Prop),Inv X pins σ H s->Vals vs us->t vs σ H Q ->
  wpAny (model X.prog X.w) X.A (assignInOrder ((assignEach ts X.env).map (·.2)) us) (λ_ s'=>∃σ' H',Inv X pins σ' H' s'/\Q σ' H') X.xe s):=⟨PGs.run⟩
abbrev dB2:=V->V->V->Hp->(Hp->Prop)->Prop
def dG3 (X:Cx)(t:dB2):Prop:=
 ∀(pins:List (Addr×Obj)) (s:Shared) (σ:St) (H:Hp) (o i v:V) (ov iv u:Value) (Q:Hp->Prop),Inv X pins σ H s->RelV o ov->RelV i iv->RelV v u->t o i v H Q ->
  wpAny (model X.prog X.w) X.A (setItem ov iv u) (λ_ s'=>∃H',Inv X pins σ H' s'/\Q H') X.xe s
abbrev TIp:=V->V->Hp->VK->Prop
section
variable {X:Cx}{pos:Pos}
def U1 (i:Nat):TG:=λv σ H Q=>Q (σ.set i (some v)) H
theorem C5 {i:Nat}{x:Str}(hN:X.N.Nodup)(hi:X.N[i]? = some x)(hx:Loc X.env.scope x)(hf:X.fn x=true\/X.env.scope.names.lookup x=some .local:=by first | exact .inl rfl | exact .inr rfl | assumption):PG X (.Name x pos) (U1 i):=by
 refine⟨?_⟩;intro pins s σ H v u Q I r h;exact wpAny_assign_Name (aI5 I hN hi hx r (λs' I'=>⟨_,H,I',h⟩) hf)
def dF3:TGs:=λvs σ H Q=>vs=[]/\Q σ H
def cS7 (t:TG)(u:TGs):TGs:=λvs σ H Q=>∃v r,vs=v::r/\t v σ H λσ' H'=>u r σ' H' Q
theorem aI6:PGs X [] dF3:=by
 refine⟨?_⟩;intro pins s σ H vs us Q I r h;obtain ⟨e,h⟩:=h;subst e;cases r;exact assignInOrder_nil ⟨σ,H,I,h⟩
theorem T0 {e:Expr}{es:List Expr}{t:TG}{u:TGs}(h1:PG X e t)(h2:PGs X es u)
  (hs:(assignEach (e::es) X.env).map (·.2)=assign e X.env::(assignEach es X.env).map (·.2):=by rfl):PGs X (e::es) (cS7 t u):=by
 refine⟨?_⟩;intro pins s σ H vs us Q I r h;obtain ⟨v,vr,e1,h⟩:=h;subst e1;cases r with
 | cons r rr=>
  rw[hs];refine assignInOrder_cons (thn (h1 pins s σ H _ _ _ I r h) λ_ s1 ⟨σ1,H1,I1,q1⟩=>?_)
  exact h2 pins s1 σ1 H1 _ _ Q I1 rr q1
def dE5 (K:PySem.W.Frag)(n:Nat)(t:TGs):TG:=λv σ H Q=>∃a xs,v=.ref a/\SqT K H a xs/\xs.length=n/\t xs σ H Q
theorem aO6 {es:List Expr}{k:Nat}{t:TGs}{n:Nat}(hc:X.calm=true)(h:PGs X es t)
  (hn:(assignEach es X.env).length=n:=by rfl) (hst:(assignEach es X.env).findIdx? (·.1)=none:=by rfl):PG X (.Tuple es k pos) (dE5 X.K n t):=by
 refine⟨?_⟩;intro pins s σ H v u Q I r hw;obtain ⟨a,xs,e1,hq,hl,hw⟩:=hw;subst e1;cases r;obtain ⟨its,rv,ht,hz⟩:=I.tuple hq;refine assign_Tuple_tuple (I.ok.hd hc) ht (by simp[hn,<- hl,rv.length]) hst λh' hx=>?_
 have I1:Inv X pins σ H {s with heap:=h'}:=I.kept (t':=s.toks) λb o e=>hx b o (Ab9 (Ab3 e)) e
 exact h pins _ σ H xs _ Q I1 (by simpa using rv) hw
def cY3 (to ti:TE)(t:dB2):TG:=λv σ H Q=>to σ H λo H1=>ti σ H1 λi H2=>t o i v H2 λH3=>Q σ H3
theorem bN1 {o i:Expr}{to ti:TE}{t:dB2}(ho:PE X o to)(hi:PE X i ti)(hs:dG3 X t)
  (ha:∀v,assign (.Subscript o i pos) X.env v=(do
   let ov <- holding [v] (eval o X.env)
   let iv <- holding [v,ov] (eval i X.env)
   standAt pos
   holding [v,ov,iv] (setItem ov iv v)
   release [v,ov,iv] []):=by intro _;rfl):PG X (.Subscript o i pos) (cY3 to ti t):=by
 refine⟨?_⟩;intro pins s σ H v u Q I r h;rw[ha];refine wpAny_bind (wpAny_holding (thn (ho pins s σ H _ I h) λov s1 ⟨x,H1,I1,r1,q1⟩=>?_))
 refine wpAny_bind (wpAny_holding (thn (hi pins s1 σ H1 _ I1 q1) λiv s2 ⟨y,H2,I2,r2,q2⟩=>?_))
 refine wpAny_bind (wpAny_standAt (wpAny_bind (wpAny_holding (thn (hs pins s2 σ H2 x y v ov iv u _ I2 r1 r2 r q2) λ_ s3 ⟨H3,I3,q3⟩=>?_))))
 exact wpAny_release ⟨σ,H3,I3,q3⟩
def aM8 (te:TE)(g:TG):TS:=λD σ H=>te σ H λx H1=>g x σ H1 D.nx
theorem aJ1 {tg e:Expr}{te:TE}{g:TG}(he:PE X e te)(hg:PG X tg g)(hs:swapsWithSole [tg] e pos.line X.env=pure false:=by rfl)(hw:swappedStores [tg] e X.env=pure none:=by rfl)
  (h1:(assignEach [tg] X.env).map (·.2)=[assign tg X.env]:=by rfl):PS X (.Assign [tg] e pos) (aM8 te g):=by
 refine⟨?_⟩;intro pins s σ H D I h;refine wpAny_Assign_stores (thn (he pins s σ H _ I h) λv s1 ⟨x,H1,I1,r1,q1⟩=>?_) hs hw
 rw[h1];exact thn (hg pins s1 σ H1 x v _ I1 r1 q1) λ_ s2 q=>q
theorem B8 {i:Nat}{x:Str}{e:Expr}{te:TE}{pos':Pos}(hN:X.N.Nodup)(hi:X.N[i]? = some x)(hx:Loc X.env.scope x)(he:PE X e te)(hs:swapsWith e (some (.Name x pos')) pos.line X.env=pure false:=by rfl)(hf:X.fn x=true\/X.env.scope.names.lookup x=some .local:=by first | exact .inl rfl | exact .inr rfl | assumption) :
  PS X (.Assign [.Name x pos'] e pos) (aM8 te (U1 i)):=by
 refine⟨?_⟩;intro pins s σ H D I h;refine wpAny_Assign_Name (thn (he pins s σ H _ I h) λv s1 ⟨y,H1,I1,r1,q1⟩=>?_) hs
 exact aI5 I1 hN hi hx r1 (λs2 I2=>⟨_,H1,I2,q1⟩) hf
end
section
variable {X:Cx}{pos:Pos}
def cC2 (c:TT)(tb:TS):TS:=λD σ H=>∃W:Nat->St->Hp->Prop,(∃m,W m σ H)/\∀m σ H,W m σ H ->
 c σ H λb H1=>if b=true then ∃N:St->Hp->Prop,(∀σ' H',N σ' H'->∃m',m'<m/\W m' σ' H')/\tb {D with nx:=N,ct:=N,bk:=D.nx} σ H1 else D.nx σ H1
theorem bH2 {c:Expr}{body:List Stmt}{tc:TT}{tb:TS}(hp:PassesOwn (model X.prog X.w) X.A X.env X.xe)(hc:PT X c tc)(hb:PSs X body tb):PS X (.While c body [] pos) (cC2 tc tb):=by
 refine⟨?_⟩;intro pins s σ H D I h;obtain ⟨W,⟨m0,w0⟩,turn⟩:=h;refine wpAny_While (codeAny_whileLoop (λn s'=>∃σ' H',Inv X pins σ' H' s'/\W n σ' H') ?_ m0 ⟨σ,H,I,w0⟩)
 rintro n s1 ⟨σ1,H1,I1,w1⟩;refine wpAny_passesOwn hp (thn (hc pins s1 σ1 H1 _ I1 (turn n σ1 H1 w1)) λb s2 ⟨H2,I2,q2⟩=>?_)
 cases b with
 | true=>
  obtain ⟨N,hN,q2⟩:=q2;rw[if_pos rfl];refine wpAny_passesOwn hp (thn (hb pins s2 σ1 H2 _ I2 q2) λf s3 q3=>?_)
  cases f with
  | next=>
   obtain ⟨σ3,H3,I3,n3⟩:=q3;obtain ⟨m',hm,w3⟩:=hN σ3 H3 n3;exact⟨m',hm,σ3,H3,I3,w3⟩
  | cont=>
   obtain ⟨σ3,H3,I3,n3⟩:=q3;obtain ⟨m',hm,w3⟩:=hN σ3 H3 n3;exact⟨m',hm,σ3,H3,I3,w3⟩
  | brk=>exact q3
  | ret v=>exact q3
 | false=>
  rw[if_neg Bool.false_ne_true];exact wpAny_execs_nil ⟨σ1,H2,I2,q2⟩
end
structure It where
 go:Nat->Hp->Prop
 yld:Nat->Hp->V->Hp->Prop
 stop:Nat->Hp->Prop
def aQ3 (X:Cx)(pins:List (Addr×Obj))(H:Hp)(b:Addr):Prop:=
 H b=none/\b≠X.env.locals/\b∉X.fs/\(b∈X.ex\/X.s₀.heap.objs.size<=b)/\(∀x c,X.env.cells.lookup x=some c->c≠b)/\∀p∈X.pn++pins,p.1≠b
theorem Inv.fpOk {X:Cx}{pins:List (Addr×Obj)}{σ:St}{H H':Hp}{s:Shared}{b:Addr}(I:Inv X pins σ H s)(hb:s.heap.objs.size<=b)(hn:H' b=none):aQ3 X pins H' b:=by
 refine⟨hn,Nat.ne_of_gt (Ab8 I.lt hb),I.nofs hb,.inr (Nat.le_trans I.sz hb),λx c e z=>?_,λp hp z=>?_⟩
 ·obtain ⟨v,q⟩:=I.cell x c e;exact absurd (Ab8 q.lt (by rw[z];exact hb)) (Ad7 _)
 ·exact absurd (Ab8 (Ab3 (I.pin p hp).1) (by rw[z];exact hb)) (Ad7 _)
structure bE3 (P:Program)(w:World)(K:PySem.W.Frag)(tg:Expr)(J:It)(fp:List Addr)(it:Addr)(tn:Nat->Heap->Prop):Prop where
 mem:it∈fp
 obj:∀i h,tn i h->∀b∈fp,∃o,h.get? b=some o/\∀v,o.data≠.cell v
 keep:∀i h h',tn i h->(∀b∈fp,∀o,h.get? b=some o->h'.get? b=some o)->tn i h'
 item:∀(X:Cx),X.prog=P->X.w=w->X.K=K->X.calm=true->∀(i:Nat) (pins:List (Addr×Obj)) (s:Shared) (σ:St) (H:Hp) (E:Value->Shared->Prop),Inv X pins σ H s->(∀b∈fp,aQ3 X pins H b)->tn i s.heap->J.go i H ->
  wpAny (model P w) X.A (pyNext (.ref it)) (λr s1=>∃u,r=some u /\
   wpAny (model P w) X.A (letOwnedTupleGo tg (.ref it) u) (λ_ s2=>∃x H',Inv X pins σ H' s2/\RelV x u/\J.yld i H x H'/\tn (i+1) s2.heap/\∀b∈fp,H' b=none) E s1) E s
 done:∀(X:Cx),X.prog=P->X.w=w->X.K=K->X.calm=true->∀(i:Nat) (pins:List (Addr×Obj)) (s:Shared) (σ:St) (H:Hp) (E:Value->Shared->Prop),Inv X pins σ H s->(∀b∈fp,aQ3 X pins H b)->tn i s.heap->J.stop i H ->
  wpAny (model P w) X.A (pyNext (.ref it)) (λr s1=>r=none/\Inv X pins σ H s1) E s
 self:∀(A:Around) (i:Nat) (s:Shared) (Q:Value->Shared->Prop) (E:Value->Shared->Prop),tn i s.heap->Q (.ref it) s->wpAny (model P w) A (pyIter (.ref it)) Q E s
abbrev TI:=St->Hp->(It->Hp->Prop)->Prop
def PIE (X:Cx)(pins:List (Addr×Obj))(σ:St)(tg:Expr)(R:It->Hp->Prop)(itv:Value)(s2:Shared):Prop:=
 ∃(it:Addr) (fp:List Addr) (tn:Nat->Heap->Prop) (J:It) (H':Hp),itv=.ref it/\Inv X pins σ H' s2/\bE3 X.prog X.w X.K tg J fp it tn/\tn 0 s2.heap/\(∀b∈fp,aQ3 X pins H' b)/\R J H'
structure PI (X:Cx)(tg iter:Expr)(wi:TI):Prop where
 mk ::
 run :
  ∀(pins:List (Addr×Obj)) (s:Shared) (σ:St) (H:Hp) (R:It->Hp->Prop),Inv X pins σ H s->wi σ H R ->
   wpAny (model X.prog X.w) X.A (eval iter X.env) (λv s1=>wpAny (model X.prog X.w) X.A (pyIter v) (PIE X pins σ tg R) X.xe s1) X.xe s
instance {X:Cx} {tg iter:Expr} {wi:TI}:CoeFun (PI X tg iter wi) λ_=>
 (∀(pins:List (Addr×Obj)) (s:Shared) (σ:St) (H:Hp) (R:It->Hp->Prop),Inv X pins σ H s->wi σ H R ->
  wpAny (model X.prog X.w) X.A (eval iter X.env) (λv s1=>wpAny (model X.prog X.w) X.A (pyIter v) (PIE X pins σ tg R) X.xe s1) X.xe s):=⟨PI.run⟩
theorem bZ2 {M:Model}{A:Around}{E:Value->Shared->Prop}{s:Shared}{tg:Expr}{it:Addr}{u:Value}{o:Obj}{n:String}{vs:Array Value}{Q:Unit->Shared->Prop}(ho:s.heap.get? it=some o)(hc:o.cls=.type n)(hd:o.data=.fields vs)
  (hn:["enumerate", "zip", "dict_itemiterator", "dict_reverseitemiterator", "odict_iterator", "itertools.zip_longest", "itertools.pairwise"].contains n=false) (hQ:Q () s):wpAny M A (letOwnedTupleGo tg (.ref it) u) Q E s:=by
 unfold letOwnedTupleGo;cases tg <;> first
  | exact wpAny_pure hQ
  | (cases u <;> first
    | exact wpAny_pure hQ
    | (refine wpAny_bind (wpAny_load ho ?_)
       rw[hc,hd];show wpAny M A (if(["enumerate", "zip", "dict_itemiterator", "dict_reverseitemiterator", "odict_iterator", "itertools.zip_longest", "itertools.pairwise"].contains n&&vs[0]? == some (rawInt _))=true then _ else _) Q E s;rw[if_neg (by intro h;rw[hn,Bool.false_and]at h;cases h)]
       exact wpAny_pure hQ))
def Itl (K:PySem.W.Frag)(a:Addr):It:=
 ⟨λi H=>∃xs x,SqL K H a xs/\xs[i]? = some x,λi H x H'=>H'=H/\∀xs,SqL K H a xs->xs[i]? = some x,λi H=>∃xs,SqL K H a xs/\xs.length<=i⟩
def Itt (K:PySem.W.Frag)(a:Addr):It:=
 ⟨λi H=>∃xs x,SqT K H a xs/\xs[i]? = some x,λi H x H'=>H'=H/\∀xs,SqT K H a xs->xs[i]? = some x,λi H=>∃xs,SqT K H a xs/\xs.length<=i⟩
def Itr (lo:Int)(n:Nat):It:=⟨λi _=>i<n,λi H x H'=>H'=H/\x=.int (lo+i),λi _=>n<=i⟩
theorem bU2 {P:Program}{w:World}{K:PySem.W.Frag}{tg:Expr}(a it:Addr):bE3 P w K tg (Itl K a) [it] it (λi h=>h.IsListIter it a i) where
 mem:=by simp
 obj:=λi h st b hb=>by
  have e:b=it:=by simpa using hb
  subst e;obtain ⟨o,e,c,d⟩:=st;exact⟨o,e,λv z=>by rw[d]at z;cases z⟩
 keep:=λi h h' st k=>st.at λo e=>k it (by simp) o e
 item:=by
  intro X hP hw hK hc i pins s σ H E I hf st hg;subst hP hw hK;obtain ⟨xs,x,hq,hx⟩:=hg;obtain ⟨its,rv,p,hz⟩:=I.list hq;obtain ⟨u,hu,ru⟩:=rv.get hx;obtain ⟨f0,f1,f2,f3,f4,f5⟩:=hf it (by simp)
  refine wpAny_pyNext_list_item st p.isList (x:=u) (by simpa using hu) λh' st' sb=>?_
  have I1:Inv X pins σ H {s with heap:=h'}:=I.turned (t':=s.toks) (λb o hb e=>(sb.2 b hb).trans e) f0 f1 f3 f4 f5
  obtain ⟨o,e,c,d⟩:=id st';exact⟨u,rfl,bZ2 (s:={s with heap:=h'}) e c d (by decide) ⟨x,H,I1,ru,⟨rfl,λys hy=>by rw[I.list_inj hy hq];exact hx⟩,st',λb hb=>(hf b hb).1⟩⟩
 done:=by
  intro X hP hw hK hc i pins s σ H E I hf st hg;subst hP hw hK;obtain ⟨xs,hq,hx⟩:=hg;obtain ⟨its,rv,p,hz⟩:=I.list hq;obtain ⟨f0,f1,f2,f3,f4,f5⟩:=hf it (by simp)
  have hl:=rv.length
  exact wpAny_pyNext_list_end (I.ok.hd hc) st p.isList (by simp;omega) λh' eb=>⟨rfl,I.turned (t':=s.toks) (λb o hb e=>eb b o hb e) f0 f1 f3 f4 f5⟩
 self:=λ_ _ _ _ _ st h=>wpAny_pyIter_listiter st h
theorem bL5 {P:Program}{w:World}{K:PySem.W.Frag}{tg:Expr}(a it:Addr):bE3 P w K tg (Itt K a) [it] it (λi h=>h.IsTupleIter it a i) where
 mem:=by simp
 obj:=λi h st b hb=>by
  have e:b=it:=by simpa using hb
  subst e;obtain ⟨o,e,c,d⟩:=st;exact⟨o,e,λv z=>by rw[d]at z;cases z⟩
 keep:=λi h h' st k=>st.at λo e=>k it (by simp) o e
 item:=by
  intro X hP hw hK hc i pins s σ H E I hf st hg;subst hP hw hK;obtain ⟨xs,x,hq,hx⟩:=hg;obtain ⟨its,rv,p,hz⟩:=I.tuple hq;obtain ⟨u,hu,ru⟩:=rv.get hx;obtain ⟨f0,f1,f2,f3,f4,f5⟩:=hf it (by simp)
  refine wpAny_pyNext_tuple_item st (show s.heap.IsTuple a its.toArray from p) (x:=u) (by simpa using hu) λh' st' sb=>?_
  have I1:Inv X pins σ H {s with heap:=h'}:=I.turned (t':=s.toks) (λb o hb e=>(sb.2 b hb).trans e) f0 f1 f3 f4 f5
  obtain ⟨o,e,c,d⟩:=id st';exact⟨u,rfl,bZ2 (s:={s with heap:=h'}) e c d (by decide) ⟨x,H,I1,ru,⟨rfl,λys hy=>by rw[I.tuple_inj hy hq];exact hx⟩,st',λb hb=>(hf b hb).1⟩⟩
 done:=by
  intro X hP hw hK hc i pins s σ H E I hf st hg;subst hP hw hK;obtain ⟨xs,hq,hx⟩:=hg;obtain ⟨its,rv,p,hz⟩:=I.tuple hq;obtain ⟨f0,f1,f2,f3,f4,f5⟩:=hf it (by simp)
  have hl:=rv.length
  exact wpAny_pyNext_tuple_end (I.ok.hd hc) st (show s.heap.IsTuple a its.toArray from p) (by simp;omega) λh' eb=>⟨rfl,I.turned (t':=s.toks) (λb o hb e=>eb b o hb e) f0 f1 f3 f4 f5⟩
 self:=λ_ _ _ _ _ st h=>wpAny_pyIter_tupleiter st h
theorem bM3 {P:Program}{w:World}{K:PySem.W.Frag}{tg:Expr}(it:Addr)(lo:Int)(n:Nat):bE3 P w K tg (Itr lo n) [it] it (λi h=>IsRangeIter h it (lo+(i:Nat)*1) ((n:Int)-(i:Nat)) 1) where
 mem:=by simp
 obj:=λi h st b hb=>by
  have e:b=it:=by simpa using hb
  subst e;exact⟨_,st,λv z=>by
   have z':Data.fields _=Data.cell v:=z
   cases z'⟩
 keep:=λi h h' st k=>k it (by simp) _ st
 item:=by
  intro X hP hw hK hc i pins s σ H E I hf st hg;subst hP hw hK;obtain ⟨f0,f1,f2,f3,f4,f5⟩:=hf it (by simp)
  have W:=Walks.range (prog:=X.prog) (w:=X.w) (I.ok.hd hc) it lo 1 n
  refine W.item i s _ _ hg st λv h' tk hv st' kk=>?_
  obtain ⟨t,rfl⟩:=hv;have I1:Inv X pins σ H {s with heap:=h',toks:=tk}:=I.turned (λb o hb e=>kk b o (by simpa using hb) e) f0 f1 f3 f4 f5
  refine⟨_,rfl,bZ2 (s:={s with heap:=h',toks:=tk}) (n := "range_iterator") st' rfl rfl (by decide) ⟨.int (lo+i),H,I1,⟨t,?_⟩,⟨rfl,rfl⟩,st',λb hb=>(hf b hb).1⟩⟩
  rw[Int.mul_one]
 done:=by
  intro X hP hw hK hc i pins s σ H E I hf st hg;subst hP hw hK;obtain ⟨f0,f1,f2,f3,f4,f5⟩:=hf it (by simp)
  exact wpAny_pyNext_range_end (I.ok.hd hc) st (by have:n<=i:=hg;omega) λh' eb=>⟨rfl,I.turned (t':=s.toks) (λb o hb e=>eb b o hb e) f0 f1 f3 f4 f5⟩
 self:=λ_ _ _ _ _ st h=>wpAny_pyIter_rangeiter st h
section
variable {X:Cx}{tg:Expr}
def cS0 (K:PySem.W.Frag)(tl:TE):TI:=λσ H R=>tl σ H λx H1=>∃a,x=.ref a/\(∃xs,SqL K H1 a xs)/\R (Itl K a) H1
def dG1 (K:PySem.W.Frag)(tl:TE):TI:=λσ H R=>tl σ H λx H1=>∃a,x=.ref a/\(∃xs,SqT K H1 a xs)/\R (Itt K a) H1
theorem aD2 {l:Expr}{tl:TE}(hl:PE X l tl):PI X tg l (cS0 X.K tl):=by
 refine⟨?_⟩;intro pins s σ H R I h;refine thn (hl pins s σ H _ I h) λv s1 ⟨x,H1,I1,r1,q1⟩=>?_
 obtain ⟨a,e,⟨xs,hq⟩,q⟩:=q1;subst e;cases r1;obtain ⟨its,rv,p,hz⟩:=I1.list hq;refine wpAny_pyIter_list p.isList ?_;refine⟨s1.heap.objs.size,[s1.heap.objs.size],_,_,H1,rfl,I1.kept (t':=s1.toks) λb o e=>Aa6 _ e,bU2 a _,⟨_,Ac3 _ rfl,rfl,rfl⟩,λb hb=>?_,q⟩
 have e:b=s1.heap.objs.size:=by simpa using hb
 subst e;exact I1.fpOk (Aa7 _) (I1.hok.fresh (Aa7 _))
theorem cE6 {l:Expr}{tl:TE}(hl:PE X l tl):PI X tg l (dG1 X.K tl):=by
 refine⟨?_⟩;intro pins s σ H R I h;refine thn (hl pins s σ H _ I h) λv s1 ⟨x,H1,I1,r1,q1⟩=>?_
 obtain ⟨a,e,⟨xs,hq⟩,q⟩:=q1;subst e;cases r1;obtain ⟨its,rv,p,hz⟩:=I1.tuple hq;refine wpAny_pyIter_tuple (show s1.heap.IsTuple a its.toArray from p) ?_
 refine⟨s1.heap.objs.size,[s1.heap.objs.size],_,_,H1,rfl,I1.kept (t':=s1.toks) λb o e=>Aa6 _ e,bL5 a _,⟨_,Ac3 _ rfl,rfl,rfl⟩,λb hb=>?_,q⟩
 have e:b=s1.heap.objs.size:=by simpa using hb
 subst e;exact I1.fpOk (Aa7 _) (I1.hok.fresh (Aa7 _))
theorem bI8 {pins:List (Addr×Obj)}{σ:St}{H:Hp}{s:Shared}{R:It->Hp->Prop}{E:Value->Shared->Prop}{lo hi:Int}{t u v:Tok}{tk:Nat}(I:Inv X pins σ H s)(h1 : -(2^62)<=lo)(h2:lo<2^62)(h3 : -(2^62)<=hi)(h4:hi<2^62)
  (q:R (Itr lo (hi-lo).toNat) H):wpAny (model X.prog X.w) X.A (pyIter (.ref s.heap.objs.size)) (PIE X pins σ tg R) E {s with heap:=s.heap.push {cls:=.type "range",data:=.fields #[.int lo t,.int hi u,.int 1 v]},toks:=tk}:=by
 refine wpAny_pyIter_range (IsRange.new ..) (small_one h1 h2 h3 h4) ?_;have I1:Inv X pins σ H {s with heap:=s.heap.push {cls:=.type "range",data:=.fields #[.int lo t,.int hi u,.int 1 v]},toks:=tk}:=I.kept λb o e=>Aa6 _ e
 refine⟨(s.heap.push {cls:=.type "range",data:=.fields #[.int lo t,.int hi u,.int 1 v]}).objs.size,[(s.heap.push {cls:=.type "range",data:=.fields #[.int lo t,.int hi u,.int 1 v]}).objs.size],_,_,H,rfl,
  I1.kept (t':=tk) λb o e=>Aa6 _ e,bM3 _ lo (hi-lo).toNat,?_,λb hb=>?_,q⟩
 ·have e1:lo+((0:Nat):Int)*1=lo:=by simp
  have e2:(((hi-lo).toNat:Nat):Int)-((0:Nat):Int)=Builtin.Range.rangeSize lo hi 1:=by rw[rangeSize_one];split <;> omega
  show IsRangeIter _ _ (lo+((0:Nat):Int)*1) ((((hi-lo).toNat:Nat):Int)-((0:Nat):Int)) 1
  rw[e1,e2];exact Ac3 _ rfl
 ·have e:b=(s.heap.push {cls:=.type "range",data:=.fields #[.int lo t,.int hi u,.int 1 v]}).objs.size:=by simpa using hb
  subst e;exact I1.fpOk (Aa7 _) (I1.hok.fresh (Aa7 _))
def cS6 (ta:TA):TI:=λσ H R=>ta σ H λvs H1=>∃j:Int,vs=[.int j] /\ -(2^62)<=j/\j<2^62/\R (Itr 0 j.toNat) H1
def cR3 (ta:TA):TI:=λσ H R=>ta σ H λvs H1=>∃i j:Int,vs=[.int i,.int j]/\(-(2^62)<=i/\i<2^62 /\ -(2^62)<=j/\j<2^62)/\R (Itr i (j-i).toNat) H1
theorem K8 {a:Expr}{ta:TA}{p pos:Pos}(hg:Gl X "range")(hm:X.mg "range" = none)(ha:PA X [a] ta)(hs:starEach [a] X.env=[(false,eval a X.env)]:=by rfl):PI X tg (.Call (.Name "range" p) [a] [] pos) (cS6 ta):=by
 refine⟨?_⟩;intro pins s σ H R I h;refine Call_ (o7 I hg hm boot_range (PyProof.Rows.callWith_type1 (thn (ha pos pins s σ H _ I h) λus s1 ⟨vs,H1,I1,r1,q1⟩=>?_) hs rfl))
 obtain ⟨j,e,q1,q2,q⟩:=q1;subst e;cases r1 with
 | cons r rr=>
  cases rr
  obtain ⟨t,rfl⟩:=r;exact call_range_1 (bI8 I1 (by omega) (by omega) q1 q2 (by simpa using q))
theorem bV9 {a b:Expr}{ta:TA}{p pos:Pos}(hg:Gl X "range")(hm:X.mg "range" = none)(ha:PA X [a,b] ta)(hs:starEach [a,b] X.env=[(false,eval a X.env),(false,eval b X.env)]:=by rfl)(hs2:starEach [b] X.env=[(false,eval b X.env)]:=by rfl) :
  PI X tg (.Call (.Name "range" p) [a,b] [] pos) (cR3 ta):=by
 refine⟨?_⟩;intro pins s σ H R I h;refine Call_ (o7 I hg hm boot_range (PyProof.Rows.callWith_type1 (thn (ha pos pins s σ H _ I h) λus s1 ⟨vs,H1,I1,r1,q1⟩=>?_) (by rw[hs,hs2]) (by rw[hs2];rfl)))
 obtain ⟨i,j,e,⟨q1,q2,q3,q4⟩,q⟩:=q1;subst e;cases r1 with
 | cons r rr=>
  cases rr with
  | cons r' rr=>
   cases rr
   obtain ⟨t,rfl⟩:=r;obtain ⟨t',rfl⟩:=r';exact call_range_2 (bI8 I1 q1 q2 q3 q4 q)
def dF8 (wi:TI)(g:TG)(tb:TS):TS:=λD σ H=>wi σ H λJ H1=>∃W:Nat->Nat->St->Hp->Prop,(∃m,W 0 m σ H1)/\∀i m σ H,W i m σ H ->
 (J.stop i H/\D.nx σ H)\/(J.go i H/\∃N:St->Hp->Prop,(∀σ' H',N σ' H'->∃m',m'<m/\W (i+1) m' σ' H')/\∀x H',J.yld i H x H'->g x σ H' λσ2 H2=>tb {D with nx:=N,ct:=N,bk:=D.nx} σ2 H2)
def u4 (fp:List Addr)(h:Heap):List (Addr×Obj):=fp.filterMap λb=>(h.get? b).map λo=>(b,o)
theorem u6 {fp:List Addr}{h:Heap}{b:Addr}{o:Obj}(hb:b∈fp)(e:h.get? b=some o):(b,o)∈u4 fp h:=List.mem_filterMap.mpr ⟨b,hb,by rw[e];rfl⟩
theorem aX0 {fp:List Addr}{h:Heap}{p:Addr×Obj}(hp:p∈u4 fp h):p.1∈fp/\h.get? p.1=some p.2:=by
 obtain ⟨b,hb,e⟩:=List.mem_filterMap.mp hp;cases q:h.get? b with
 | none=>rw[q]at e;cases e
 | some o=>
  rw[q]at e;have e':(b,o)=p:=Ab4 e;subst e';exact⟨hb,q⟩
theorem Inv.pinned {pins:List (Addr×Obj)}{σ:St}{H:Hp}{s:Shared}{fp:List Addr}(I:Inv X pins σ H s)(hf:∀b∈fp,aQ3 X pins H b)(ho:∀b∈fp,∃o,s.heap.get? b=some o/\∀v,o.data≠.cell v):Inv X (pins++u4 fp s.heap) σ H s:=
 I.pins_of λp hp=>(Aa0.mp hp).elim (λz=>I.pin p (Ac1 _ z)) λz=>by
  obtain ⟨hb,e⟩:=aX0 z;obtain ⟨f0,f1,f2,_⟩:=hf p.1 hb;obtain ⟨o,e',d⟩:=ho p.1 hb;rw[e]at e';cases e';exact⟨e,f0,f1,f2,d⟩
theorem Inv.unpinned {pins pl:List (Addr×Obj)}{σ:St}{H:Hp}{s:Shared}(I:Inv X (pins++pl) σ H s):Inv X pins σ H s:=I.pins_of λp hp=>I.pin p (Ac1 _ (List.mem_append_left _ hp))
theorem T7 {iter:Expr}{body:List Stmt}{wi:TI}{g:TG}{tb:TS}{pos:Pos}(hp:PassesOwn (model X.prog X.w) X.A X.env X.xe)(hc:X.calm=true)(hi:PI X tg iter wi)(hg:PG X tg g)(hb:PSs X body tb)
  (hs:∀x,foldedSetIterable iter X.env x=pure x:=by intro _;rfl):PS X (.For tg iter body [] pos) (dF8 wi g tb):=by
 refine⟨?_⟩;intro pins s σ H D I h;refine wpAny_For (thn (hi pins s σ H _ I h) λv s1 h1=>thn h1 λitv s2 h2=>?_) hs
 obtain ⟨it,fp,tn,J,H2,e,I2,T,st2,f2,W,⟨m0,w0⟩,turn⟩:=h2;subst e;have stat:∀{H':Hp},(∀b∈fp,H' b=none)->∀b∈fp,aQ3 X pins H' b:=λhn b hb=>⟨hn b hb,(f2 b hb).2⟩
 refine codeAny_forLoop_any (λn s'=>∃i σ' H',Inv X pins σ' H' s'/\tn i s'.heap/\(∀b∈fp,H' b=none)/\W i n σ' H') ?_ m0 ⟨0,σ,H2,I2,st2,λb hb=>(f2 b hb).1,w0⟩
 rintro n s3 ⟨i,σ3,H3,I3,st3,fr3,w3⟩;rcases turn i n σ3 H3 w3 with ⟨stop,qn⟩ | ⟨go,N,hN,step⟩
 ·refine wpAny_passesOwn hp (thn (T.done X rfl rfl rfl hc i pins s3 σ3 H3 X.xe I3 (stat fr3) st3 stop) λr s4 ⟨hr,I4⟩=>?_)
  subst hr;exact wpAny_execs_nil ⟨σ3,H3,I4,qn⟩
 ·refine wpAny_passesOwn hp (thn (T.item X rfl rfl rfl hc i pins s3 σ3 H3 X.xe I3 (stat fr3) st3 go) λr s4 ⟨u,hr,h4⟩=>?_)
  subst hr;refine wpAny_passesOwn hp (thn h4 λ_ s5 ⟨x,H5,I5,r5,y5,st5,fr5⟩=>?_)
  have I5':=I5.pinned (stat fr5) (T.obj _ _ st5)
  refine wpAny_passesOwn hp (thn (hg _ s5 σ3 H5 x u _ I5' r5 (step x H5 y5)) λ_ s6 ⟨σ6,H6,I6,q6⟩=>?_)
  refine wpAny_passesOwn hp (thn (hb _ s6 σ6 H6 _ I6 q6) λf s7 q7=>?_)
  have again:∀{σ7:St} {H7:Hp},Inv X (pins++u4 fp s5.heap) σ7 H7 s7->N σ7 H7->∃m,m<n/\∃i σ' H',Inv X pins σ' H' s7/\tn i s7.heap/\(∀b∈fp,H' b=none)/\W i m σ' H':=λ{σ7 H7} I7 n7=>by
   obtain ⟨m',hm,w7⟩:=hN σ7 H7 n7;refine⟨m',hm,i+1,σ7,H7,I7.unpinned,T.keep _ _ _ st5 λb hb o e=>(I7.pin (b,o) (Ac1 _ (Ac1 _ (u6 hb e)))).1,λb hb=>?_,w7⟩
   obtain ⟨o,e,d⟩:=T.obj _ _ st5 b hb;exact(I7.pin (b,o) (Ac1 _ (Ac1 _ (u6 hb e)))).2.1
  cases f with
  | next=>obtain ⟨σ7,H7,I7,n7⟩:=q7;exact again I7 n7
  | cont=>obtain ⟨σ7,H7,I7,n7⟩:=q7;exact again I7 n7
  | brk=>obtain ⟨σ7,H7,I7,q7⟩:=q7;exact⟨σ7,H7,I7.unpinned,q7⟩
  | ret v=>obtain ⟨x7,σ7,H7,I7,r7,q7⟩:=q7;exact⟨x7,σ7,H7,I7.unpinned,r7,q7⟩
end
abbrev R2:=V->V->Hp->VK->Prop
def OpR (X:Cx)(f:Value->Value->Sem Value)(r:R2):Prop:=
 ∀(pins:List (Addr×Obj)) (s:Shared) (σ:St) (H:Hp) (x y:V) (v u:Value) (Q:VK),Inv X pins σ H s->RelV x v->RelV y u->r x y H Q ->
  wpAny (model X.prog X.w) X.A (f v u) (EP X pins σ Q) X.xe s
def UnR (X:Cx)(f:Value->Sem Value)(r:V->Hp->VK->Prop):Prop:=
 ∀(pins:List (Addr×Obj)) (s:Shared) (σ:St) (H:Hp) (x:V) (v:Value) (Q:VK),Inv X pins σ H s->RelV x v->r x H Q ->
  wpAny (model X.prog X.w) X.A (f v) (EP X pins σ Q) X.xe s
def W9 (X:Cx)(f:Value)(r:List V->Hp->VK->Prop):Prop:=
 ∀(pins:List (Addr×Obj)) (s:Shared) (σ:St) (H:Hp) (xs:List V) (us:List Value) (Q:VK),Inv X pins σ H s->Vals xs us->r xs H Q ->
  wpAny (model X.prog X.w) X.A (call f us) (EP X pins σ Q) X.xe s
def tOp (r:R2)(ta tb:TE):TE:=λσ H Q=>ta σ H λx H1=>tb σ H1 λy H2=>r x y H2 Q
def tUn (r:V->Hp->VK->Prop)(ta:TE):TE:=λσ H Q=>ta σ H λx H1=>r x H1 Q
def rI (C:Int->Int->Prop)(g:Int->Int->V):R2:=λx y H Q=>∃i j,x=.int i/\y=.int j/\C i j/\Q (g i j) H
def rI0 (g:Int->Int->V):R2:=λx y H Q=>∃i j,x=.int i/\y=.int j/\Q (g i j) H
def rU (g:Int->V):V->Hp->VK->Prop:=λx H Q=>∃i,x=.int i/\Q (g i) H
section
variable {X:Cx}{a b c:Expr}{ta tb tc:TE}{pos:Pos}
theorem dB3 (ha:PE X a ta)(hb:PE X b tb){pins:List (Addr×Obj)}{s:Shared}{σ:St}{H:Hp}{R:V->V->Hp->Prop}(I:Inv X pins σ H s)
  (h:ta σ H λx H1=>tb σ H1 λy H2=>R x y H2) {Q:Value->Shared->Prop} {f:Value->Value->Sem Value}
  (hf:∀v u s2 x y H2,Inv X pins σ H2 s2->RelV x v->RelV y u->R x y H2->wpAny (model X.prog X.w) X.A (f v u) Q X.xe s2) :
  wpAny (model X.prog X.w) X.A (eval a X.env) (λv s₁=>wpAny (model X.prog X.w) X.A (eval b X.env) (λu s₂=>wpAny (model X.prog X.w) X.A (f v u) Q X.xe s₂) X.xe s₁) X.xe s:=by
 refine thn (ha pins s σ H _ I h) λv s1 ⟨x,H1,I1,r1,q1⟩=>?_
 refine thn (hb pins s1 σ H1 _ I1 q1) λu s2 ⟨y,H2,I2,r2,q2⟩=>?_
 exact hf v u s2 x y H2 I2 r1 r2 q2
theorem B4 {op:Operator}{r:R2}(ho:OpR X (binaryOp op) r)(ha:PE X a ta)(hb:PE X b tb):PE X (.BinOp a op b pos) (tOp r ta tb):=by
 refine⟨?_⟩;intro pins s σ H Q I h;exact wpAny_BinOp (dB3 ha hb I h λv u s2 x y H2 I2 rx ry q=>ho pins s2 σ H2 x y v u Q I2 rx ry q)
theorem aR1 {op:UnaryOp}{r:V->Hp->VK->Prop}(ho:UnR X (unaryOp op) r)(ha:PE X a ta):PE X (.UnaryOp op a pos) (tUn r ta):=by
 refine⟨?_⟩;intro pins s σ H Q I h;exact UnaryOp_ (thn (ha pins s σ H _ I h) λv s1 ⟨x,H1,I1,r1,q1⟩=>ho pins s1 σ H1 x v Q I1 r1 q1)
theorem opI {f:Value->Value->Sem Value}{C:Int->Int->Prop}{g:Int->Int->Int}
  (rule:∀(i j:Int) (t u:Tok) (s:Shared) (Q:Value->Shared->Prop) (E:Value->Shared->Prop),C i j->Q (.int (g i j) s.toks) {s with toks:=s.toks+1}->wpAny (model X.prog X.w) X.A (f (.int i t) (.int j u)) Q E s) :
  OpR X f (rI C λi j=>.int (g i j)):=by
 intro pins s σ H x y v u Q I rx ry h;obtain ⟨i,j,rfl,rfl,hc,q⟩:=h;obtain ⟨t,rfl⟩:=rx;obtain ⟨t',rfl⟩:=ry;exact rule i j t t' s _ _ hc ⟨.int (g i j),H,I.tok _,⟨_,rfl⟩,q⟩
theorem dF0 {f:Value->Value->Sem Value}{g:Int->Int->Int}
  (rule:∀(i j:Int) (t u:Tok) (s:Shared) (Q:Value->Shared->Prop) (E:Value->Shared->Prop),Q (.int (g i j) s.toks) {s with toks:=s.toks+1}->wpAny (model X.prog X.w) X.A (f (.int i t) (.int j u)) Q E s) :
  OpR X f (rI0 λi j=>.int (g i j)):=by
 intro pins s σ H x y v u Q I rx ry h;obtain ⟨i,j,rfl,rfl,q⟩:=h;obtain ⟨t,rfl⟩:=rx;obtain ⟨t',rfl⟩:=ry;exact rule i j t t' s _ _ ⟨.int (g i j),H,I.tok _,⟨_,rfl⟩,q⟩
theorem cM3 {f:Value->Value->Sem Value}{g:Int->Int->Bool}
  (rule:∀(i j:Int) (t u:Tok) (s:Shared) (Q:Value->Shared->Prop) (E:Value->Shared->Prop),Q (.bool (g i j)) s->wpAny (model X.prog X.w) X.A (f (.int i t) (.int j u)) Q E s) :
  OpR X f (rI0 λi j=>.bl (g i j)):=by
 intro pins s σ H x y v u Q I rx ry h;obtain ⟨i,j,rfl,rfl,q⟩:=h;obtain ⟨t,rfl⟩:=rx;obtain ⟨t',rfl⟩:=ry;exact rule i j t t' s _ _ ⟨.bl (g i j),H,I,rfl,q⟩
def dH2 (i j:Int):Prop:=0<j/\j<1073741824
theorem E9:OpR X (binaryOp .Add) (rI0 λi j=>.int (i+j)):=dF0 λ_ _ _ _ _ _ _ q=>add_int q
theorem aB1:OpR X (binaryOp .Sub) (rI0 λi j=>.int (i-j)):=dF0 λ_ _ _ _ _ _ _ q=>sub_int q
theorem u8:OpR X (binaryOp .FloorDiv) (rI dH2 λi j=>.int (i / j)):=opI λi j _ _ _ _ _ hc q=>by
 have h1:(0:Int)<j:=hc.1
 have h2:j<1073741824:=hc.2
 exact floordiv_int (by omega) (by rw[Int.fdiv_eq_ediv_of_nonneg i (by omega)];exact q) (.inl (PyProof.noPylong_small (by omega)))
theorem U6:OpR X (binaryOp .Mod) (rI (λ_ j=>0<j) λi j=>.int (i % j)):=opI λi j _ _ _ _ _ hc q=>by
 have h1:(0:Int)<j:=hc
 exact mod_int' (by omega) (by rw[Int.fmod_eq_emod_of_nonneg i (by omega)];exact q)
theorem unI {f:Value->Sem Value}{g:Int->Int}
  (rule:∀(i:Int) (t:Tok) (s:Shared) (Q:Value->Shared->Prop) (E:Value->Shared->Prop),Q (.int (g i) s.toks) {s with toks:=s.toks+1}->wpAny (model X.prog X.w) X.A (f (.int i t)) Q E s) :
  UnR X f (rU λi=>.int (g i)):=by
 intro pins s σ H x v Q I rx h;obtain ⟨i,rfl,q⟩:=h;obtain ⟨t,rfl⟩:=rx;exact rule i t s _ _ ⟨.int (g i),H,I.tok _,⟨_,rfl⟩,q⟩
theorem aF4:UnR X (unaryOp .USub) (rU λi=>.int (-i)):=unI λ_ _ _ _ _ q=>neg_int q
end
def dC7:V->V->Bool
 | .non,.non=>true | .non,.int _=>true | .int _,.non=>true | .non,.bl _=>true | .bl _,.non=>true | .non,.str _=>true | .str _,.non=>true
 | .int _,.int _=>true | .bl _,.bl _=>true | .str _,.str _=>true | .byt _,.byt _=>true
 | .int _,.str _=>true | .str _,.int _=>true | .bl _,.str _=>true | .str _,.bl _=>true
 | _,_=>false
def rEq:R2:=λx y H Q=>dC7 x y=true/\Q (.bl (decide (x=y))) H
def rNe:R2:=λx y H Q=>dC7 x y=true/\Q (.bl (!decide (x=y))) H
theorem bS4 {i j:Int}:decide (V.int i=V.int j)=(i==j):=by
 rw[Bool.eq_iff_iff]
 simp
theorem cH6 {i j:Bool}:decide (V.bl i=V.bl j)=(i==j):=by
 rw[Bool.eq_iff_iff]
 simp
theorem bS5 {i j:Str}:decide (V.str i=V.str j)=(i==j):=by
 rw[Bool.eq_iff_iff]
 simp
theorem bP8 {i j:Array UInt8}:decide (V.byt i=V.byt j)=(i.toList==j.toList):=by
 rw[Bool.eq_iff_iff];cases i;cases j
 simp
section
variable {X:Cx}{a b c:Expr}{ta tb tc:TE}{pos:Pos}
theorem E3 {pins:List (Addr×Obj)}{σ:St}{H:Hp}{s:Shared}{Q:VK}{k k':Bool}(I:Inv X pins σ H s)(q:Q (.bl k) H)(e:k=k'):EP X pins σ Q (.bool k') s:=by
 subst e;exact⟨.bl k,H,I,rfl,q⟩
theorem bH4:OpR X (compareOp .Eq) rEq:=by
 intro pins s σ H x y v u Q I rx ry h;obtain ⟨hs,q⟩:=h;cases x with
 | non=>
  cases rx
  cases y with
  | non=>cases ry;exact PySem.EqNone.eq_none_none (E3 I q (by simp))
  | bl j=>cases ry;exact PySem.EqNone.eq_none_bool (E3 I q (by simp))
  | int j=>obtain ⟨t',rfl⟩:=ry;exact PySem.EqNone.eq_none_int (E3 I q (by simp))
  | str j=>obtain ⟨t',rfl⟩:=ry;exact PySem.EqNone.eq_none_str (E3 I q (by simp))
  | _=>exact absurd (show false=true from hs) Bool.false_ne_true
 | bl i=>
  cases rx
  cases y with
  | non=>cases ry;exact PySem.EqNone.eq_bool_none (E3 I q (by simp))
  | bl j=>cases ry;exact eq_bool (E3 I q cH6)
  | str j=>obtain ⟨t',rfl⟩:=ry;exact PySem.EqMixed.eq_bool_str (E3 I q (by simp))
  | _=>exact absurd (show false=true from hs) Bool.false_ne_true
 | int i=>
  obtain ⟨t,rfl⟩:=rx;cases y with
  | non=>cases ry;exact PySem.EqNone.eq_int_none (E3 I q (by simp))
  | int j=>obtain ⟨t',rfl⟩:=ry;exact eq_int (E3 I q bS4)
  | str j=>obtain ⟨t',rfl⟩:=ry;exact PySem.EqMixed.eq_int_str (E3 I q (by simp))
  | _=>exact absurd (show false=true from hs) Bool.false_ne_true
 | str i=>
  obtain ⟨t,rfl⟩:=rx;cases y with
  | non=>cases ry;exact PySem.EqNone.eq_str_none (E3 I q (by simp))
  | bl j=>cases ry;exact PySem.EqMixed.eq_str_bool (E3 I q (by simp))
  | int j=>obtain ⟨t',rfl⟩:=ry;exact PySem.EqMixed.eq_str_int (E3 I q (by simp))
  | str j=>obtain ⟨t',rfl⟩:=ry;exact eq_str (E3 I q bS5)
  | _=>exact absurd (show false=true from hs) Bool.false_ne_true
 | byt i=>
  obtain ⟨t,rfl⟩:=rx;cases y with
  | byt j=>obtain ⟨t',rfl⟩:=ry;exact PySem.W.eq_bytes (E3 I q bP8)
  | _=>exact absurd (show false=true from hs) Bool.false_ne_true
 | _=>cases y <;> exact absurd (show false=true from hs) Bool.false_ne_true
theorem cT8:OpR X (compareOp .NotEq) rNe:=by
 intro pins s σ H x y v u Q I rx ry h;obtain ⟨hs,q⟩:=h;cases x with
 | non=>
  cases rx
  cases y with
  | non=>cases ry;exact PySem.EqNone.ne_none_none (E3 I q (by simp))
  | bl j=>cases ry;exact PySem.EqNone.ne_none_bool (E3 I q (by simp))
  | int j=>obtain ⟨t',rfl⟩:=ry;exact PySem.EqNone.ne_none_int (E3 I q (by simp))
  | str j=>obtain ⟨t',rfl⟩:=ry;exact PySem.EqNone.ne_none_str (E3 I q (by simp))
  | _=>exact absurd (show false=true from hs) Bool.false_ne_true
 | bl i=>
  cases rx
  cases y with
  | non=>cases ry;exact PySem.EqNone.ne_bool_none (E3 I q (by simp))
  | bl j=>cases ry;exact ne_bool (E3 I q (congrArg not cH6))
  | str j=>obtain ⟨t',rfl⟩:=ry;exact PySem.EqMixed.ne_bool_str (E3 I q (by simp))
  | _=>exact absurd (show false=true from hs) Bool.false_ne_true
 | int i=>
  obtain ⟨t,rfl⟩:=rx;cases y with
  | non=>cases ry;exact PySem.EqNone.ne_int_none (E3 I q (by simp))
  | int j=>obtain ⟨t',rfl⟩:=ry;exact ne_int (E3 I q (congrArg not bS4))
  | str j=>obtain ⟨t',rfl⟩:=ry;exact PySem.EqMixed.ne_int_str (E3 I q (by simp))
  | _=>exact absurd (show false=true from hs) Bool.false_ne_true
 | str i=>
  obtain ⟨t,rfl⟩:=rx;cases y with
  | non=>cases ry;exact PySem.EqNone.ne_str_none (E3 I q (by simp))
  | bl j=>cases ry;exact PySem.EqMixed.ne_str_bool (E3 I q (by simp))
  | int j=>obtain ⟨t',rfl⟩:=ry;exact PySem.EqMixed.ne_str_int (E3 I q (by simp))
  | str j=>obtain ⟨t',rfl⟩:=ry;exact ne_str (E3 I q (congrArg not bS5))
  | _=>exact absurd (show false=true from hs) Bool.false_ne_true
 | byt i=>
  obtain ⟨t,rfl⟩:=rx;cases y with
  | byt j=>obtain ⟨t',rfl⟩:=ry;exact PySem.W.ne_bytes (E3 I q (congrArg not bP8))
  | _=>exact absurd (show false=true from hs) Bool.false_ne_true
 | _=>cases y <;> exact absurd (show false=true from hs) Bool.false_ne_true
theorem cT2:OpR X (compareOp .Lt) (rI0 λi j=>.bl (decide (i<j))):=cM3 λ_ _ _ _ _ _ _ q=>lt_int q
theorem dG6:OpR X (compareOp .LtE) (rI0 λi j=>.bl (decide (i<=j))):=cM3 λ_ _ _ _ _ _ _ q=>le_int q
theorem aW3:OpR X (compareOp .Gt) (rI0 λi j=>.bl (decide (j<i))):=cM3 λ_ _ _ _ _ _ _ q=>gt_int q
theorem dD6:OpR X (compareOp .GtE) (rI0 λi j=>.bl (decide (j<=i))):=cM3 λ_ _ _ _ _ _ _ q=>ge_int q
theorem cX1:OpR X (compareOp .Is) (λx y H Q=>y=.non/\Q (.bl (decide (x=.non))) H):=by
 intro pins s σ H x y v u Q I rx ry h;obtain ⟨rfl,q⟩:=h;cases ry;refine is_none_gen (E3 I q ?_);cases x <;> first
  | (cases rx;rfl)
  | (obtain ⟨t,rfl⟩:=rx;rfl)
theorem bO4:OpR X (compareOp .IsNot) (λx y H Q=>y=.non/\Q (.bl (!decide (x=.non))) H):=by
 intro pins s σ H x y v u Q I rx ry h;obtain ⟨rfl,q⟩:=h;cases ry;refine isnot_none_gen (E3 I q ?_);cases x <;> first
  | (cases rx;rfl)
  | (obtain ⟨t,rfl⟩:=rx;rfl)
theorem K3 (b:Expr){op:CmpOp}(h:op≠.In:=by decide)(h2:op≠.NotIn:=by decide):behindInMarks op b=false:=by
 have e1:(op==CmpOp.In)=false:=by cases op <;> first | rfl | exact absurd rfl h
 have e2:(op==CmpOp.NotIn)=false:=by cases op <;> first | rfl | exact absurd rfl h2
 cases b <;> simp[behindInMarks,e1,e2]
theorem t8 {op:CmpOp}{r:R2}(ho:OpR X (compareOp op) r)(ha:PE X a ta)(hb:PE X b tb)(hm:behindInMarks op b=false):PE X (.Compare a [op] [b] pos) (tOp r ta tb):=by
 refine⟨?_⟩;intro pins s σ H Q I h;exact wpAny_Compare1 (dB3 ha hb I h λv u s2 x y H2 I2 rx ry q=>ho pins s2 σ H2 x y v u Q I2 rx ry q) hm
def cT3 (t:TE):TT:=λσ H Q=>t σ H λx H'=>∃k,x=.bl k/\Q k H'
theorem H9 {op:CmpOp}{r:R2}(ho:OpR X (compareOp op) r)(ha:PE X a ta)(hb:PE X b tb)(hm:behindInMarks op b=false):PT X (.Compare a [op] [b] pos) (cT3 (tOp r ta tb)):=by
 refine⟨?_⟩;intro pins s σ H Q I h;refine wpAny_isTrue_Compare1 (thn (ha pins s σ H _ I h) λv s1 ⟨x,H1,I1,r1,q1⟩=>thn (hb pins s1 σ H1 _ I1 q1) λu s2 ⟨y,H2,I2,r2,q2⟩=>
  thn (ho pins s2 σ H2 x y v u _ I2 r1 r2 q2) λc s3 ⟨z,H3,I3,r3,k,e,q3⟩=>?_) hm
 subst e;cases r3;exact wpAny_truthy_bool ⟨H3,I3,q3⟩
def cJ1 (r r':R2)(ta tb tc:TE):TE:=λσ H Q=>ta σ H λx H1=>tb σ H1 λy H2=>r x y H2 λz H3=>∃k,z=.bl k /\
 (if k=true then tc σ H3 λw' H4=>r' y w' H4 Q else Q (.bl false) H3)
theorem cJ3 {op op':CmpOp}{r r':R2}(ho:OpR X (compareOp op) r)(ho':OpR X (compareOp op') r')(ha:PE X a ta)(hb:PE X b tb)(hc:PE X c tc)
  (hm:lastMarks [op,op'] [b,c]=false:=by with_unfolding_all rfl):PE X (.Compare a [op,op'] [b,c] pos) (cJ1 r r' ta tb tc):=by
 refine⟨?_⟩;intro pins s σ H Q I h;refine Compare_chain (thn (ha pins s σ H _ I h) λv s1 ⟨x,H1,I1,r1,q1⟩=>chain_link (thn (hb pins s1 σ H1 _ I1 q1) λu s2 ⟨y,H2,I2,r2,q2⟩=>
  thn (ho pins s2 σ H2 x y v u _ I2 r1 r2 q2) λd s3 ⟨z,H3,I3,r3,k,e,q3⟩=>?_)) hm
 subst e;cases r3;refine wpAny_truthy_bool ?_;cases k with
 | false=>exact ite_ff ⟨.bl false,H3,I3,rfl,q3⟩
 | true=>exact ite_tt (chain_last (thn (hc pins s3 σ H3 _ I3 q3) λw' s4 ⟨z',H4,I4,r4,q4⟩=>ho' pins s4 σ H4 y z' u w' Q I4 r2 r4 q4))
theorem aK3:(sizeLine:Nat)<2^63:=by rw[sizeLine_eq];decide
theorem aE3 {x:V}{us:List Value}(r:Vals [x] us):∃u,us=[u]/\RelV x u:=by
 cases r with
 | cons r1 r2=>cases r2;exact⟨_,rfl,r1⟩
theorem dD5 {x y:V}{us:List Value}(r:Vals [x,y] us):∃u w',us=[u,w']/\RelV x u/\RelV y w':=by
 cases r with
 | cons r1 r2=>
  cases r2 with
  | cons r3 r4=>cases r4;exact⟨_,_,rfl,r1,r3⟩
theorem bV1 (hc:X.calm=true):W9 X (.builtin "max") (λxs H Q=>∃i j,xs=[.int i,.int j]/\Q (.int (if j>i then j else i)) H):=by
 intro pins s σ H xs us Q I r h;obtain ⟨i,j,rfl,q⟩:=h;obtain ⟨u,w',rfl,⟨t,rfl⟩,⟨t',rfl⟩⟩:=dD5 r;refine max_two_ints (I.ok.hd hc) λh' tk k=>⟨_,H,I.kept k,?_,q⟩
 by_cases hj:j>i
 ·rw[if_pos hj,if_pos hj];exact⟨_,rfl⟩
 ·rw[if_neg hj,if_neg hj];exact⟨_,rfl⟩
end
theorem aU7 {h:Heap}{dx:Addr}{mA:Str->Option Value}(n:h.Ns1 dx mA):∃od,h.get? dx=some od/\∀name,PySem.W.lookIn name od=some (mA name):=by
 obtain ⟨o,es,ep,ho,hd,hk,_,hm⟩:=n;refine⟨o,ho,λname=>?_⟩
 have e:=hm name
 unfold nsFind findBy at e;rw[<- Array.find?_toList]at e;unfold PySem.W.lookIn;rw[hd];dsimp only;split
 ·rename_i y q;rw[q]at e;exact congrArg some e
 ·rename_i q;rw[q]at e;have a:es.toList.any (·.refKey)=false:=by
   rw[List.any_eq_false];intro y hy;obtain ⟨z,t,hkey⟩:=hk y (Array.mem_toList_iff.mp hy)
   simp[DictEntry.refKey,hkey]
  have a':¬es.toList.any (·.refKey)=true:=by rw[a];exact Bool.false_ne_true
  rw[if_neg a'];exact congrArg some e
theorem RelO.some_of {v:V}{o:Option Value}(r:RelO (some v) o):∃u,o=some u/\RelV v u:=by
 cases o with
 | none=>exact(show False from r).elim
 | some u=>exact⟨u,rfl,r⟩
theorem aV9 {v:V}{u:Value}(r:RelV v u):PySem.W.handedIn u=true:=by
 cases v with
 | non=>cases (show u=Value.none from r);rfl
 | bl b=>cases (show u=Value.bool b from r);rfl
 | int i=>obtain ⟨t,e⟩:=(show ∃t,u=Value.int i t from r);cases e;rfl
 | str x=>obtain ⟨t,e⟩:=(show ∃t,u=Value.str x t from r);cases e;rfl
 | byt b=>obtain ⟨t,e⟩:=(show ∃t,u=Value.bytes b t from r);cases e;rfl
 | flt b=>obtain ⟨t,e⟩:=(show ∃t,u=Value.float b t from r);cases e;rfl
 | ref a=>cases (show u=Value.ref a from r);rfl
 | ty n=>cases (show u=Value.type n from r);rfl
structure Cls (K:PySem.W.Frag)(C:Addr):Prop where
 pg:PySem.W.plainGet K C Str.empty=true
 hd:PySem.W.hasDictIn K C=true
 po:PySem.W.plainOver K C=true
 sa:PySem.W.findIn K (.ref C) "__setattr__" = some (some (.builtin "object.__setattr__"))
section
variable {X:Cx}{pins:List (Addr×Obj)}{σ:St}{H:Hp}{s:Shared}{a C dx:Addr}{fs:List (Str×V)}{f:Str}{v:V}{A:Around}{E:Value->Shared->Prop}
theorem bO8 {prog:Program}{w:World}{env:Env}{e:Expr}{f:Str}{pos:Pos}{s:Shared}{Q:Value->Shared->Prop}(hb:attributeBase e f env (eval e env)=eval e env)
  (h:wpAny (model prog w) A (eval e env) (λo s₁=>wpAny (model prog w) A (getAttr o f true) Q E s₁) E s):wpAny (model prog w) A (eval (.Attribute e f pos) env) Q E s:=
 Attribute_any_ h (by rw[arm_eval_Attribute,hb])
end
structure Room (k:Nat)(A:Around):Prop where
 hd:A.handled=none
 dp:A.depth+3*k+5<recursionLimit
 un:A.units+16*k+200<cLine
theorem Room.mono {j k:Nat}{A:Around}(r:Room k A)(h:j<=k):Room j A:=⟨r.hd,by have:=r.dp;omega,by have:=r.un;omega⟩
theorem Room.deeper {k:Nat}{A:Around}(r:Room (k+1) A)(env:Env):Room k (A.deeper env):=
 ⟨r.hd,by have:=r.dp;show A.depth+1+3*k+5<_;omega,by have:=r.un;show A.units+3+16*k+200<_;omega⟩
theorem bL2 {A:Around}{C:Addr}{us:List Value}{kw:List (Str×Value)}:(A.under (.builtin "type.__call__" ⟨.ref C::us,kw⟩)).depth=A.depth+1:=by
 first | rfl | simp[Around.under,Code.weight,Code.isCreation,Code.isGuard,Code.isCaller,Code.frames,Code.isFrame,guardIds]
theorem bL6 {A:Around}{C:Addr}{us:List Value}{kw:List (Str×Value)}:(A.under (.builtin "type.__call__" ⟨.ref C::us,kw⟩)).units=A.units+1:=by
 first | rfl | simp[Around.under,Code.cUnits,Code.frames,Code.isFrame]
theorem Room.make {k:Nat}{A:Around}(r:Room (k+1) A)(C:Addr)(us:List Value)(kw:List (Str×Value)):Room k (A.under (.builtin "type.__call__" ⟨.ref C::us,kw⟩)):=
 ⟨r.hd,by have:=r.dp;rw[bL2];omega,by have:=r.un;rw[bL6];omega⟩
theorem Room.depth {k:Nat}{A:Around}(r:Room k A):A.depth<recursionLimit:=by have:=r.dp;omega
def p8:TA:=λ_ H Q=>Q [] H
def N0 (ta:TE)(tr:TA):TA:=λσ H Q=>ta σ H λx H1=>tr σ H1 λxs H2=>Q (x::xs) H2
section
variable {X:Cx}{e:Expr}{es:List Expr}{te:TE}{t:TA}{pos:Pos}
theorem A2:PA X [] p8:=⟨λ_ _ _ _ H Q I h=>Calls.spliced_nil ⟨[],H,I,.nil,h⟩⟩
theorem cK0 (ha:PE X e te)(hr:PA X es t)(hs:starEach (e::es) X.env=(false,eval e X.env)::starEach es X.env:=by rfl):PA X (e::es) (N0 te t):=by
 refine⟨?_⟩;intro pos pins s σ H Q I h;rw[hs];show wpAny _ _ (spliced ((false,eval e X.env)::backTo pos (starEach es X.env))) _ _ s;refine Calls.spliced_cons (thn (ha pins s σ H _ I h) λu s1 ⟨x,H1,I1,r1,q1⟩=>?_)
 exact thn (hr pos pins s1 σ H1 _ I1 q1) λus s2 ⟨xs,H2,I2,r2,q2⟩=>⟨x::xs,H2,I2,.cons r1 r2,q2⟩
def bJ5 (t:TA):TE:=λσ H Q=>t σ H λxs H1=>xs.length<=sizeLine/\∀p,H1 p=none->Q (.ref p) (upd H1 p (.tup xs))
def dB7 (t:TA):TE:=λσ H Q=>t σ H λxs H1=>xs.length<=sizeLine/\∀p,H1 p=none->Q (.ref p) (upd H1 p (.lst xs))
theorem K1 {x1}(h:PA X es t):PE X (.Tuple es x1 pos) (bJ5 t):=by
 refine⟨?_⟩;intro pins s σ H Q I hq;refine wpAny_Tuple_spliced (thn (h pos pins s σ H _ I hq) λus s1 ⟨xs,H1,I1,r,z,q⟩=>⟨by rw[<- r.length];exact z,?_⟩)
 have hf:H1 s1.heap.objs.size=none:=I1.hok.fresh (Aa7 _)
 refine⟨.ref s1.heap.objs.size,upd H1 s1.heap.objs.size (.tup xs),I1.laid (t':=s1.toks) (λb u e=>Aa6 _ e) (Aa7 _) ?_,rfl,q _ hf⟩
 exact⟨z,us,r,⟨_,Ac3 _ rfl,rfl,⟨_,rfl⟩,rfl⟩⟩
theorem C4 (h:PA X es t):PE X (.List es pos) (dB7 t):=by
 refine⟨?_⟩;intro pins s σ H Q I hq;refine wpAny_List_spliced (thn (h pos pins s σ H _ I hq) λus s1 ⟨xs,H1,I1,r,z,q⟩=>⟨by rw[<- r.length];exact z,?_⟩)
 have hf:H1 s1.heap.objs.size=none:=I1.hok.fresh (Aa7 _)
 refine⟨.ref s1.heap.objs.size,upd H1 s1.heap.objs.size (.lst xs),I1.laid (t':=s1.toks) (λb u e=>Aa6 _ e) (Aa7 _) ?_,rfl,q _ hf⟩
 exact⟨z,us,0,r,Ac3 _ rfl⟩
end
abbrev Sp:=List V->Hp->VK->XK->Prop
abbrev CXT:=List Env->Hp->Shared->XK->Value->Shared->Prop
structure Env0 (P:Program)(w:World)(K:PySem.W.Frag)(mg:Str->Option Value)(base:Heap)(A:Around)(outer:List Env)(s:Shared)(H:Hp):Prop where
 frames:A.frames=some outer
 mod:Mod K mg base
 bs:∀b o,base.get? b=some o->s.heap.get? b=some o/\H b=none
 bsz:base.objs.size<=s.heap.objs.size
 funs:s.heap.FunFrames base outer
 frf:∀b∈frs outer,H b=none
 hok:HOk P w H s.heap
 bare:AllBare s.gens
def CE (outer:List Env)(P:Program)(w:World)(H:Hp)(s:Shared)(Q:VK)(u:Value)(s':Shared):Prop:=
 ∃v H',s'.os=s.os/\AllBare s'.gens/\Un (frs outer) [] H H' s.heap s'.heap/\HOk P w H' s'.heap/\RelV v u/\Q v H'
def CR (CX:CXT)(outer:List Env)(P:Program)(w:World)(H:Hp)(s:Shared)(Q:VK)(E:XK)(r:Result)(s':Shared):Prop:=
 match r with
 | .ok (.ret u)=>CE outer P w H s Q u s'
 | .ok _=>False
 | .error e=>CX outer H s E e s'
structure E4 (P:Program)(w:World)(K:PySem.W.Frag)(mg:Str->Option Value)(base:Heap)(CX:CXT)(k:Nat)(f:Addr)(fd:FuncData)(ps:List Str)(sp:Sp):Prop where
 len:∀vs H Q E,sp vs H Q E->vs.length=ps.length
 run:∀(A:Around) (outer:List Env) (s:Shared) (H:Hp) (args:Args) (us:List Value) (vs:List V) (Q:VK) (E:XK),Room k A->Env0 P w K mg base A outer s H->BindsTo s fd args (ps.zip us)->Vals vs us->sp vs H Q E ->
  codeAny (model P w) A (.call (.ref f) args) (CR CX outer P w H s Q E) s
theorem Env0.make {P:Program}{w:World}{K:PySem.W.Frag}{mg:Str->Option Value}{base:Heap}{A:Around}{outer:List Env}{s:Shared}{H:Hp}(e:Env0 P w K mg base A outer s H)(C:Addr)(us:List Value)(kw:List (Str×Value)) :
  Env0 P w K mg base (A.under (.builtin "type.__call__" ⟨.ref C::us,kw⟩)) outer s H:=⟨by first | exact e.frames | (simpa[Around.under,Code.envs,Code.isFrame,pushEnvs]using e.frames),e.mod,e.bs,e.bsz,e.funs,e.frf,e.hok,e.bare⟩
section
variable {X:Cx}{pins:List (Addr×Obj)}{σ:St}{H:Hp}{s s':Shared}
theorem Inv.env0 (I:Inv X pins σ H s):Env0 X.prog X.w X.K X.mg X.base X.A X.stack s H:=
 ⟨I.ok.frames,I.ok.mod,I.bs,Nat.le_trans I.ok.bsz I.sz,I.stack,I.stkFree,I.hok,I.bare⟩
theorem Inv.after {Q:VK}{u:Value}(I:Inv X pins σ H s)(h:CE X.stack X.prog X.w H s Q u s'):EP X pins σ Q u s':=by
 obtain ⟨v,H',os,bare,un,hok,r,q⟩:=h;obtain ⟨hh,g,d,t,os'⟩:=s';obtain rfl:os'=s.os:=os;exact⟨v,H',I.call (h':=hh) (g':=g) (d':=d) (t':=t) (ch:=[]) un hok bare (λb z=>absurd z (by simp)),r,q⟩
end
def aL3 (sp:Sp)(dvs:List V)(E:XK)(t:TA):TE:=λσ H Q=>t σ H λvs H1=>sp (vs++dvs) H1 Q E
def Binds (K:PySem.W.Frag)(fd:FuncData)(ps:List Str)(ds:List Value):Prop:=
 ∀(s:Shared) (us:List Value),K.In s.heap->(us++ds).length=ps.length->BindsTo s fd ⟨us,[]⟩ (ps.zip (us++ds))
theorem Binds.all {K:PySem.W.Frag}{fd:FuncData}{ps:List Str}(h:∀us:List Value,us.length=ps.length->bindArgs fd ⟨us,[]⟩=pure (ps.zip us)):Binds K fd ps []:=λs us _ hl=>by
 rw[List.append_nil]at hl ⊢;exact .of_eq (h us hl)
def aB0 (CX:CXT)(X:Cx)(E:XK):Prop:=∀(pins:List (Addr×Obj)) (σ:St) (H:Hp) (s:Shared) (e:Value) (s':Shared),Inv X pins σ H s->CX X.stack H s E e s'->X.xe e s'
section
variable {X:Cx}{CX:CXT}{k:Nat}{f C:Addr}{fd:FuncData}{ps:List Str}{sp:Sp}{dvs:List V}{ds:List Value}{E:XK}{x m:Str}{p pos apos:Pos}{e o:Expr}{es:List Expr}{ta:TE}{t:TA}
theorem cY8 {pins:List (Addr×Obj)}{σ:St}{H:Hp}{s:Shared}{Q:VK}{us:List Value}{vs:List V}(F:E4 X.prog X.w X.K X.mg X.base CX k f fd ps sp)(hr:Room k X.A)(hb:Binds X.K fd ps ds)(hd:Vals dvs ds)(hx:aB0 CX X E)
  (I:Inv X pins σ H s) (r:Vals vs us) (h:sp (vs++dvs) H Q E):wpAny (model X.prog X.w) X.A (call (.ref f) us) (EP X pins σ Q) X.xe s:=by
 have r2:Vals (vs++dvs) (us++ds):=r.append hd
 have hl:(us++ds).length=ps.length:=by rw[<- r2.length];exact F.len _ _ _ _ h
 refine wpAny_call (codeAny_mono (F.run X.A X.stack s H ⟨us,[]⟩ (us++ds) (vs++dvs) Q E hr I.env0 (hb s us I.kIn hl) r2 h) λr s' hq=>?_)
 cases r with
 | error e=>exact hx pins σ H s e s' I hq
 | ok fl=>
  cases fl with
  | ret u=>exact I.after hq
  | next=>exact False.elim hq
  | brk=>exact False.elim hq
  | cont=>exact False.elim hq
theorem C6 (F:E4 X.prog X.w X.K X.mg X.base CX k f fd ps sp)(hr:Room k X.A)(hg:Gl X x)(hm:X.mg x=some (.ref f))(hk:PySem.W.keepIn X.K (.ref f)=true)(hb:Binds X.K fd ps ds)(hd:Vals dvs ds)(hx:aB0 CX X E)
  (ha:PA X (e::es) t) (hdb:(x==("__debug__" : Str))=false:=by decide) (he:starEach (e::es) X.env=(false,eval e X.env)::starEach es X.env:=by rfl) (hpl:(backTo pos (starEach es X.env)).any (·.1)=false:=by rfl) :
  PE X (.Call (.Name x p) (e::es) [] pos) (aL3 sp dvs E t):=by
 refine⟨?_⟩;intro pins s σ H Q I h;refine wpAny_Call_Name_kw (i9 I hg hm ?_ hdb);refine PySem.W.callWith_K (h₀:=X.base) I.ok.mod.kin hk (thn (ha pos pins s σ H _ I h) λus s1 ⟨vs,H1,I1,r,q⟩=>⟨I1.kIn,?_⟩) he hpl
 exact cY8 F hr hb hd hx I1 r q
end
structure D5 (N P:List Str)(sc:Scope):Prop where
 kind:sc.kind=.function
 co:sc.isCoroutine=false
 gen:sc.isGenerator=false
 nd:N.Nodup
 pre:N.take P.length=P
 par:∀x∈P,sc.names.lookup x=some .local\/sc.names.lookup x=some .cell
 nofree:∀y∈sc.names,y.2≠.free
theorem aW8 {kindOf:Str->Option NameKind}{x:Str}:∀{binds:List (Str×Value)} {m:Str->Option Value},(∀v,(x,v)∉binds)->bindL kindOf binds m x=m x
 | [],_,_=>rfl
 | (n,v)::r,m,h=>by
  unfold bindL;rw[aW8 λw hw=>h w (Ad3 _ hw)]
  split
  ·have:x≠n:=by rintro rfl;exact h v List.mem_cons_self
   simp[this]
  ·rfl
theorem aU6 {kindOf:Str->Option NameKind}{x:Str}:∀{binds:List (Str×Value)} {m:Str->Option Value},(∀v,(x,v)∉binds)->bindC kindOf binds m x=m x
 | [],_,_=>rfl
 | (n,v)::r,m,h=>by
  unfold bindC;rw[aU6 λw hw=>h w (Ad3 _ hw)]
  split
  ·rfl
  ·have:x≠n:=by rintro rfl;exact h v List.mem_cons_self
   simp[this]
theorem aV5 {kindOf:Str->Option NameKind}{x:Str}{v:Value}:∀{P:List Str} {vs:List Value} {i:Nat} {m:Str->Option Value},P.Nodup->P[i]? = some x->vs[i]? = some v->kindOf x=some .local ->
  bindL kindOf (P.zip vs) m x=some v
 | [],_,_,_,_,h,_,_=>by simp at h
 | _::_,[],_,_,_,_,h,_=>by simp at h
 | p::P,w::vs,0,m,nd,h1,h2,hk=>by
  simp at h1 h2;subst h1;subst h2
  show bindL kindOf ((p,w)::P.zip vs) m p=_
  unfold bindL;rw[aW8 λv hv=>(Aa5.mp nd).1 (List.of_mem_zip hv).1,if_pos hk]
  simp
 | p::P,w::vs,i+1,m,nd,h1,h2,hk=>by
  show bindL kindOf ((p,w)::P.zip vs) m x=_
  unfold bindL;exact aV5 (i:=i) (Aa5.mp nd).2 (by simpa using h1) (by simpa using h2) hk
theorem aX3 {kindOf:Str->Option NameKind}{x:Str}{v:Value}:∀{P:List Str} {vs:List Value} {i:Nat} {m:Str->Option Value},P.Nodup->P[i]? = some x->vs[i]? = some v->kindOf x≠some .local ->
  bindC kindOf (P.zip vs) m x=some v
 | [],_,_,_,_,h,_,_=>by simp at h
 | _::_,[],_,_,_,_,h,_=>by simp at h
 | p::P,w::vs,0,m,nd,h1,h2,hk=>by
  simp at h1 h2;subst h1;subst h2
  show bindC kindOf ((p,w)::P.zip vs) m p=_
  unfold bindC;rw[aU6 λv hv=>(Aa5.mp nd).1 (List.of_mem_zip hv).1,if_neg hk]
  simp
 | p::P,w::vs,i+1,m,nd,h1,h2,hk=>by
  show bindC kindOf ((p,w)::P.zip vs) m x=_
  unfold bindC;exact aX3 (i:=i) (Aa5.mp nd).2 (by simpa using h1) (by simpa using h2) hk
def U9 (N:List Str)(vs:List V):St:=vs.map some++List.replicate (N.length-vs.length) none
def aP7 (CX:CXT)(P:Program)(w:World)(K:PySem.W.Frag)(mg:Str->Option Value)(base:Heap)(N:List Str)(qual:Str)(scope:Scope)(f:Addr)(cd:Value)(A:Around)(outer:List Env)(s:Shared)(H:Hp)(E:XK):Cx where
 prog:=P
 w:=w
 K:=K
 mg:=mg
 base:=base
 A:=A.deeper (envOfC qual scope s.heap.objs.size f cd)
 N:=N
 s₀:=s
 H₀:=H
 env:=envOfC qual scope s.heap.objs.size f cd
 outer:=outer
 stack:=envOfC qual scope s.heap.objs.size f cd::outer
 ex:=[]
 calm:=true
 fn:=λ_=>true
 pn:=[]
 xe:=λe s'=>wpAny (model P w) (A.deeper (envOfC qual scope s.heap.objs.size f cd)) (leaving (envOfC qual scope s.heap.objs.size f cd) e) (λ_ s''=>CX outer H s E e s'') (λe' s''=>CX outer H s E e' s'') s'
theorem bD6 {sc:Scope}{n:Nat}{x:Str}(h:sc.names.lookup x=some .cell):∃c,(cellsFrom n sc.names []).lookup x=some c:=by
 have q:=PySem.W.cellsFrom_some sc.names n [] (.inl h)
 exact Option.isSome_iff_exists.mp q
theorem aW9 {CX:CXT}{P:Program}{w:World}{K:PySem.W.Frag}{mg:Str->Option Value}{base:Heap}{N ps:List Str}{qual:Str}{scope:Scope}{f:Addr}{cd:Value}{A:Around}{outer:List Env}{s s1:Shared}{H:Hp}{E:XK}{us:List Value}{vs:List V}
  (S:D5 N ps scope) (hd:A.handled=none) (e0:Env0 P w K mg base A outer s H) (hl:vs.length=ps.length) (r:Vals vs us)
  (x:InCallC s s.heap.objs.size (bindL (envOfC qual scope s.heap.objs.size f cd).kindOf (ps.zip us) λ_=>none) (cellsFrom (s.heap.objs.size+1) scope.names []) (bindC (envOfC qual scope s.heap.objs.size f cd).kindOf (ps.zip us) λ_=>none) s1) :
  Inv (aP7 CX P w K mg base N qual scope f cd A outer s H E) [] (U9 N vs) H s1:=by
 have hpl:ps.length<=N.length:=by have:=congrArg List.length S.pre;rw[Ad0]at this;omega
 obtain ⟨h1,tk,rfl,hk⟩:=x.done;have noA:∀b:Addr,b∉(aP7 CX P w K mg base N qual scope f cd A outer s H E).ex:=λb z=>absurd (show b∈([]:List Addr) from z) (by simp)
 refine⟨⟨e0.mod,S.kind,rfl,rfl,Aa7 _,λy z c h1 h2=>?_,λy hy=>?_,λy c _ h=>?_,λ_=>hd,Around.frames_deeper e0.frames,.inr ⟨rfl,rfl⟩,λb z=>absurd z (noA b),e0.bs,e0.bsz,λb _ _=>noA b,λb z=>absurd z (noA b),e0.funs,e0.frf⟩,
  rfl,e0.bare,Un.kept hk,⟨_,x.toInCall.ns,λi y v h1 h2 h3=>?_⟩,λy c h=>⟨_,x.cell y c h⟩,e0.hok.fresh (Aa7 _),λy c h=>?_,λp hp=>absurd (show p∈([]:List (Addr×Obj)) from hp) (by simp),e0.hok.kept hk,?_⟩
 ·exact name_of_addr x.apart (PySem.mem_of_lookup h1) (PySem.mem_of_lookup h2)
 ·have hy:scope.names.lookup y=some .cell\/scope.names.lookup y=some .free:=hy
  rcases hy with hy | hy
  ·exact bD6 hy
  ·exact absurd rfl (S.nofree _ (PySem.mem_of_lookup hy))
 ·exact Nat.le_of_lt (x.above y c (PySem.mem_of_lookup h))
 ·have hi:i<vs.length:=by
   unfold U9 at h2;by_cases hi:i<vs.length
   ·exact hi
   ·rw[List.getElem?_append_right (by simpa using hi)]at h2
    rw[List.getElem?_replicate]at h2;split at h2 <;> cases h2
  have ha:vs[i]? = some v:=by
   unfold U9 at h2;rw[List.getElem?_append_left (by simpa using hi),Aa9]at h2
   cases e:vs[i]? with
   | none=>rw[e]at h2;cases h2
   | some a=>rw[e]at h2;cases h2;rfl
  obtain ⟨u,hu,rv⟩:=r.get ha;have hp:ps[i]? = some y:=by
   rw[<- S.pre,List.getElem?_take_of_lt (by omega)];exact h1
  have ndP:ps.Nodup:=by rw[<- S.pre];exact S.nd.sublist (List.take_sublist _ _)
  refine⟨u,rv,?_⟩;rcases S.par y (List.mem_of_getElem? hp) with k | k
  ·exact .inl ⟨k,aV5 ndP hp hu k⟩
  ·obtain ⟨c,e⟩:=bD6 (n:=s.heap.objs.size+1) k;refine .inr ⟨.inl k,c,e,?_⟩;have q:=x.cell y c e;rw[aX3 ndP hp hu (by show scope.names.lookup y≠_;rw[k];decide)]at q
   exact q
 ·exact e0.hok.fresh (Nat.le_of_lt (x.above y c (PySem.mem_of_lookup h)))
 ·unfold U9;show _=N.length;rw[Ab7,Aa3,List.length_replicate];omega
theorem cS2 {CX:CXT}{P:Program}{w:World}{K:PySem.W.Frag}{mg:Str->Option Value}{base:Heap}{k:Nat}{f:Addr}{name qual:Str}{params:Arguments}{body:List Stmt}{scope:Scope}{dV kV doc pm cdv ct oc:Value}{an od:Option Addr}
  {osl:Array (Option Value)} {N ps:List Str} {sp:Sp} (lk:K.lookup f=some ⟨oc,od,.func (PySem.W.fnOf name qual params body scope dV kV doc pm an cdv ct),osl⟩) (hcd:PySem.W.codeIn K cdv qual=true) (S:D5 N ps scope)
  (len:∀vs H Q E,sp vs H Q E->vs.length=ps.length)
  (hbody:∀(A:Around) (outer:List Env) (s:Shared) (H:Hp) (vs:List V) (Q:VK) (E:XK),Room k (A.deeper (envOfC qual scope s.heap.objs.size f cdv))->sp vs H Q E ->
   ∃t,PSs (aP7 CX P w K mg base N qual scope f cdv A outer s H E) body t/\t {nx:=λ_ H'=>Q .non H',rt:=Q} (U9 N vs) H) :
  E4 P w K mg base CX (k+1) f (PySem.W.fnOf name qual params body scope dV kV doc pm an cdv ct) ps sp:=by
 refine⟨len,λA outer s H args us vs Q E hr e0 hb r hsp=>?_⟩
 have hl:=len _ _ _ _ hsp
 have KX:K.In s.heap:=e0.mod.kin.keeps λb o e=>(e0.bs b o e).1
 have lim:s.heap.NoLimit:=e0.mod.nolimit.keeps λb o e=>(e0.bs b o e).1
 have hkind:∀y∈ps.zip us,scope.names.lookup y.1=some .local\/(scope.names.lookup y.1=some .cell/\((cellsFrom (s.heap.objs.size+1) scope.names []).lookup y.1).isSome=true):=λ⟨n,v⟩ hy=>by
  rcases S.par n (List.of_mem_zip hy).1 with q | q
  ·exact .inl q
  ·exact .inr ⟨q,PySem.W.cellsFrom_some _ _ _ (.inl q)⟩
 refine codeAny_call_function hr.depth (KX _ _ lk) rfl S.co S.gen rfl (PySem.W.codeRec_of KX hcd) (hb _ _ _ _ ?_);refine wpAny_newFunctionEnv_cells S.kind hkind λenv he s1 x=>?_
 subst he;refine⟨lim.keeps x.toInCall.keep,codeAny_func ?_⟩;obtain ⟨t,ht,hq⟩:=hbody A outer s H vs Q E (hr.deeper _) hsp;have I:Inv (aP7 CX P w K mg base N qual scope f cdv A outer s H E) [] (U9 N vs) H s1:=aW9 S hr.hd e0 hl r x;refine wpAny_mono (ht [] s1 (U9 N vs) H _ I hq) (λfl s' hs=>?_) λe s' hs=>hs
 have fin:∀{σ':St} {H':Hp} {v:V} {u:Value},Inv (aP7 CX P w K mg base N qual scope f cdv A outer s H E) [] σ' H' s'->RelV v u->Q v H'->CE outer P w H s Q u s':=
  λ{σ' H' v u} J rv q=>⟨v,H',J.os,J.bare,J.base,J.hok,rv,q⟩
 cases fl with
 | ret u=>
  obtain ⟨v,σ',H',J,rv,q⟩:=hs;exact fin J rv q
 | next=>
  obtain ⟨σ',H',J,q⟩:=hs;exact fin (v:=V.non) (u:=Value.none) J rfl q
 | brk=>
  obtain ⟨_,_,_,q⟩:=hs;exact False.elim q
 | cont=>
  obtain ⟨_,_,_,q⟩:=hs;exact False.elim q
section
variable {X:Cx}{x:Str}{p pos:Pos}{e:Expr}{es:List Expr}{t:TA}{id T:String}{r:List V->Hp->VK->Prop}
def tCB (r:List V->Hp->VK->Prop)(t:TA):TE:=λσ H Q=>t σ H λvs H1=>r vs H1 Q
theorem B9 (hc:W9 X (.builtin id) r)(hg:Gl X x)(hm:X.mg x=none)(hv:bootBuiltins x=some (.builtin id))(ha:PA X (e::es) t)(hn:x≠"__name__" := by decide)(hdb:(x==("__debug__" : Str))=false:=by decide)
  (he:starEach (e::es) X.env=(false,eval e X.env)::starEach es X.env:=by rfl) (hpl:(backTo pos (starEach es X.env)).any (·.1)=false:=by rfl):PE X (.Call (.Name x p) (e::es) [] pos) (tCB r t):=by
 refine⟨?_⟩;intro pins s σ H Q I h;refine wpAny_Call_Name_kw (o7 I hg hm hv ?_ hn hdb);exact PyProof.Rows.callWith_builtin1 (thn (ha pos pins s σ H _ I h) λus s1 ⟨vs,H1,I1,r1,q1⟩=>hc pins s1 σ H1 vs us Q I1 r1 q1) he hpl
theorem P7 (hc:W9 X (.type T) r)(hg:Gl X x)(hm:X.mg x=none)(hv:bootBuiltins x=some (.type T))(ha:PA X (e::es) t)(hn:x≠"__name__" := by decide)(hdb:(x==("__debug__" : Str))=false:=by decide)
  (he:starEach (e::es) X.env=(false,eval e X.env)::starEach es X.env:=by rfl) (hpl:(backTo pos (starEach es X.env)).any (·.1)=false:=by rfl):PE X (.Call (.Name x p) (e::es) [] pos) (tCB r t):=by
 refine⟨?_⟩;intro pins s σ H Q I h;refine wpAny_Call_Name_kw (o7 I hg hm hv ?_ hn hdb);exact PyProof.Rows.callWith_type1 (thn (ha pos pins s σ H _ I h) λus s1 ⟨vs,H1,I1,r1,q1⟩=>hc pins s1 σ H1 vs us Q I1 r1 q1) he hpl
end
end L2
namespace HT
open PySem PyProof.Rows
def j7:List Int->List Int->Bool
 | [],[]=>false
 | [],_::_=>true
 | _::_,[]=>false
 | x::xs,y::ys=>if x=y then j7 xs ys else decide (x<y)
section
open PySem.SeqAt
open PySem.AutoSeq1 (wpAny_loadPart')
open PySem.MeetsSeq PySem.MeetsSeq2 PySem.MeetsSeq3
end
section
variable {prog:Program}{w:World}{A:Around}{E:Value->Shared->Prop}{s:Shared}
def sIx (n d:Nat):Option Int->Nat
 | none=>d
 | some v=>if v<0 then(v+(n:Int)).toNat else min v.toNat n
end
end HT
namespace L2
open PySem PySem.Spec PyProof.Rows
abbrev TO:=St->Hp->(Option Int->Hp->Prop)->Prop
structure PO (X:Cx)(e:Option Expr)(t:TO):Prop where
 mk ::
 run :
  ∀(pins:List (Addr×Obj)) (s:Shared) (σ:St) (H:Hp) (Q:Option Int->Hp->Prop),Inv X pins σ H s->t σ H Q ->
   wpAny (model X.prog X.w) X.A (evalPart e X.env) (λu s'=>∃o H',Inv X pins σ H' s'/\IsPart u o/\Q o H') X.xe s
instance {X:Cx} {e:Option Expr} {t:TO}:CoeFun (PO X e t) λ_=>
 (∀(pins:List (Addr×Obj)) (s:Shared) (σ:St) (H:Hp) (Q:Option Int->Hp->Prop),Inv X pins σ H s->t σ H Q ->
  wpAny (model X.prog X.w) X.A (evalPart e X.env) (λu s'=>∃o H',Inv X pins σ H' s'/\IsPart u o/\Q o H') X.xe s):=⟨PO.run⟩
def aN9:TO:=λ_ H Q=>Q none H
def bO5 (t:TE):TO:=λσ H Q=>t σ H λx H1=>∃i,x=.int i/\Q (some i) H1
section
variable {X:Cx}{e:Expr}{te:TE}{lo hi:Option Expr}{tl th:TO}{pos p2:Pos}
theorem V2:PO X none aN9:=by
 refine⟨?_⟩;intro pins s σ H Q I h;rw[evalPart_none];exact wpAny_pure ⟨none,H,I,.none,h⟩
theorem V1 (h:PE X e te):PO X (some e) (bO5 te):=by
 refine⟨?_⟩;intro pins s σ H Q I hw;rw[evalPart_some];refine thn (h pins s σ H _ I hw) λu s1 ⟨x,H1,I1,r1,q1⟩=>?_
 obtain ⟨i,rfl,q⟩:=q1;obtain ⟨t,rfl⟩:=r1;exact⟨some i,H1,I1,.int i t,q⟩
def SlR (X:Cx)(r:V->Option Int->Option Int->Hp->VK->Prop):Prop:=
 ∀(pins:List (Addr×Obj)) (s:Shared) (σ:St) (H:Hp) (x:V) (v vl vu:Value) (lo hi:Option Int) (sl:Addr) (Q:VK),Inv X pins σ H s->RelV x v->s.heap.IsSliceOf sl vl vu .none->IsPart vl lo->IsPart vu hi->r x lo hi H Q ->
  ∃T id,typeLookup (.type T) "__getitem__" = pure (some (.builtin id))/\s.TypeIs v T/\wpAny (model X.prog X.w) X.A (getItem v (.ref sl)) (EP X pins σ Q) X.xe s
def tSl (r:V->Option Int->Option Int->Hp->VK->Prop)(te:TE)(tl th:TO):TE:=λσ H Q=>te σ H λx H1=>tl σ H1 λl H2=>th σ H2 λu H3=>r x l u H3 Q
theorem R3 {r:V->Option Int->Option Int->Hp->VK->Prop}(hr:SlR X r)(he:PE X e te)(hl:PO X lo tl)(hu:PO X hi th):PE X (.Subscript e (.Slice lo hi none p2) pos) (tSl r te tl th):=by
 refine⟨?_⟩;intro pins s σ H Q I h;refine Subscript_ (thn (he pins s σ H _ I h) λv s1 ⟨x,H1,I1,r1,q1⟩=>?_)
 refine wpAny_Slice (thn (hl pins s1 σ H1 _ I1 q1) λvl s2 ⟨l,H2,I2,pl,q2⟩=>thn (hu pins s2 σ H2 _ I2 q2) λvu s3 ⟨u,H3,I3,pu,q3⟩=>?_)
 rw[evalPart_none];refine wpAny_pure ?_;have I4:Inv X pins σ H3 {s3 with heap:=s3.heap.push {cls:=.type "slice",data:=.fields #[vl,vu,.none]}}:=I3.kept (t':=s3.toks) λb ob q=>Aa6 _ q
 obtain ⟨T,id,hT,ht,hg⟩:=hr pins {s3 with heap:=s3.heap.push {cls:=.type "slice",data:=.fields #[vl,vu,.none]}} σ H3 x v vl vu l u s3.heap.objs.size Q I4 r1 (Heap.IsSliceOf.new ..) pl pu q3
 show wpAny (model X.prog X.w) X.A (subscriptTail e (.Slice lo hi none p2) v (.ref s3.heap.objs.size)) (EP X pins σ Q) X.xe {s3 with heap:=s3.heap.push {cls:=.type "slice",data:=.fields #[vl,vu,.none]}}
 exact tail_any (ops:=[.ref s3.heap.objs.size,v]) ht hT hg (by with_unfolding_all rfl)
def bV8 (xs:List V)(lo hi:Option Int):List V:=(xs.drop (HT.sIx xs.length 0 lo)).take (HT.sIx xs.length xs.length hi-HT.sIx xs.length 0 lo)
theorem bF6 (xs:List V)(lo hi:Option Int):(bV8 xs lo hi).length<=xs.length:=by
 unfold bV8;rw[Ad0,List.length_drop];omega
end
def ixN (n:Nat)(i:Int):Option Nat:=if 0<=i then(if i<n then some i.toNat else none) else if -(n:Int)<=i then some (i+n).toNat else none
def atI {α:Type}(xs:List α)(i:Int):Option α:=(ixN xs.length i).bind λj=>xs[j]?
theorem aY2 {n:Nat}{i:Int}{j:Nat}(h:ixN n i=some j):seqIndex? i n=some j/\j<n /\ -(n:Int)<=i/\i<n:=by
 unfold ixN at h;by_cases h0:0<=i
 ·rw[if_pos h0]at h;by_cases h1:i<n
  ·rw[if_pos h1]at h;have e:i.toNat=j:=Ab4 h;exact⟨by rw[seqIndex_of h0 h1,e],by omega,by omega,h1⟩
  ·rw[if_neg h1]at h;cases h
 ·rw[if_neg h0]at h;by_cases h1 : -(n:Int)<=i
  ·rw[if_pos h1]at h;have e:(i+n).toNat=j:=Ab4 h;exact⟨by rw[seqIndex_neg (by omega) h1,e],by omega,h1,by omega⟩
  ·rw[if_neg h1]at h;cases h
theorem bB4 {α:Type}{xs:List α}{i:Int}{v:α}(h:atI xs i=some v):∃j,seqIndex? i xs.length=some j/\xs[j]? = some v/\j<xs.length /\ -(xs.length:Int)<=i/\i<xs.length:=by
 unfold atI at h;cases e:ixN xs.length i with
 | none=>rw[e]at h;cases h
 | some j=>
  rw[e]at h;obtain ⟨h1,h2,h3,h4⟩:=aY2 e;exact⟨j,h1,h,h2,h3,h4⟩
def cM1 (b:Expr):Prop:=∀o i,subscripted b false o i=operate [o,i] (getItem o i)
def IxR (X:Cx)(r:R2):Prop:=
 ∀(value slice:Expr) (pins:List (Addr×Obj)) (s:Shared) (σ:St) (H:Hp) (x y:V) (v u:Value) (Q:VK),Inv X pins σ H s->RelV x v->RelV y u->r x y H Q ->
  subscripted slice false v u=operate [v,u] (getItem v u)->wpAny (model X.prog X.w) X.A (subscriptTail value slice v u) (EP X pins σ Q) X.xe s
def MtR (X:Cx)(id:String)(r:V->List V->Hp->VK->Prop):Prop:=
 ∀(pins:List (Addr×Obj)) (s:Shared) (σ:St) (H:Hp) (x:V) (xs:List V) (v:Value) (us:List Value) (Q:VK),Inv X pins σ H s->RelV x v->Vals xs us->r x xs H Q ->
  wpAny (model X.prog X.w) X.A (call (.builtin id) (v::us)) (EP X pins σ Q) X.xe s
section
variable {X:Cx}{a b:Expr}{ta tb:TE}{pos:Pos}
theorem IxR.or {r r':R2}(h:IxR X r)(h':IxR X r'):IxR X (λx y H Q=>r x y H Q\/r' x y H Q):=by
 intro value slice pins s σ H x y v u Q I rx ry q hs;rcases q with q | q
 ·exact h value slice pins s σ H x y v u Q I rx ry q hs
 ·exact h' value slice pins s σ H x y v u Q I rx ry q hs
theorem C0 {r:R2}(hr:IxR X r)(ha:PE X a ta)(hb:PE X b tb)(hs:cM1 b):PE X (.Subscript a b pos) (tOp r ta tb):=by
 refine⟨?_⟩;intro pins s σ H Q I h;exact Subscript_ (dB3 ha hb I h λv u s2 x y H2 I2 rx ry q=>hr a b pins s2 σ H2 x y v u Q I2 rx ry q (hs _ _))
def dD7 (K:PySem.W.Frag):R2:=λx y H Q=>∃p xs i v,x=.ref p/\y=.int i/\SqL K H p xs/\atI xs i=some v/\Q v H
def dG5 (K:PySem.W.Frag):R2:=λx y H Q=>∃p xs i v,x=.ref p/\y=.int i/\SqT K H p xs/\atI xs i=some v/\Q v H
def dE4:R2:=λx y H Q=>∃z i c,x=.str z/\y=.int i/\z.length<=sizeLine/\atI z.cps.toList i=some c/\Q (.str ⟨#[c]⟩) H
theorem ix_list:IxR X (dD7 X.K):=by
 intro value slice pins s σ H x y v u Q I rx ry h hs;obtain ⟨p,xs,i,z,rfl,rfl,hq,he,q⟩:=h;cases rx;obtain ⟨t,rfl⟩:=ry;obtain ⟨its,r,pl,hz⟩:=I.list hq;obtain ⟨j,h1,h2,h3,h4,h5⟩:=bB4 he;obtain ⟨w,ew,rw'⟩:=r.get h2;have hl:=r.length;have hn:=aK3;have fin:EP X pins σ Q w s:=⟨z,H,I,rw',q⟩;by_cases h0:0<=i
 ·have hj:i.toNat=j:=by
   rw[seqIndex_of h0 h5]at h1;exact Ab4 h1
  exact item_listR pl.isList h0 (by omega) (by rw[hj];simpa using ew) fin hs
 ·have hj:(i+(its.toArray.size:Int)).toNat=j:=by
   rw[seqIndex_neg (by omega) h4]at h1
   rw[Ab2,<- hl];exact Ab4 h1
  exact subscriptTail_builtinR (x:=w) pl.isList.typeIs slot_list_getitem.lookup
   (wpAny_getItem_list_neg (Q:=λr s'=>r=w/\EP X pins σ Q r s') pl.isList (by omega) (by rw[Ab2] <;> omega) (by omega) (by rw[hj];simpa using ew) ⟨rfl,fin⟩) hs
theorem ix_tup:IxR X (dG5 X.K):=by
 intro value slice pins s σ H x y v u Q I rx ry h hs;obtain ⟨p,xs,i,z,rfl,rfl,hq,he,q⟩:=h;cases rx;obtain ⟨t,rfl⟩:=ry;obtain ⟨its,r,pl,hz⟩:=I.tuple hq;obtain ⟨j,h1,h2,h3,h4,h5⟩:=bB4 he;obtain ⟨w,ew,rw'⟩:=r.get h2;have hl:=r.length;have hn:=aK3;have fin:EP X pins σ Q w s:=⟨z,H,I,rw',q⟩;exact subscriptTail_builtinR (x:=w) pl.typeIs slot_tuple_getitem.lookup
  (getItem_tuple (j:=j) (Q:=λr s'=>r=w/\EP X pins σ Q r s') pl (by omega) (by omega) (by rw[Ab2,<- hl];exact h1) (by simpa using ew) ⟨rfl,fin⟩) hs
theorem cZ6:IxR X dE4:=by
 intro value slice pins s σ H x y v u Q I rx ry h hs;obtain ⟨z,i,c,rfl,rfl,hz,he,q⟩:=h;obtain ⟨t,rfl⟩:=rx;obtain ⟨t',rfl⟩:=ry;obtain ⟨j,h1,h2,h3,h4,h5⟩:=bB4 he;have hl:z.cps.toList.length=z.length:=by simp[Str.length]
 rw[hl]at h1 h4 h5;have hn:=aK3;exact tail_any (typeIs_str s z t) slot_str_getitem.lookup (getItem_str (c:=c) (by
  have e1:decide (i < -(2^63:Int))=false:=decide_eq_false (by omega)
  have e2:decide (i≥2^63)=false:=decide_eq_false (by omega)
  rw[e1,e2,Bool.or_false]) (by rw[h1];simpa using h2) ⟨.str ⟨#[c]⟩,H,I.tok _,⟨_,rfl⟩,q⟩) hs
def rIx (K:PySem.W.Frag):R2:=λx y H Q=>dD7 K x y H Q\/dG5 K x y H Q\/dE4 x y H Q
theorem C1:IxR X (rIx X.K):=ix_list.or (ix_tup.or cZ6)
theorem bN8 (its:List Value)(n j:Nat)(u:Value):Obj.mapSeq (·.setIfInBounds j u) {cls:=.type "list",data:=.seq its.toArray n}={cls:=.type "list",data:=.seq (its.set j u).toArray n}:=by
 simp[Obj.mapSeq]
theorem Inv.lst {pins:List (Addr×Obj)}{σ:St}{H:Hp}{s:Shared}{p:Addr}{xs:List V}(I:Inv X pins σ H s)(h:H p=some (.lst xs)) :
  ∃(its:List Value) (n:Nat),Vals xs its/\s.heap.get? p=some {cls:=.type "list",data:=.seq its.toArray n}/\xs.length<=sizeLine:=by
 obtain ⟨z,its,n,r,e⟩:=I.hok p _ h;exact⟨its,n,r,e,z⟩
theorem Inv.lstUpd {pins:List (Addr×Obj)}{σ:St}{H:Hp}{s:Shared}{p:Addr}{xs ys:List V}{its its':List Value}{n n':Nat}{f:Obj->Obj}(I:Inv X pins σ H s)(h:H p=some (.lst xs))
  (ho:s.heap.get? p=some {cls:=.type "list",data:=.seq its.toArray n}) (hf:f {cls:=.type "list",data:=.seq its.toArray n}={cls:=.type "list",data:=.seq its'.toArray n'}) (r:Vals ys its') (hz:ys.length<=sizeLine) (t:Nat) :
  Inv X pins σ (upd H p (.lst ys)) {s with heap:=s.heap.update p f,toks:=t}:=by
 have e:(s.heap.update p f).get? p=some {cls:=.type "list",data:=.seq its'.toArray n'}:=by
  rw[Heap.get?_update_self f ho (by rw[hf] <;> rfl),hf]
 refine I.write (x:=p) (e:=p) (by rw[h];trivial) (.inl rfl) (λb u hb q=>(Heap.get?_update_other _ _ (Ne.symm hb)).trans q) ⟨_,e⟩ ?_
 exact⟨hz,its',n',r,e⟩
def cI5:V->V->V->Hp->(Hp->Prop)->Prop:=λo i v H Q=>∃p xs k j,o=.ref p/\i=.int k/\H p=some (.lst xs)/\ixN xs.length k=some j/\Q (upd H p (.lst (xs.set j v)))
theorem aO8:dG3 X cI5:=by
 intro pins s σ H o i v ov iv u Q I ro ri rv h;obtain ⟨p,xs,k,j,rfl,rfl,hp,hj,q⟩:=h;cases ro;obtain ⟨t,rfl⟩:=ri;obtain ⟨its,n,r,ho,hz⟩:=I.lst hp;obtain ⟨h1,h2,h3,h4⟩:=aY2 hj;have hl:=r.length;have hn:=aK3;have I':Inv X pins σ (upd H p (.lst (xs.set j v))) {s with heap:=s.heap.update p (Obj.mapSeq (·.setIfInBounds j u))}:=
  I.lstUpd hp ho (bN8 its n j u) (r.set rv j) (by rw[List.length_set];exact hz) s.toks
 by_cases h0:0<=k
 ·have hk:k.toNat=j:=by
   rw[seqIndex_of h0 h4]at h1;exact Ab4 h1
  exact PySem.W.ki_setAt ho h0 (by omega) (by rw[Ab2,<- hl];exact h4) (by rw[hk];exact⟨_,I',q⟩)
 ·have hk:(k+(its.toArray.size:Int)).toNat=j:=by
   rw[seqIndex_neg (by omega) h3]at h1
   rw[Ab2,<- hl];exact Ab4 h1
  exact PySem.W.ki_setBack ho (by omega) (by rw[Ab2,<- hl];exact h3) (by omega) (by rw[hk];exact⟨_,I',q⟩)
theorem aZ8 (lo hi:Option Int)(n:Nat):(sliceBounds lo hi none n).1=((HT.sIx n 0 lo:Nat):Int)/\(sliceBounds lo hi none n).2.1=((HT.sIx n n hi:Nat):Int)/\(sliceBounds lo hi none n).2.2=1:=by
 refine⟨?_,?_,rfl⟩
 ·cases lo with
  | none=>simp[sliceBounds,HT.sIx]
  | some i=>
   simp only[sliceBounds,HT.sIx,Option.getD_none,show(1:Int)>0 by decide,if_true]
   by_cases h:i<0
   ·simp only[h,if_true] <;> omega
   ·simp only[h,if_false] <;> omega
 ·cases hi with
  | none=>simp[sliceBounds,HT.sIx]
  | some i=>
   simp only[sliceBounds,HT.sIx,Option.getD_none,show(1:Int)>0 by decide,if_true]
   by_cases h:i<0
   ·simp only[h,if_true] <;> omega
   ·simp only[h,if_false] <;> omega
theorem aT5 (its:List Value)(lo hi:Option Int):slicePick its.toArray lo hi none=((its.drop (HT.sIx its.length 0 lo)).take (HT.sIx its.length its.length hi-HT.sIx its.length 0 lo)).toArray:=by
 obtain ⟨h1,h2,h3⟩:=aZ8 lo hi its.toArray.size;unfold slicePick;rw[h1,h2,h3];simp only[sliceRange_one,pick_run,Ab2] <;> rfl
def cJ2 (K:PySem.W.Frag):V->Option Int->Option Int->Hp->VK->Prop:=λx lo hi H Q=>∃a xs,x=.ref a/\SqL K H a xs/\∀p,H p=none->Q (.ref p) (upd H p (.lst (bV8 xs lo hi)))
theorem bC5:SlR X (cJ2 X.K):=by
 intro pins s σ H x v vl vu lo hi sl Q I rx hs pl pu h;obtain ⟨a,xs,rfl,hx,q⟩:=h;cases rx;obtain ⟨its,r,ht,hz⟩:=I.list hx;have hlen:=r.length;refine⟨"list",_,slot_list_getitem.lookup,ht.isList.typeIs,?_⟩;refine wpAny_getItem_list_slice ht.isList hs pl pu .none (by simp) ?_ (by rw[Ab2] <;> omega)
 rw[aT5,<- hlen];refine⟨.ref s.heap.objs.size,_,I.laid (t':=s.toks) (o:=.lst (bV8 xs lo hi)) (λb ob q=>Aa6 _ q) (Aa7 _) ?_,rfl,q _ (I.hok.fresh (Aa7 _))⟩
 exact⟨Nat.le_trans (bF6 xs lo hi) hz,_,0,(r.drop (HT.sIx xs.length 0 lo)).take (HT.sIx xs.length xs.length hi-HT.sIx xs.length 0 lo),Ac3 _ rfl⟩
theorem N2:W9 X (.builtin "len") (λxs H Q=>∃p ys,xs=[.ref p]/\(SqL X.K H p ys\/SqT X.K H p ys)/\Q (.int ys.length) H):=by
 intro pins s σ H xs us Q I r h;obtain ⟨p,ys,rfl,hq,q⟩:=h;obtain ⟨u,rfl,rx⟩:=aE3 r;cases rx;have hn:=aK3;rcases hq with hq | hq
 ·obtain ⟨its,r',pl,hz⟩:=I.list hq;have hlen:=r'.length;exact Calls.call_len_list pl.isList (by simp only[Ab2] <;> omega) ⟨.int ys.length,H,I.tok _,⟨s.toks+1,by rw[Ab2,hlen]⟩,q⟩
 ·obtain ⟨its,r',pl,hz⟩:=I.tuple hq;have hlen:=r'.length;exact len_tuple pl (by simp only[Ab2] <;> omega) ⟨.int ys.length,H,I.tok _,⟨s.toks+1,by rw[Ab2,hlen]⟩,q⟩
theorem bB6:W9 X (.type "list") (λxs H Q=>∃p ys,xs=[.ref p]/\(SqL X.K H p ys\/SqT X.K H p ys)/\∀l,H l=none->Q (.ref l) (upd H l (.lst ys))):=by
 intro pins s σ H xs us Q I r h;obtain ⟨p,ys,rfl,hq,q⟩:=h;obtain ⟨u,rfl,rx⟩:=aE3 r;cases rx;have fin:∀(its:List Value),Vals ys its->ys.length<=sizeLine->∀(h':Heap) (c':Nat),(∀b o',s.heap.get? b=some o'->h'.get? b=some o') ->
   h'.get? s.heap.objs.size=some {cls:=.type "list",dict:=none,data:=.seq its.toArray c',slots := #[]}->EP X pins σ Q (.ref s.heap.objs.size) {s with heap:=h'}:=λits r' hz h' c' kp e=>
  ⟨.ref s.heap.objs.size,_,I.laid (t':=s.toks) kp (Aa7 _) (show ObjOk X.prog X.w _ h' _ (.lst ys) from⟨hz,its,c',r',e⟩),rfl,q _ (I.hok.fresh (Aa7 _))⟩
 rcases hq with hq | hq
 ·obtain ⟨its,r',pl,hz⟩:=I.list hq;have hlen:=r'.length;obtain ⟨o,ho,hc,n,hd⟩:=pl.isList;exact call_list_seq p (.inl rfl) ho hc hd (λh' c' kp e=>fin its r' hz h' c' kp e) (by simp only[Ab2] <;> omega)
 ·obtain ⟨its,r',pl,hz⟩:=I.tuple hq;have hlen:=r'.length;obtain ⟨o,ho,hc,n,hd⟩:=pl;exact call_list_seq p (.inr rfl) ho hc hd (λh' c' kp e=>fin its r' hz h' c' kp e) (by simp only[Ab2] <;> omega)
theorem S9:W9 X (.type "tuple") (λxs H Q=>∃p ys,xs=[.ref p]/\((SqL X.K H p ys/\∀l,H l=none->Q (.ref l) (upd H l (.tup ys)))\/(SqT X.K H p ys/\Q (.ref p) H))):=by
 intro pins s σ H xs us Q I r h;obtain ⟨p,ys,rfl,h⟩:=h;obtain ⟨u,rfl,rx⟩:=aE3 r;cases rx;rcases h with ⟨hq,q⟩ | ⟨hq,q⟩
 ·obtain ⟨its,r',pl,hz⟩:=I.list hq;have hlen:=r'.length;refine call_tuple_list pl.isList (λh' kp=>?_) (by simp only[Ab2] <;> omega)
  have I1:Inv X pins σ H {s with heap:=h'}:=I.kept (t':=s.toks) kp
  have I2:Inv X pins σ (upd H h'.objs.size (.tup ys)) {s with heap:=h'.push {cls:=.type "tuple",data:=.seq its.toArray}}:=
   I1.laid (t':=s.toks) (λb o e=>Aa6 _ e) (Aa7 _) (show ObjOk X.prog X.w _ _ _ (.tup ys) from⟨hz,its,r',Tup0.nw _ _ _⟩)
  exact⟨.ref h'.objs.size,_,I2,rfl,q _ (I1.hok.fresh (Aa7 _))⟩
 ·obtain ⟨its,r',pl,hz⟩:=I.tuple hq;exact call_tuple_same pl ⟨.ref p,H,I,rfl,q⟩
def tyV (K:PySem.W.Frag)(T:String)(x:V)(H:Hp):Prop:=match x with
 | .str _=>T = "str"
 | .int _=>T = "int"
 | .ref p=>(T = "list" /\ ∃xs,SqL K H p xs)\/(T = "tuple" /\ ∃xs,SqT K H p xs) \/
   (T = "dict" /\ ((∃kvs,H p=some (.dK kvs))\/∃kvs,H p=some (.dT kvs)))\/(T = "set" /\ ∃S n,H p=some (.set S n))
 | _=>False
theorem cE3 {pins:List (Addr×Obj)}{σ:St}{H:Hp}{s:Shared}{T:String}{x:V}{v:Value}(I:Inv X pins σ H s)(r:RelV x v)(ty:tyV X.K T x H) :
  s.TypeIs v T/\∀a,v=.ref a->∃ob,s.heap.get? a=some ob/\ob.dict=none:=by
 cases x with
 | str z=>
  obtain ⟨t,rfl⟩:=r;cases (show T = "str" from ty)
  exact⟨typeIs_str s z t,λ_ e=>nomatch e⟩
 | int i=>
  obtain ⟨t,rfl⟩:=r;cases (show T = "int" from ty)
  exact⟨typeIs_int s i t,λ_ e=>nomatch e⟩
 | ref p=>
  cases r
  rcases ty with ⟨rfl,xs,hq⟩ | ⟨rfl,xs,hq⟩ | ⟨rfl,hk⟩ | ⟨rfl,S,n,hk⟩
  ·obtain ⟨its,_,pl,_⟩:=I.list hq;refine⟨pl.isList.typeIs,λa e=>?_⟩
   cases e
   obtain ⟨o,n,e,c,hd,_⟩:=pl;exact⟨o,e,hd⟩
  ·obtain ⟨its,_,p0,_⟩:=I.tuple0 hq;obtain ⟨o,h1,h2,_,h3⟩:=p0;refine⟨⟨o,h1,h2⟩,λa e=>?_⟩
   cases e
   exact⟨o,h1,h3⟩
  ·have z:∃o,s.heap.get? p=some o/\o.ExactDict:=by
    rcases hk with ⟨kvs,hk⟩ | ⟨kvs,hk⟩
    ·obtain ⟨_,_,_,_,o,_,_,e,ex,_⟩:=I.hok p _ hk;exact⟨o,e,ex⟩
    ·obtain ⟨_,_,_,_,o,_,_,e,ex,_⟩:=I.hok p _ hk;exact⟨o,e,ex⟩
   obtain ⟨o,e,ex⟩:=z;refine⟨⟨o,e,ex.1⟩,λa e2=>?_⟩
   cases e2
   exact⟨o,e,ex.2.1⟩
  ·obtain ⟨o,_,_,_,e,ex,_⟩:=I.hok p _ hk;refine⟨⟨o,e,ex.1⟩,λa e2=>?_⟩
   cases e2
   exact⟨o,e,ex.2.1⟩
 | _=>exact False.elim ty
def cY9 (K:PySem.W.Frag)(T:String)(r:V->List V->Hp->VK->Prop)(to:TE):TE:=λσ H Q=>to σ H λx H1=>tyV K T x H1/\r x [] H1 Q
def tBM (K:PySem.W.Frag)(T:String)(r:V->List V->Hp->VK->Prop)(to:TE)(t:TA):TE:=λσ H Q=>to σ H λx H1=>tyV K T x H1/\t σ H1 λxs H2=>r x xs H2 Q
variable {o e:Expr}{es:List Expr}{to:TE}{t:TA}{name:Str}{apos cpos:Pos}{T id:String}{r:V->List V->Hp->VK->Prop}
theorem bC9 (pa:PlainAttrs T)(slot:Slot T name id)(hty:typeOf (.builtin id)=pure (.type "method_descriptor"))(hm:MtR X id r)(ho:PE X o to)
  (hbase:attributeBase o name X.env (eval o X.env)=eval o X.env:=by rfl) (hline:(apos.endLine==cpos.line)=true:=by rfl):PE X (.Call (.Attribute o name apos) [] [] cpos) (cY9 X.K T r to):=by
 refine⟨?_⟩;intro pins s σ H Q I h;refine wpAny_Call_method0_late hbase hline (thn (ho pins s σ H _ I h) λv s1 ⟨x,H1,I1,r1,ty,q1⟩=>?_)
 obtain ⟨h1,h2⟩:=cE3 I1 r1 ty;exact⟨T,id,pa,slot,hty,h1,h2,Calls.callWith_builtin rfl (PySem.evalArgs_none (hm pins s1 σ H1 x [] v [] Q I1 r1 .nil q1))⟩
theorem U8 (pa:PlainAttrs T)(slot:Slot T name id)(hty:typeOf (.builtin id)=pure (.type "method_descriptor"))(hm:MtR X id r)(ho:PE X o to)(ha:PA X (e::es) t)
  (hbase:attributeBase o name X.env (eval o X.env)=eval o X.env:=by rfl)
  (hfew:((backTo cpos (starEach (e::es) X.env)).all (λx => !x.1)&&(backToKw cpos (keywordEach [] X.env)).all (λx=>x.1.isSome)
   && decide ((e::es).length+([]:List Keyword).length+(if([]:List Keyword).isEmpty then 0 else 1)<30))=true:=by rfl)
  (hline:(apos.endLine==cpos.line)=true:=by rfl) (hs:starEach (e::es) X.env=(false,eval e X.env)::starEach es X.env:=by rfl) (hplain:(backTo cpos (starEach es X.env)).any (·.1)=false:=by rfl) :
  PE X (.Call (.Attribute o name apos) (e::es) [] cpos) (tBM X.K T r to t):=by
 refine⟨?_⟩;intro pins s σ H Q I h;refine wpAny_Call_method_late hbase hfew hline rfl (thn (ho pins s σ H _ I h) λv s1 ⟨x,H1,I1,r1,ty,q1⟩=>?_)
 obtain ⟨h1,h2⟩:=cE3 I1 r1 ty;refine⟨T,id,pa,slot,hty,h1,h2,?_⟩;have hA:=ha cpos pins s1 σ H1 _ I1 q1;rw[hs]at hA ⊢;refine Calls.callWith_builtin (by show(false||(backTo cpos (starEach es X.env)).any (·.1))=false;rw[hplain] <;> rfl) (Calls.evalArgs_plain ?_)
 exact thn hA λus s2 ⟨vs,H2,I2,r2,q2⟩=>hm pins s2 σ H2 x vs v us Q I2 r1 r2 q2
end
def MtM (X:Cx)(id:String)(r:V->List V->Hp->VK->Prop):Prop:=
 ∀(pins:List (Addr×Obj)) (s:Shared) (σ:St) (H:Hp) (x:V) (xs:List V) (v:Value) (us:List Value) (Q:VK),Inv X pins σ H s->RelV x v->Vals xs us->r x xs H Q ->
  wpAny (model X.prog X.w) X.A (call (.builtin id) (v::us)) (EP X pins σ Q) X.xe s
theorem Vals.one:∀{x:V} {us:List Value},Vals [x] us->∃u,us=[u]/\RelV x u
 | _,_,.cons r .nil=>⟨_,rfl,r⟩
theorem Vals.zero:∀{us:List Value},Vals [] us->us=[]
 | _,.nil=>rfl
theorem Vals.dropLast {xs:List V}{us:List Value}(h:Vals xs us):Vals xs.dropLast us.dropLast:=by
 induction h with
 | nil=>exact .nil
 | cons r t ih=>
  cases t with
  | nil=>exact .nil
  | cons q t'=>exact .cons r ih
theorem Vals.eraseIdx:∀{xs:List V} {us:List Value} (i:Nat),Vals xs us->Vals (xs.eraseIdx i) (us.eraseIdx i)
 | _,_,_,.nil=>.nil
 | _,_,0,.cons _ t=>t
 | _,_,i+1,.cons r t=>.cons r (Vals.eraseIdx i t)
theorem Vals.rep {xs:List V}{us:List Value}(h:Vals xs us):∀k:Nat,Vals (List.replicate k xs).flatten (List.replicate k us).flatten
 | 0=>.nil
 | k+1=>by
  rw[List.replicate_succ,List.replicate_succ,List.flatten_cons,List.flatten_cons];exact Vals.append h (Vals.rep h k)
theorem bK2 {α:Type}(l:List α):l.eraseIdx (l.length-1)=l.dropLast:=by
 induction l with
 | nil=>rfl
 | cons a r ih=>
  cases r with
  | nil=>rfl
  | cons b r=>
   have e:(a::b::r).length-1=((b::r).length-1)+1:=by
    have h1:(a::b::r).length=r.length+2:=rfl
    have h2:(b::r).length=r.length+1:=rfl
    omega
   rw[e,List.eraseIdx_cons_succ,ih]
   all_goals rfl
theorem aU8 {α:Type}:∀(l:List α) (i:Nat),(l.eraseIdx i).length<=l.length
 | [],_=>Aa7 _
 | _::_,0=>Nat.le_succ _
 | _::r,i+1=>Nat.succ_le_succ (aU8 r i)
theorem aV4 (its:List Value):∀(k:Nat) (acc:List Value),
  List.foldl (λx1 x2=>x1++x2) acc.toArray (List.replicate k its.toArray)=(acc++(List.replicate k its).flatten).toArray
 | 0,acc=>by simp
 | k+1,acc=>by
  have e:acc.toArray++its.toArray=(acc++its).toArray:=by simp
  have e2:(acc++its)++(List.replicate k its).flatten=acc++(List.replicate (k+1) its).flatten:=by
   rw[List.replicate_succ,List.flatten_cons,Ad5]
  rw[<- e2,<- aV4 its k (acc++its),<- e,List.replicate_succ,List.foldl_cons]
section
variable {X:Cx}{pins:List (Addr×Obj)}{σ:St}{H:Hp}{s:Shared}{l b:Addr}{xs ys zs:List V}
theorem Inv.lset {its its':List Value}{n:Nat}{f:Array Value->Array Value}{t':Nat}(I:Inv X pins σ H s)(hH:H l=some (.lst xs))
  (e:s.heap.get? l=some {cls:=.type "list",data:=.seq its.toArray n}) (hf:f its.toArray=its'.toArray) (hv:Vals ys its') (hz:ys.length<=sizeLine) :
  Inv X pins σ (upd H l (.lst ys)) {s with heap:=s.heap.update l (Obj.mapSeq f),toks:=t'}:=by
 have q:=PySem.IsL.update e f
 rw[hf]at q;refine I.write (x:=l) (e:=l) (by rw[hH];exact trivial) (.inl rfl) (λb' u hb hu=>(Heap.get?_update_other s.heap (Obj.mapSeq f) (Ne.symm hb)).trans hu) ⟨_,q⟩ ?_
 exact⟨hz,its',_,hv,q⟩
theorem Inv.lnew {its:List Value}{t':Nat}(I:Inv X pins σ H s)(hv:Vals ys its)(hz:ys.length<=sizeLine) :
  Inv X pins σ (upd H s.heap.objs.size (.lst ys)) {s with heap:=s.heap.push {cls:=.type "list",data:=.seq its.toArray},toks:=t'}:=
 I.laid (λ_ _ q=>Aa6 _ q) (Aa7 _) ⟨hz,its,0,hv,Ac3 _ rfl⟩
theorem Inv.fresh (I:Inv X pins σ H s):H s.heap.objs.size=none:=I.hok.fresh (Aa7 _)
theorem Inv.lstM (I:Inv X pins σ H s)(hH:H l=some (.lst xs)):xs.length<=sizeLine/\∃(its:List Value) (n:Nat),Vals xs its/\xs.length=its.length/\s.heap.get? l=some {cls:=.type "list",data:=.seq its.toArray n}:=by
 obtain ⟨z,its,n,r,e⟩:=I.hok l _ hH;exact⟨z,its,n,r,r.length,e⟩
theorem cA3 {n:Nat}(h:n<=sizeLine):Builtin.List.listTooLong n=false:=by
 unfold Builtin.List.listTooLong;exact decide_eq_false (by omega)
end
section
variable {X:Cx}
def aG7:V->List V->Hp->VK->Prop:=λx vs H Q=>∃l xs y,x=.ref l/\vs=[y]/\H l=some (.lst xs)/\xs.length<sizeLine/\Q .non (upd H l (.lst (xs++[y])))
theorem E8:MtM X "list.append" aG7:=by
 intro pins s σ H x vs v us Q I rx rv h;obtain ⟨l,xs,y,rfl,rfl,hH,hz,q⟩:=h;cases rx;obtain ⟨u,rfl,ru⟩:=rv.one;obtain ⟨z,its,n,r,hl,e⟩:=I.lstM hH;refine call_meets F.slot_list_append ⟨_,e,rfl⟩ F.entry_list_append (F.args_list_append_2 _ _) (PySem.list_append l its.toArray n u (by rw[Ab2];omega)) ⟨e,?_⟩
 refine⟨.non,_,I.lset (its':=its++[u]) hH e (by simp) (r.append (.cons ru .nil)) ?_,rfl,q⟩
 rw[Ab7,List.length_singleton];omega
def cZ5:V->List V->Hp->VK->Prop:=λx vs H Q=>∃l xs y,x=.ref l/\vs=[]/\H l=some (.lst xs)/\xs[xs.length-1]? = some y/\Q y (upd H l (.lst xs.dropLast))
theorem bA6:MtM X "list.pop" cZ5:=by
 intro pins s σ H x vs v us Q I rx rv h;obtain ⟨l,xs,y,rfl,rfl,hH,hy,q⟩:=h;cases rx;have hus:=rv.zero;subst hus;obtain ⟨z,its,n,r,hl,e⟩:=I.lstM hH;obtain ⟨u,hu,ru⟩:=r.get hy;have hy':its.toArray[its.toArray.size-1]? = some u:=by
  show its.toArray[its.length-1]? = some u
  rw[<- Array.getElem?_toList,<- hl];exact hu
 refine call_meets F.slot_list_pop ⟨_,e,rfl⟩ F.entry_list_pop (F.args_list_pop_1 _) (MeetsSeq.list_pop_last l its.toArray n u hy' (by rw[Ab2];omega)) ⟨e,?_⟩
 refine⟨y,_,I.lset (its':=its.dropLast) hH e ?_ r.dropLast ?_,ru,q⟩
 ·show its.toArray.eraseIdxIfInBounds (its.toArray.size-1)=its.dropLast.toArray
  rw[Ab2,List.eraseIdxIfInBounds_toArray,bK2]
 ·rw[List.length_dropLast];omega
def cD5:V->List V->Hp->VK->Prop:=λx vs H Q=>∃l xs i k y,x=.ref l/\vs=[.int i]/\H l=some (.lst xs) /\ -(2^63)<=i/\i<2^63/\seqIndex? i xs.length=some k/\xs[k]? = some y/\Q y (upd H l (.lst (xs.eraseIdx k)))
theorem cG0:MtM X "list.pop" cD5:=by
 intro pins s σ H x vs v us Q I rx rv h;obtain ⟨l,xs,i,k,y,rfl,rfl,hH,h1,h2,hk,hy,q⟩:=h;cases rx;obtain ⟨u,rfl,ru⟩:=rv.one;obtain ⟨t,rfl⟩:=ru;obtain ⟨z,its,n,r,hl,e⟩:=I.lstM hH;obtain ⟨w,hw,rw'⟩:=r.get hy;refine call_meets F.slot_list_pop ⟨_,e,rfl⟩ F.entry_list_pop (F.args_list_pop_2 _ _)
  (MeetsSeq.list_pop_at l its.toArray n i t k w (fitsIndex_both h1 h2) (by rw[Ab2,<- hl];exact hk) (by rw[<- Array.getElem?_toList];exact hw) (by rw[Ab2];omega)) ⟨e,?_⟩
 refine⟨y,_,I.lset (its':=its.eraseIdx k) hH e ?_ (r.eraseIdx k) ?_,rw',q⟩
 ·show its.toArray.eraseIdxIfInBounds k=(its.eraseIdx k).toArray
  rw[List.eraseIdxIfInBounds_toArray]
 ·have:=aU8 xs k
  omega
def dC8:R2:=λx y H Q=>∃l k xs,x=.ref l/\y=.int k/\H l=some (.lst xs) /\ -(2^63)<=k/\k<2^63/\xs.length*k.toNat<=sizeLine /\
 ∀p,H p=none->Q (.ref p) (upd H p (.lst (List.replicate k.toNat xs).flatten))
theorem cP8 {α:Type}(xs:List α)(k:Nat):(List.replicate k xs).flatten.length=k*xs.length:=by
 induction k with
 | zero=>simp
 | succ k ih=>rw[List.replicate_succ,List.flatten_cons,Ab7,ih,Nat.succ_mul,Nat.add_comm]
theorem cJ0:OpR X (binaryOp .Mult) dC8:=by
 intro pins s σ H x y v u Q I rx ry h;obtain ⟨l,k,xs,rfl,rfl,hH,h1,h2,hz,q⟩:=h;cases rx;obtain ⟨t,rfl⟩:=ry;obtain ⟨z,its,n,r,hl,e⟩:=I.lstM hH;have hlen:its.toArray.size*k.toNat<=sizeLine:=by rw[Ab2,<- hl];exact hz
 have hcap:¬its.toArray.size*k.toNat>(2^63-1) / 8:=by
  have:(sizeLine:Nat)<=(2^63-1) / 8:=by decide
  omega
 have hfit:¬(!Builtin.List.listFitsIndex k)=true:=by
  rw[fitsIndex_both h1 h2];exact Bool.false_ne_true
 have hlong:¬Builtin.List.listTooLong (its.toArray.size*k.toNat)=true:=by
  rw[cA3 hlen];exact Bool.false_ne_true
 have hnew:List.foldl (λx1 x2=>x1++x2) #[] (List.replicate (if its.toArray.isEmpty=true then 0 else k.toNat) its.toArray)=(List.replicate k.toNat its).flatten.toArray:=by
  have f0:∀m:Nat,List.foldl (λx1 x2=>x1++x2) #[] (List.replicate m its.toArray)=(List.replicate m its).flatten.toArray:=λm=>by
   have:=aV4 its m []
   rw[List.nil_append]at this;exact this
  rw[f0];cases its with
  | nil=>simp
  | cons a r'=>rw[if_neg (by simp)]
 refine wpAny_binaryOp_repeat_ref (T := "list") (U := "int") (by decide) ⟨_,e,rfl⟩ (λs'=>typeIs_int s' k t) noFill_list_mul F.fills_int_mul F.slot_int_rmul repeat_list F.slot_int_index.lookup
  (call_meets F.slot_int_rmul (typeIs_int s k t) F.entry_int_rmul (F.args_int_rmul_2 _ _) (int___rmul___int_list k t l its.toArray n)
   ⟨e,rfl,⟨_,e,rfl⟩,call_meets F.slot_list_mul ⟨_,e,rfl⟩ F.entry_list_mul (F.args_list_mul_2 _ _) (AutoListH.list___mul___list_int_3 l its.toArray n k t hfit hcap hlong) ⟨e,?_⟩⟩)
 rw[hnew];exact⟨.ref _,_,I.lnew (t':=s.toks) (r.rep k.toNat) (by rw[cP8,Nat.mul_comm];exact hz),rfl,q _ I.fresh⟩
end
end L2
namespace Att
open PySem PySem.W PySem.Calls PyProof.Rows
theorem aM4 {P:Params}{h:Heap}:∀(ns:List Int) (vs:List Value),WellAll P h vs (ns.map WData.int)->IntsAre vs ns:=by
 intro ns;induction ns with
 | nil=>
  intro vs w;rw[List.map_nil]at w;cases w;exact .nil
 | cons n ns ih=>
  intro vs w;rw[Ac6]at w;cases w with
  | cons a b=>
   cases a
   exact .cons _ _ (ih _ b)
theorem bX4 {l:OpenLaw}{n:Nat}(hn:l.most=some n){P:Params}{h:Heap}{args:List WData}{vals:List Value}
  (hpre:l.row.toRowW.claim.pre args=true) (hwl:WellAll P h vals args) :
  ∃a vs ns,vals=[Value.ref a]/\args=[WData.list (ns.map WData.int)]/\h.get? a=some {cls:=.type "list",data:=.seq vs.toArray}/\IntsAre vs ns/\ns.length<=n:=by
 have hsh:WShape.hasAll [] args [.list .int]=true:=(pre_splitW hpre).1
 have hc:l.pre.holds [] {args:=args}=true:=(pre_splitW hpre).2
 obtain ⟨d,r,rfl,h1,h2⟩:=hasAllW_cons hsh;obtain rfl:=hasAllW_nil h2;obtain ⟨xs,rfl,h3⟩:=hasW_list h1;obtain ⟨ns,rfl⟩:=items_int h3;have hlen:ns.length<=n:=by
  unfold OpenLaw.pre at hc;have h4:(WTm.not (.lt (.lit (.int (n:Int))) (.len (.arg 0)))).holds [] {args:=[.list (ns.map .int)]}=true:=by
   have h4:=(holds_andW hc).1
   rw[hn]at h4;exact h4
  have h5:=condW_of h4 (w_not (w_lt w_lit (w_len_list (w_arg rfl))))
  rw[Aa3]at h5;refine Nat.le_of_not_lt λq=>?_
  have q':(n:Int)<((ns.length:Nat):Int):=by omega
  first
   | (rw[decide_eq_true q']at h5;exact absurd h5 (by decide))
   | (simp at h5;omega)
 cases hwl with
 | cons w1 w2=>
  cases w2
  cases w1 with
  | list ho hall=>exact⟨_,_,ns,rfl,rfl,ho,aM4 ns _ hall,hlen⟩
theorem bW4 (l:OpenLaw)(args:List WData):l.row.toRowW.claim.post args (.bool true) args=true:=
 postW_of (r:=l.row.toRowW) (X:=(true==true))
  (show WShape.has [] (.bool true) .bool=true by first | rfl | decide | simp[WShape.has,WShape.arms,WShape.armsAll])
  (show(WTm.eq .res (.lit (.bool true))).value [] {args:=args,res:=some (.bool true),after:=args}=some (.bool (true==true)) from w_eq_bool (w_res rfl) w_lit) rfl
theorem bI1 {l:OpenLaw}{n:Nat}{q:Program}{loose:List Str}{XP:(Str->Option Value)->Heap->Prop}{YP:World->Heap->Prop}{d:DefRec}
  (hn:l.most=some n) (hdf:d.params.defaults=[])
  (call:∀(w:World) (s₀ s₁:Shared) (mg mb:Str->Option Value) (fa:Addr) (o:Obj) (pm cd doc:Value) (a:Addr) (vs:List Value) (ns:List Int),
   Ground q loose [] XP w s₀ mg mb s₁.heap->YP w s₁.heap ->
   s₁.heap.get? fa=some o->o.data=.func (docDef d.name d.params d.body d.scope pm cd doc)->s₁.heap.CodeRec cd d.name->mg d.name=some (.ref fa) ->
   s₁.heap.get? a=some {cls:=.type "list",data:=.seq vs.toArray}->IntsAre vs ns->ns.length<=n->s₁.gens = #[] ->
   codeAny (model l.prog w) callerA (.call (.ref fa) ⟨[.ref a],[]⟩) (λr s'=>r=.ok (.ret (.bool true))/\OldK s₁.heap s'.heap/\s'.os=s₁.os/\AllBare s'.gens) s₁) :
  WalkO q loose XP YP l.row.toRowW d [] (λf vs=>PySem.call f vs):=by
 intro w s₀ s₁ mg mb G Y fa o pm cd doc dV kV ho hd hcd hD hmg hg args vals as hpre hlay hrd hwl hlo;obtain rfl:dV=.none:=Dflts.none hD hdf;obtain rfl:kV=.none:=Dflts.noKw hD;obtain ⟨a,vs,ns,rfl,rfl,hobj,hints,hlen⟩:=bX4 hn hpre hwl;refine enter_call (codeAny_mono (call w s₀ s₁ mg mb fa o pm cd doc a vs ns G Y ho (fd_plain hd) hcd hmg hobj hints hlen hg) λr s' hq=>?_)
 obtain ⟨rfl,h2,h3,h4⟩:=hq;exact⟨.inl ⟨.bool true,.bool true,[],rfl,λ_=>rfl,.bool true,bW4 l _,λ_=>⟨List.Pairwise.nil,λ_ hm=>(nomatch hm)⟩⟩,h2,h3,h4⟩
section
variable {prog:Program}{w:World}{A:Around}{E:Value->Shared->Prop}{s:Shared}{K:Frag}
def bL1 (h:Heap):Heap:={h with objs := #[]}
theorem w9 (h:Heap)(b:Addr):(bL1 h).get? b=none:=by
 cases e:(bL1 h).get? b with
 | none=>rfl
 | some o=>exact absurd (Ab3 e) (Nat.not_lt_zero _)
theorem cW5 {h:Heap}{L:Addr}{m:Str->Option Value}(n:h.Ns L m):Fr (bL1 h) L h m:=
 ⟨n,λb o e=>(by rw[w9]at e;cases e),Nat.zero_le _⟩
end
end Att
namespace L2
open PySem PySem.Spec PyProof.Rows
theorem W3:∀{vs:List Value} {ns:List Int},IntsAre vs ns->Vals (ns.map V.int) vs
 | _,_,.nil=>.nil
 | _,_,.cons n t h=>.cons ⟨t,rfl⟩ (W3 h)
def cV2 (H:Hp):Prop:=∀b,H b=none\/∃o xs,H b=some (.frz o (.lst xs))
theorem cC4 {P:Program}{w:World}{K:PySem.W.Frag}{mg mb:Str->Option Value}{CX:CXT}{k:Nat}{fa a:Addr}{fd:FuncData}{x:Str}{sp:Sp}{s₁:Shared}{vs:List Value}{ns:List Int}
  (KX:K.In s₁.heap) (hns:s₁.heap.Ns mainGlobals mg) (hb:s₁.heap.Ns builtinsNs mb) (hbb:∀x:Str,x≠"__name__" -> mb x=bootBuiltins x) (hlim:s₁.heap.NoLimit) (hg:s₁.gens = #[])
  (ha:s₁.heap.get? a=some {cls:=.type "list",data:=.seq vs.toArray}) (hi:IntsAre vs ns) (hl:ns.length<=sizeLine) (hr:Room k callerA)
  (F:∀base:Heap,K.In base->base.Ns mainGlobals mg->E4 P w K mg base CX k fa fd [x] sp) (hbind:∀(s:Shared) (u:Value),BindsTo s fd ⟨[u],[]⟩ [(x,u)])
  (hsp:∀H:Hp,cV2 H->SqL K H a (ns.map V.int)->sp [.ref a] H (λv _=>v=.bl true) λ_ _ _=>False)
  (hCX:∀H e s',CX [] H s₁ (λ_ _ _=>False) e s'->False) :
  codeAny (model P w) callerA (.call (.ref fa) ⟨[.ref a],[]⟩) (λr s'=>r=.ok (.ret (.bool true))/\OldK s₁.heap s'.heap/\s'.os=s₁.os/\AllBare s'.gens) s₁:=by
 have rv:=W3 hi
 have aA4:=hi.length
 have core:∀H:Hp,cV2 H->SqL K H a (ns.map V.int)->HOk P w H s₁.heap->(∀b,H b≠none->b=a)->(H a≠none->K.lookup a=none) ->
   codeAny (model P w) callerA (.call (.ref fa) ⟨[.ref a],[]⟩) (λr s'=>r=.ok (.ret (.bool true))/\OldK s₁.heap s'.heap/\s'.os=s₁.os/\AllBare s'.gens) s₁:=by
  intro H hO hS hok hA hK;have base_of:∀{b:Addr} {o:Obj},s₁.heap.get? b=some o->H b=none->(bB5 s₁.heap H).get? b=some o:=λe n=>cA8 e n
  have noA:∀{b:Addr} {o:Obj} {es:Array DictEntry} {ep:Nat},s₁.heap.get? b=some o->o.data=.dict es ep->H b=none:=λ{b o es ep} e d=>by
   cases q:H b with
   | none=>rfl
   | some u=>
    have e':b=a:=hA b (by rw[q];simp)
    subst e';rw[ha]at e;cases e;have d':Data.seq vs.toArray _=Data.dict es ep:=d;cases d'
  have nsK:∀{b:Addr} {m:Str->Option Value},s₁.heap.Ns b m->(bB5 s₁.heap H).Ns b m:=λ{b m} ⟨o,es,ep,e,d,r⟩=>⟨o,es,ep,base_of e (noA e d),d,r⟩
  have hKb:K.In (bB5 s₁.heap H):=λb o e=>base_of (KX b o e) (by
   cases q:H b with
   | none=>rfl
   | some u=>
    have e':b=a:=hA b (by rw[q];simp)
    subst e';rw[hK (by rw[q];simp)]at e;cases e)
  have hM:Mod K mg (bB5 s₁.heap H):=⟨hKb,nsK hns,⟨mb,nsK hb,hbb⟩,let ⟨mc,h1,h2⟩:=hlim;⟨mc,nsK h1,h2⟩⟩
  have e0:Env0 P w K mg (bB5 s₁.heap H) callerA [] s₁ H:=⟨rfl,hM,λb o e=>cN6 e,Nat.le_of_eq (bV2 _ _),trivial,λb hb=>absurd (show b∈([]:List Addr) from hb) (by simp),hok,.of_eq hg⟩
  refine codeAny_mono ((F _ hKb (nsK hns)).run callerA [] s₁ H ⟨[.ref a],[]⟩ [.ref a] [.ref a] _ _ hr e0 (hbind s₁ (.ref a)) (.cons rfl .nil) (hsp H hO hS)) λr s' h=>?_
  cases r with
  | error e=>exact(hCX H e s' h).elim
  | ok fl=>
   cases fl with
   | next=>exact False.elim h
   | brk=>exact False.elim h
   | cont=>exact False.elim h
   | ret u=>
    obtain ⟨v,H',os,bare,un,hok',r',q⟩:=h;have q':v=.bl true:=q;subst q';obtain rfl:u=Value.bool true:=r';refine⟨rfl,OldK.of_keep λb o e=>?_,os,bare⟩
    cases q:H b with
    | none=>exact un.keep b o e q (by intro z;exact absurd (show b∈([]:List Addr) from z) (by simp)) (by simp)
    | some u=>
     rcases hO b with z | ⟨ob,xs,z⟩
     ·rw[q]at z;cases z
     ·have z2:=un.frzs b ob _ z
      obtain ⟨e1,_⟩:=hok b _ z;obtain ⟨e2,_⟩:=hok' b _ z2;rw[e]at e1;cases e1;exact e2
 cases hk:K.lookup a with
 | some o=>
  have e:=KX a o hk
  rw[ha]at e;cases e;refine core (λ_=>none) (λ_=>.inl rfl) (.inr ⟨_,vs.toArray,_,hk,rfl,rfl,rfl,by rw[Ab2,aA4];exact hl,by simpa using rv⟩) (λb u z=>by have z':(none:Option HO)=some u:=z;cases z') (λb z=>absurd rfl z) λz=>absurd rfl z
 | none=>
  refine core (λb=>if b=a then some (.frz {cls:=.type "list",data:=.seq vs.toArray} (.lst (ns.map V.int))) else none) (λb=>?_) (.inl (.inr ⟨{cls:=.type "list",data:=.seq vs.toArray},if_pos rfl⟩)) (λb u z=>?_) (λb z=>?_) λ_=>hk
  ·by_cases hb:b=a
   ·exact .inr ⟨_,_,if_pos hb⟩
   ·exact .inl (if_neg hb)
  ·by_cases hb:b=a
   ·have z':=(if_pos hb).symm.trans z
    cases z'
    subst hb;exact⟨ha,by rw[Aa3];exact hl,vs,_,rv,ha⟩
   ·have z':=(if_neg hb).symm.trans z
    cases z'
  ·by_cases hb:b=a
   ·exact hb
   ·exact absurd (if_neg hb) z
abbrev KOf {K:PySem.W.Frag}{h:Heap}(_:K.In h):PySem.W.Frag:=K
theorem cN1 {l:PySem.W.OpenLaw}{n k:Nat}{q:Program}{loose:List Str}{XP:(Str->Option Value)->Heap->Prop}{YP:World->Heap->Prop}{d:DefRec}{K:Params->PySem.W.Frag}{CX:World->CXT}{sp:World->Sp}{x:Str}
  (hn:l.most=some n) (hn2:n<=sizeLine) (hdf:d.params.defaults=[]) (hr:Room k callerA)
  (hY:∀(w:World) (h:Heap),YP w h->(K w.params).In h)
  (F:∀(w:World) (mg:Str->Option Value) (fa:Addr) (h:Heap),(K w.params).In h->h.Ns mainGlobals mg->mg d.name=some (.ref fa) ->
   ∃fd:FuncData,(∀(s:Shared) (u:Value),BindsTo s fd ⟨[u],[]⟩ [(x,u)]) /\
    ∀base:Heap,(K w.params).In base->base.Ns mainGlobals mg->E4 l.prog w (K w.params) mg base (CX w) k fa fd [x] (sp w))
  (hsp:∀(w:World) (H:Hp) (a:Addr) (ns:List Int),ns.length<=n->cV2 H->SqL (K w.params) H a (ns.map V.int)->sp w [.ref a] H (λv _=>v=.bl true) λ_ _ _=>False)
  (hCX:∀(w:World) (H:Hp) (s:Shared) (e:Value) (s':Shared),CX w [] H s (λ_ _ _=>False) e s'->False) :
  PySem.W.WalkO q loose XP YP l.row.toRowW d [] (λf vs=>PySem.call f vs):=by
 refine Att.bI1 hn hdf λw s₀ s₁ mg mb fa o pm cd doc a vs ns G Y ho hd hcd hmg hobj hints hlen hg=>?_
 have KX:=hY w _ Y
 obtain ⟨fd,hb,hF⟩:=F w mg fa _ KX G.T.g hmg;exact cC4 KX G.T.g G.T.b G.T.builtins G.T.nolimit hg hobj hints (Nat.le_trans hlen hn2) hr hF hb (λH hO hS=>hsp w H a ns hlen hO hS) λH e s'=>hCX w H s₁ e s'
def cQ9 (s:Stmt)(j:Nat):Stmt:=match s with
 | .ClassDef _ _ _ body _ _ _ _ _ _ _=>body.getD j (.Pass ⟨0,0,0,0⟩)
 | _=>.Pass ⟨0,0,0,0⟩
def E1 (s:Stmt):Arguments:=match s with
 | .FunctionDef _ a _ _ _ _ _ _ _ _=>a
 | _=>{posonlyargs:=[],args:=[],vararg:=none,kwonlyargs:=[],kw_defaults:=[],kwarg:=none,defaults:=[]}
def D1 (s:Stmt):List Stmt:=match s with
 | .FunctionDef _ _ b _ _ _ _ _ _ _=>b
 | _=>[]
def A8 (s:Stmt):Scope:=match s with
 | .FunctionDef _ _ _ _ _ _ sc _ _ _=>sc
 | _=>{kind:=.function,names:=[],isGenerator:=false,isCoroutine:=false}
abbrev CX0:CXT:=λ_ _ _ _ _ _=>False
abbrev E0:XK:=λ_ _ _=>False
theorem L8 {X:Cx}:aB0 CX0 X E0:=λ_ _ _ _ _ _ _ h=>h.elim
structure Fun (K:PySem.W.Frag)(x qual:Str)(st:Stmt)(f:Addr)(fd:FuncData):Prop where
 ex:∃(oc:Value) (od:Option Addr) (kV doc pm:Value) (an:Option Addr) (cdv ct:Value) (osl:Array (Option Value)),
  fd=PySem.W.fnOf x qual (E1 st) (D1 st) (A8 st) .none kV doc pm an cdv ct/\K.lookup f=some ⟨oc,od,.func fd,osl⟩/\PySem.W.codeIn K cdv qual=true
 kp:PySem.W.keepIn K (.ref f)=true
section
variable {P:Program}{w:World}{K:PySem.W.Frag}{mg:Str->Option Value}{base:Heap}
theorem Fun.ok {x qual:Str}{st:Stmt}{f:Addr}{fd:FuncData}{N ps:List Str}{k:Nat}{sp:Sp}(F:Fun K x qual st f fd)(S:D5 N ps (A8 st))(len:∀vs H Q E,sp vs H Q E->vs.length=ps.length)
  (hbody:∀(cdv:Value) (A:Around) (outer:List Env) (s:Shared) (H:Hp) (vs:List V) (Q:VK) (E:XK),Room k (A.deeper (envOfC qual (A8 st) s.heap.objs.size f cdv))->sp vs H Q E ->
   ∃t,PSs (aP7 CX0 P w K mg base N qual (A8 st) f cdv A outer s H E).nox (D1 st) t/\t {nx:=λ_ H'=>Q .non H',rt:=Q} (U9 N vs) H):E4 P w K mg base CX0 (k+1) f fd ps sp:=by
 obtain ⟨oc,od,kV,doc,pm,an,cdv,ct,osl,rfl,lk,hcd⟩:=F.ex;refine cS2 lk hcd S len λA outer s H vs Q E hr hsp=>?_
 obtain ⟨t,h,q⟩:=hbody cdv A outer s H vs Q E hr hsp;exact⟨t,h.nox,q⟩
theorem Fun.binds {x qual:Str}{st:Stmt}{f:Addr}{fd:FuncData}{ps:List Str}(F:Fun K x qual st f fd)
  (h:∀(kV doc pm:Value) (an:Option Addr) (cdv ct:Value) (us:List Value),us.length=ps.length->bindArgs (PySem.W.fnOf x qual (E1 st) (D1 st) (A8 st) .none kV doc pm an cdv ct) ⟨us,[]⟩=pure (ps.zip us)):Binds K fd ps []:=by
 obtain ⟨oc,od,kV,doc,pm,an,cdv,ct,osl,rfl,lk,hcd⟩:=F.ex;exact .all (h kV doc pm an cdv ct)
theorem M1 {x qual:Str}{st:Stmt}{f:Addr}{oc:Value}{od an:Option Addr}{osl:Array (Option Value)}{kV doc pm cdv ct:Value}(l:K.lookup f=some ⟨oc,od,.func (PySem.W.fnOf x qual (E1 st) (D1 st) (A8 st) .none kV doc pm an cdv ct),osl⟩)
  (c:PySem.W.codeIn K cdv qual=true) (k:PySem.W.keepIn K (.ref f)=true):Fun K x qual st f (PySem.W.fnOf x qual (E1 st) (D1 st) (A8 st) .none kV doc pm an cdv ct):=⟨⟨oc,od,kV,doc,pm,an,cdv,ct,osl,rfl,l,c⟩,k⟩
end
section
variable {X:Cx}
theorem pv (i:Nat){x:Str}{pos:Pos}(hN:X.N[i]? = some x:=by rfl)(hv:Vis X.env.scope x:=by first | exact Or.inl rfl | exact Or.inr (Or.inl rfl) | exact Or.inr (Or.inr rfl))(hd:(x==("__debug__" : Str))=false:=by decide)
  (hcd:(x==("__classdict__" : Str))=false:=by decide):PE X (.Name x pos) (Q7 i):=cV9 hN hv hd hcd
end
def Same (H H':Hp):Prop:=∀b o,H b=some o->H' b=some o
section
variable {prog:Program}{w:World}{A:Around}{R:Result->Shared->Prop}{s:Shared}
theorem bG3 {elt target iter:Expr}{ifs:List Expr}{scope:Scope}{pos:Pos}{it acc:Value}{env:Env}(I:Nat->Shared->Prop)
  (turn:∀n s,I n s->wpAny (model prog w) A (pyNext it) (λr s₁=>match r with
   | none=>R (.ok .next) s₁
   | some v=>wpAny (model prog w) A (letOwnedTupleGo target it v) (λ_ s₁'=>wpAny (model prog w) A (assign target env v) (λ_ s₂ =>
     wpAny (model prog w) A (forIn ifs true λc r=>if r=true then do let ok <- isTrue c env (eval c env);pure (ForInStep.yield ok) else pure (ForInStep.yield r)) (λok s₃ =>
      if ok=true then wpAny (model prog w) A (eval elt env) (λx s₄ =>
       wpAny (model prog w) A (call (.builtin "list.append") [acc,x]) (λ_ s₅=>∃m,m<n/\I m s₅) (λ_ _=>False) s₄) (λ_ _=>False) s₃
      else ∃m,m<n/\I m s₃) (λ_ _=>False) s₂) (λ_ _=>False) s₁') (λ_ _=>False) s₁) (λ_ _=>False) s)
  (n:Nat) (h:I n s) :
  codeAny (model prog w) A (.compLoop (.ListComp elt [⟨target,iter,ifs,0⟩] scope pos) 0 it acc env) R s:=by
 refine codeAny_loop rfl I (λn s hI=>?_) n h
 show wpAny _ A ((compTurn (.ListComp elt [⟨target,iter,ifs,0⟩] scope pos) 0 it acc env).onRaise (λx=>do noteFrame x env;theTreesLotGoes x)) _ _ s
 refine wpAny_noted ?_;rw[compTurn_list];refine wpAny_bind (wpAny_standAt (wpAny_bind (wpAny_mono (turn n s hI) (λr s₁ h₁=>?_) λ_ _ h'=>h'.elim)))
 cases r with
 | none=>exact wpAny_pure h₁
 | some v=>
  refine wpAny_bind (wpAny_mono h₁ (λ_ s₁' h₁'=>?_) λ_ _ h'=>h'.elim)
  refine wpAny_bind (wpAny_mono h₁' (λ_ s₂ h₂=>wpAny_bind (wpAny_mono h₂ (λok s₃ h₃=>?_) λ_ _ h'=>h'.elim)) λ_ _ h'=>h'.elim)
  cases ok with
  | false=>exact wpAny_pure ⟨rfl,h₃⟩
  | true=>
   exact wpAny_bind (wpAny_bind (wpAny_mono h₃ (λx s₄ h₄=>wpAny_bind (wpAny_mono h₄ (λ_ s₅ h₅=>wpAny_pure (wpAny_pure ⟨rfl,h₅⟩)) λ_ _ h'=>h'.elim)) λ_ _ h'=>h'.elim))
end
section
variable {X:Cx}
def cxC (X:Cx)(N':List Str)(scope:Scope)(cl:List (Str×Addr))(C:Addr)(ex:List Addr)(s:Shared)(H:Hp):Cx:=
 {X with N:=N',s₀:=s,H₀:=H,env:=compEnvC scope cl C X.env,outer:=X.stack,ex:=ex,fn:=λ_=>false,xe:=λ_ _=>False}
structure PIfs (X:Cx)(ifs:List Expr)(t:TT):Prop where
 mk ::
 run :
  ∀(pins:List (Addr×Obj)) (s:Shared) (σ:St) (H:Hp) (Q:Bool->Hp->Prop),Inv X pins σ H s->t σ H Q ->
   wpAny (model X.prog X.w) X.A (forIn ifs true λc r=>if r=true then do let ok <- isTrue c X.env (eval c X.env);pure (ForInStep.yield ok) else pure (ForInStep.yield r)) (TP X pins σ Q) X.xe s
instance {X:Cx} {ifs:List Expr} {t:TT}:CoeFun (PIfs X ifs t) λ_=>
 (∀(pins:List (Addr×Obj)) (s:Shared) (σ:St) (H:Hp) (Q:Bool->Hp->Prop),Inv X pins σ H s->t σ H Q ->
  wpAny (model X.prog X.w) X.A (forIn ifs true λc r=>if r=true then do let ok <- isTrue c X.env (eval c X.env);pure (ForInStep.yield ok) else pure (ForInStep.yield r)) (TP X pins σ Q) X.xe s):=⟨PIfs.run⟩
def aO4:TT:=λ_ H Q=>Q true H
theorem V0:PIfs X [] aO4:=⟨λpins s σ H Q I h=>by
 show wpAny _ _ (pure true) _ _ _
 exact wpAny_pure ⟨H,I,h⟩⟩
def stC (n:Nat)(is:List Nat)(σ:St):St:=List.replicate n none++is.map λi=>(σ[i]?).getD none
def bT4 (wi:TI)(n:Nat)(is:List Nat)(g:TG)(tt:TT)(te:TE):TE:=λσ H Q=>wi σ H λJ H1=>
 ∃W:Nat->Nat->List V->Hp->Prop,(∃m,W 0 m [] H1)/\∀i m ys H,W i m ys H->ys.length<sizeLine /\
  ((J.stop i H/\∀D,H D=none->Q (.ref D) (upd H D (.lst ys))) \/
   (J.go i H/\∀x H',J.yld i H x H'->g x (stC n is σ) H' λσ2 H2=>tt σ2 H2 λb H3=>
    if b=true then te σ2 H3 (λy H4=>∃m',m'<m/\W (i+1) m' (ys++[y]) H4) else ∃m',m'<m/\W (i+1) m' ys H3))
structure CScope (X:Cx)(scope:Scope)(cl:List (Str×Addr))(T:List Str)(is:List Nat)(N':List Str):Prop where
 clos:closureFor scope X.env=pure cl
 cell:∀y∈scope.names,y.2≠.cell
 kind:scope.kind=.function
 names:∀y∈scope.names,y.2=.local->scope.names.lookup y.1=some .local
 cap:∀x c,cl.lookup x=some c->X.env.cells.lookup x=some c
 has:∀x,((relabel scope X.env).names.lookup x=some .cell\/(relabel scope X.env).names.lookup x=some .free)->∃c,cl.lookup x=some c
 N:N'=T++is.map λ(i:Nat)=>((X.N[i]?).getD Str.empty:Str)
 lt:∀i∈is,i<X.N.length
 capt:∀i∈is,∀x,X.N[i]? = some x->((relabel scope X.env).names.lookup x=some .cell\/(relabel scope X.env).names.lookup x=some .free)/\(X.env.kindOf x=some .cell\/X.env.kindOf x=some .free)
theorem cU7 {pins:List (Addr×Obj)}{σ:St}{H:Hp}{s:Shared}{scope:Scope}{cl:List (Str×Addr)}{T N':List Str}{is:List Nat}{C:Addr}{fp:List Addr}(S:CScope X scope cl T is N')(I:Inv X pins σ H s)
  (hf:∀b∈fp,aQ3 X pins H b) (hfl:∀b∈fp,b<s.heap.objs.size) (hC:s.heap.objs.size<=C):(cxC X N' scope cl C fp s H).Ok where
 mod:=I.ok.mod
 kind:=S.kind
 glob:=I.ok.glob
 blt:=I.ok.blt
 above:=hC
 inj:=λx y c h1 h2=>I.ok.inj x y c (S.cap x c h1) (S.cap y c h2)
 has:=S.has
 cab:=λx c h=>by cases h
 hd:=I.ok.hd
 frames:=I.ok.frames
 stk:=.inl rfl
 exf:=λb hb=>⟨Ab9 (Ab8 (hfl b hb) hC),λx c e=>(hf b hb).2.2.2.2.1 x c (S.cap x c e)⟩
 bs:=λb o e=>I.bs b o e
 bsz:=Nat.le_trans I.ok.bsz I.sz
 noex:=λb o e hb=>by
  rcases (hf b hb).2.2.2.1 with z | z
  ·exact I.ok.noex b o e z
  ·exact absurd (Ab8 (Ab3 e) (Nat.le_trans I.ok.bsz z)) (Ad7 _)
 exfs:=λb hb z=>(Aa1.mp (I.stkSub b z)).elim (hf b hb).2.1 (hf b hb).2.2.1
 funs:=I.stack
 frf:=I.stkFree
def bT3 (n:Nat)(g:TG):Prop:=∀v (σ:St) H Q,n<=σ.length->g v σ H Q->g v σ H λσ' H'=>Q σ' H'/\σ'.length=σ.length/\∀i,n<=i->σ'[i]? = σ[i]?
theorem Y6 {n i:Nat}(h:i<n):bT3 n (U1 i):=λv σ H Q hl q=>
 ⟨q,List.length_set,λj hj=>Ac9 (by omega)⟩
abbrev aF6 (its:List Value)(n:Nat):Obj:={cls:=.type "list",data:=.seq its.toArray n}
theorem cI2 {pins:List (Addr×Obj)}{σ:St}{H:Hp}{s:Shared}{scope:Scope}{cl:List (Str×Addr)}{T N':List Str}{is:List Nat}{C D:Addr}{fp:List Addr}{h₁:Heap}{tk:Nat}{m:Str->Option Value}{its:List Value}{e:Nat}(S:CScope X scope cl T is N')(I:Inv X pins σ H s)
  (hf:∀b∈fp,aQ3 X pins H b) (hfl:∀b∈fp,b<s.heap.objs.size) (hD:s.heap.objs.size=D) (hC:D<C) (hns:h₁.Ns C m) (old:∀b o,s.heap.get? b=some o->h₁.get? b=some o) (hacc:h₁.get? D=some (aF6 its e)) :
  Inv (cxC X N' scope cl C fp s H) (pins++[(D,aF6 its e)]) (stC T.length is σ) H {s with heap:=h₁,toks:=tk}:=by
 have hCs:s.heap.objs.size<=C:=by rw[hD];exact Nat.le_of_lt hC
 have ok:=cU7 (C:=C) S I hf hfl hCs
 have lt:∀p∈X.pn++pins,p.1<D:=λp hp=>by rw[<- hD];exact Ab3 (I.pin p hp).1
 have stk:∀b∈frs X.stack,b<D:=λb hb=>by
  obtain ⟨_,o,ho,_⟩:=I.stack.mem hb;rw[<- hD];exact Ab3 ho
 refine⟨ok,rfl,I.bare,Un.kept old,⟨m,hns,λi x v e1 e2 e3=>?_⟩,λx c h=>?_,?_,λx c h=>I.freeC x c (S.cap x c h),λp hp=>?_,I.hok.kept old,?_⟩
 ·have e1:N'[i]? = some x:=e1
  unfold stC at e2;by_cases hi:i<T.length
  ·rw[List.getElem?_append_left (by simpa using hi),List.getElem?_replicate,if_pos hi]at e2
   cases e2
  ·rw[List.getElem?_append_right (by simpa using hi),List.length_replicate,Aa9]at e2
   rw[S.N,List.getElem?_append_right (by omega),Aa9]at e1
   cases ek:is[i-T.length]? with
   | none=>rw[ek]at e2;cases e2
   | some k=>
    rw[ek]at e1 e2;have hk:k∈is:=List.mem_of_getElem? ek;have hlt:=S.lt k hk;have eN:X.N[k]? = some x:=by
     simp only[Option.map_some,Option.some.injEq]at e1;rw[Aa2 hlt]at e1 ⊢;simpa using e1
    have es:σ[k]? = some (some v):=by
     simp only[Option.map_some,Option.some.injEq]at e2;cases q:σ[k]? with
     | none=>rw[q]at e2;cases e2
     | some y=>rw[q]at e2;exact congrArg some e2
    obtain ⟨c1,c2⟩:=S.capt k hk x eN;obtain ⟨m',hn',hl'⟩:=I.loc;obtain ⟨u,r,l⟩:=hl' k x v eN es (.inr c2);refine⟨u,r,.inr ⟨c1,?_⟩⟩;rcases l with ⟨k1,_⟩ | ⟨_,c,hc,hcell⟩
    ·rcases c2 with c2 | c2 <;> rw[k1]at c2 <;> cases c2
    ·obtain ⟨c',hc'⟩:=S.has x c1
     have:c'=c:=Ab4 ((S.cap x c' hc').symm.trans hc)
     subst this;exact⟨c',hc',hcell.keeps old⟩
 ·obtain ⟨v,q⟩:=I.cell x c (S.cap x c h);exact⟨v,q.keeps old⟩
 ·exact I.hok.fresh hCs
 ·have hp:p∈X.pn++(pins++[(D,aF6 its e)]):=hp
  rw[<- Ad5]at hp;rcases Aa0.mp hp with hp | hp
  ·obtain ⟨q1,q2,q3,q4,q5⟩:=I.pin p hp
   have:=lt p hp
   exact⟨old _ _ q1,q2,Ab9 (Nat.lt_trans this hC),λz=>(Aa1.mp (I.stkSub p.1 z)).elim q3 q4,q5⟩
  ·have e:p=(D,aF6 its e):=by simpa using hp
   subst e;exact⟨hacc,I.hok.fresh (by rw[hD];exact Aa7 _),Ab9 hC,λz=>Ad7 _ (stk D z),λv z=>by cases z⟩
 ·show(stC T.length is σ).length=N'.length
  rw[S.N];unfold stC
  simp
def cL0 (X:Cx)(pins:List (Addr×Obj))(σ:St)(D C:Addr)(H4:Hp)(s4:Shared):Prop:=
 (∃m,s4.heap.Ns C m)/\(∀h',Heap.SameBut C s4.heap h'->Inv X pins σ H4 {s4 with heap:=h'})/\H4 C=none/\C≠X.env.locals/\X.s₀.heap.objs.size<=C/\(∀x c,X.env.cells.lookup x=some c->c≠C)/\∀p∈X.pn++pins,p.1≠C
theorem aV7 {elt tg iter:Expr}{ifs:List Expr}{scope:Scope}{pos pos2:Pos}{cl:List (Str×Addr)}{T N':List Str}{is:List Nat}{wi:TI}{g:TG}{tt:TT}{te:TE}(hc:X.calm=true)(S:CScope X scope cl T is N')(hi:PI X tg iter wi)(hg:bT3 T.length g)
  (hb:∀C ex s H,PG (cxC X N' scope cl C ex s H) tg g/\PIfs (cxC X N' scope cl C ex s H) ifs tt/\PE (cxC X N' scope cl C ex s H) elt te)
  (hs:∀x,foldedSetIterable iter X.env x=pure x) {use:Option (Value->Sem Unit)} {Qc:Value->Shared->Prop} {pins:List (Addr×Obj)} {s:Shared} {σ:St} {H:Hp} {Q:VK} (I:Inv X pins σ H s) (h:bT4 wi T.length is g tt te σ H Q)
  (fin:∀(D C:Addr) (H4:Hp) (s4:Shared),cL0 X pins σ D C H4 s4->Q (.ref D) H4->compPost (model X.prog X.w) X.A X.xe use Qc (.ref D) C (.ok .next) s4) :
  wpAny (model X.prog X.w) X.A (comprehension (.ListComp elt [⟨tg,iter,ifs,0⟩] scope pos) scope X.env pos2 (newList []) false (eval iter X.env) use) Qc X.xe s:=by
 refine wpAny_comprehension_free (use:=use) rfl hs S.clos S.kind S.names (thn (hi pins s σ H _ I h) λv s1 h1=>thn h1 λitv s2 h2=>?_)
 obtain ⟨it,fp,tn,J,H2,e,I2,Tn,st2,f2,W,⟨m0,w0⟩,turn⟩:=h2;subst e;refine wpAny_newObj_type (wpAny_newFunctionEnv S.cell (by intro y hy;simp at hy) (λh₁ hns₁ hsb₁=>?_) S.kind)
 dsimp only at hns₁ hsb₁ ⊢
 generalize hH2:s2.heap.push {cls:=.type "list",dict:=none,data:=.seq ([]:List Value).toArray}=G2 at hns₁ hsb₁ ⊢;have eC:G2.objs.size=s2.heap.objs.size+1:=by rw[<- hH2,Heap.size_push]
 generalize hC:G2.objs.size=C at *;generalize hD:s2.heap.objs.size=D at *;have hDC:D<C:=by rw[eC];exact Nat.lt_succ_self D
 have bC:∀{b:Addr},b<D->b≠C:=λhb=>Ab9 (Nat.lt_trans hb hDC)
 have below:∀b o,s2.heap.get? b=some o->b<D:=λb o e=>by rw[<- hD];exact Ab3 e
 have old:∀b o,s2.heap.get? b=some o->h₁.get? b=some o:=λb o e=>hsb₁.extBut b o (bC (below b o e)) (Aa6 _ (hH2▸Aa6 _ e))
 have hacc:h₁.get? D=some (aF6 [] 0):=hsb₁.extBut _ _ (Ab9 hDC) (Aa6 _ (hH2▸(by rw[<- hD];exact Ac3 _ rfl)))
 have hfl:∀b∈fp,b<D:=λb hb=>by
  obtain ⟨o,e,_⟩:=Tn.obj _ _ st2 b hb;exact below b o e
 have lt:∀p∈X.pn++pins,p.1<D:=λp hp=>below _ _ (I2.pin p hp).1
 have stk:∀b∈frs X.stack,b<D:=λb hb=>by
  obtain ⟨_,o,ho,_⟩:=I2.stack.mem hb;exact below b o ho
 have cel:∀x c,cl.lookup x=some c->c<D:=λx c hx=>by
  obtain ⟨v,q⟩:=I2.cell x c (S.cap x c hx);rw[<- hD];exact q.lt
 have H2D:H2 D=none:=I2.hok.fresh (by rw[hD];exact Aa7 _)
 obtain ⟨pgx,pix,pex⟩:=hb C fp s2 H2;have stat:∀{e:Nat} {its:List Value} {H':Hp},(∀b∈fp,H' b=none)->∀b∈fp,aQ3 (cxC X N' scope cl C fp s2 H2) (pins++[(D,aF6 its e)]) H' b:=λ{e its H'} hn b hb=>by
  obtain ⟨f0,f1,f3,f4,f5,f6⟩:=f2 b hb
  have:=hfl b hb
  refine⟨hn b hb,bC (hfl b hb),λz=>(Aa1.mp (I2.stkSub b z)).elim f1 f3,.inl hb,λx c z=>f5 x c (S.cap x c z),λp hp=>?_⟩
  have hp:p∈X.pn++(pins++[(D,aF6 its e)]):=hp
  rw[<- Ad5]at hp;rcases Aa0.mp hp with hp | hp
  ·exact f6 p hp
  ·have e:p=(D,aF6 its e):=by simpa using hp
   subst e;exact(Ab9 (hfl b hb)).symm
 have loop:codeAny (model X.prog X.w) X.A (.compLoop (.ListComp elt [⟨tg,iter,ifs,0⟩] scope pos) 0 (.ref it) (.ref D) (compEnvC scope cl C X.env)) (compPost (model X.prog X.w) X.A X.xe use Qc (.ref D) C) {s2 with heap:=h₁,toks:=s2.toks+([]:List (Str×Value)).length}:=by
  refine bG3 (λn s'=>∃i ys its e H3,Inv (cxC X N' scope cl C fp s2 H2) (pins++[(D,aF6 its e)]) (stC T.length is σ) H3 s'/\tn i s'.heap/\(∀b∈fp,H3 b=none)/\Vals ys its/\W i n ys H3) ?_ m0
   ⟨0,[],[],0,H2,cI2 S I2 f2 (by rw[hD];exact hfl) hD hDC hns₁ old hacc,Tn.keep _ _ _ st2 λb _ o q=>old b o q,λb hb=>(f2 b hb).1,.nil,w0⟩
  rintro n s3 ⟨i,ys,its,e,H3,I3,st3,fr3,rv,w3⟩;obtain ⟨hsz,hh⟩:=turn i n ys H3 w3;rcases hh with ⟨stop,qn⟩ | ⟨go,step⟩
  ·refine thn (Tn.done (cxC X N' scope cl C fp s2 H2) rfl rfl rfl hc i _ s3 _ H3 _ I3 (stat fr3) st3 stop) λr s4 ⟨hr,I4⟩=>?_
   subst hr;obtain ⟨m4,hn4,_⟩:=I4.loc;obtain ⟨pd,H3D,_⟩:=I4.pin (D,aF6 its e) (by simp)
   have H3C:H3 C=none:=I4.free
   refine fin D C (upd H3 D (.lst ys)) s4 ⟨⟨m4,hn4⟩,λh' sb=>?_,by rw[B1 (Nat.ne_of_gt hDC)];exact H3C,λz=>Ad7 _ (Nat.lt_trans hDC (by rw[z];have:=I2.lt;rw[hD]at this;exact this)),Nat.le_trans I2.sz (by rw[hD];exact Nat.le_of_lt hDC),λx c e=>by
    obtain ⟨v,q⟩:=I2.cell x c e;exact bC (by rw[<- hD];exact q.lt),λp hp=>bC (lt p hp)⟩ (qn D H3D)
   have kC:∀b o,b≠C->s4.heap.get? b=some o->h'.get? b=some o:=λb o hb q=>(sb.2 b hb).trans q
   have u:=I4.base
   have u:Un (frs X.stack) fp H2 H3 s2.heap s4.heap:=u
   have u2:Un (frs X.stack) fp H2 (upd H3 D (.lst ys)) s2.heap h':=by
    refine⟨λb o q n hb hx=>kC b o (bC (below b o q)) (u.keep b o q n hb hx),λb o q n hb hx=>?_,λb o q n hx=>?_,λb o q hx=>?_,λb xs q=>?_,λb o xs q=>?_,λb ps q=>?_⟩
    ·obtain ⟨sl,q1⟩:=u.slot b o q n hb hx;exact⟨sl,kC b _ (bC (below b o q)) q1⟩
    ·rw[B1 (Ab9 (below b o q))];exact u.free b o q n hx
    ·obtain ⟨o',q1⟩:=u.there b o q hx;exact⟨o',kC b _ (bC (below b o q)) q1⟩
    ·rw[B1 (C9 q H2D)];exact u.tups b xs q
    ·rw[B1 (C9 q H2D)];exact u.frzs b o xs q
    ·obtain ⟨more,q1⟩:=u.tbls b ps q;exact⟨more,by rw[B1 (C9 q H2D)];exact q1⟩
   have hok:HOk X.prog X.w (upd H3 D (.lst ys)) h':=λb o q=>by
    by_cases hb:b=D
    ·subst hb;rw[B7]at q;cases q;exact⟨Nat.le_of_lt hsz,its,e,rv,kC _ _ (Ab9 hDC) pd⟩
    ·rw[B1 hb]at q;refine(I4.hok b o q).stay (λc v hc q'=>kC c v ?_ q') (λc q'=>by rw[B1 (C9 q' H3D)];exact q') λc xs q'=>by rw[B1 (C9 q' H3D)];exact q'
     rcases hc with z | z
     ·rw[z];exact C9 q H3C
     ·exact C9 z H3C
   have os4:s4.os=s2.os:=I4.os
   exact I2.call' (s':={s4 with heap:=h'}) os4 u2 hok I4.bare λb hb=>⟨(f2 b hb).2.2.2.1,(f2 b hb).2.1,(f2 b hb).2.2.2.2.1,(f2 b hb).2.2.2.2.2⟩
  ·refine thn (Tn.item (cxC X N' scope cl C fp s2 H2) rfl rfl rfl hc i _ s3 _ H3 _ I3 (stat fr3) st3 go) λr s4 ⟨u,hr,h4⟩=>?_
   subst hr;refine thn h4 λ_ s5 ⟨x,H5,I5,r5,y5,st5,fr5⟩=>?_
   have I5':=I5.pinned (stat fr5) (Tn.obj _ _ st5)
   have hln:T.length<=(stC T.length is σ).length:=by unfold stC;simp
   refine thn (pgx _ s5 _ H5 x u _ I5' r5 (hg x _ H5 _ hln (step x H5 y5))) λ_ s6 ⟨σ6,H6,I6,q6,l6,k6⟩=>?_
   refine thn (pix _ s6 σ6 H6 _ I6 q6) λb s7 ⟨H7,I7,q7⟩=>?_
   have back:∀{H8:Hp} {s8:Shared} {its':List Value} {e':Nat},Inv (cxC X N' scope cl C fp s2 H2) (pins++[(D,aF6 its' e')]++u4 fp s5.heap) σ6 H8 s8->Inv (cxC X N' scope cl C fp s2 H2) (pins++[(D,aF6 its' e')]) (stC T.length is σ) H8 s8/\tn (i+1) s8.heap/\∀b∈fp,H8 b=none:=λ{H8 s8 its' e'} I8=>by
    refine⟨I8.unpinned.weak l6.symm λj v q=>?_,Tn.keep _ _ _ st5 λb hb o q=>(I8.pin (b,o) (Ac1 _ (Ac1 _ (u6 hb q)))).1,λb hb=>?_⟩
    ·by_cases hj:T.length<=j
     ·rw[k6 j hj];exact q
     ·unfold stC at q;rw[List.getElem?_append_left (by simpa using hj),List.getElem?_replicate,if_pos (by omega)]at q
      cases q
    ·obtain ⟨o,q,d⟩:=Tn.obj _ _ st5 b hb;exact(I8.pin (b,o) (Ac1 _ (Ac1 _ (u6 hb q)))).2.1
   cases b with
   | false=>
    rw[if_neg Bool.false_ne_true]at q7 ⊢;obtain ⟨m',hm,w7⟩:=q7;obtain ⟨J1,J2,J3⟩:=back I7;exact⟨m',hm,i+1,ys,its,e,H7,J1,J2,J3,rv,w7⟩
   | true=>
    rw[if_pos rfl]at q7 ⊢;refine thn (pex _ s7 σ6 H7 _ I7 q7) λy s8 ⟨yv,H8,I8,r8,m',hm,w8⟩=>?_
    obtain ⟨pd,H8D,_⟩:=I8.pin (D,aF6 its e) (by simp)
    have pl:s8.heap.PlainList D its.toArray:=⟨e,pd⟩
    refine wpAny_list_append_plain pl (λh9 pl9 sb9=>?_) (by have:=rv.length;simp;omega)
    obtain ⟨e9,hl9⟩:=pl9;have ea:its.toArray.push y=(its++[y]).toArray:=by simp
    rw[ea]at hl9;have I8':Inv (cxC X N' scope cl C fp s2 H2) (pins++u4 fp s5.heap) σ6 H8 s8:=I8.pins_of λp hp=>I8.pin p (Ac1 _ ((Aa0.mp hp).elim (λz=>List.mem_append_left _ (List.mem_append_left _ z)) λz=>Ac1 _ z))
    have I9:Inv (cxC X N' scope cl C fp s2 H2) (pins++u4 fp s5.heap) σ6 H8 {s8 with heap:=h9}:=by
     refine I8'.turned (t':=s8.toks) (it:=D) (λb o hb q=>(sb9.2 b hb).trans q) H8D (Ab9 hDC) (.inr (by show s2.heap.objs.size<=D;rw[hD];exact Aa7 _)) (λx c z=>Ab9 (cel x c z)) λp hp=>?_
     have hp:p∈X.pn++(pins++u4 fp s5.heap):=hp
     rw[<- Ad5]at hp;rcases Aa0.mp hp with z | z
     ·exact Ab9 (lt p z)
     ·exact Ab9 (hfl _ (aX0 z).1)
    have I9':Inv (cxC X N' scope cl C fp s2 H2) (pins++[(D,aF6 (its++[y]) e9)]++u4 fp s5.heap) σ6 H8 {s8 with heap:=h9}:=I9.pins_of λp hp=>by
     rcases Aa0.mp hp with z | z
     ·rcases Aa0.mp z with z | z
      ·exact I9.pin p (Ac1 _ (List.mem_append_left _ z))
      ·have ep:p=(D,aF6 (its++[y]) e9):=by simpa using z
       subst ep;exact⟨hl9,H8D,Ab9 hDC,λz=>Ad7 _ (stk D z),λv z=>by cases z⟩
     ·exact I9.pin p (Ac1 _ (Ac1 _ z))
    obtain ⟨J1,J2,J3⟩:=back I9';exact⟨m',hm,i+1,ys++[yv],its++[y],e9,H8,J1,J2,J3,rv.append (.cons r8 .nil),w8⟩
 refine codeAny_compStart_list loop ?_;exact Tn.self _ 0 _ _ _ (Tn.keep _ _ _ st2 λb _ o q=>old b o q) loop
theorem i4 {elt tg iter:Expr}{ifs:List Expr}{scope:Scope}{pos:Pos}{cl:List (Str×Addr)}{T N':List Str}{is:List Nat}{wi:TI}{g:TG}{tt:TT}{te:TE}(hc:X.calm=true)(S:CScope X scope cl T is N')(hi:PI X tg iter wi)(hg:bT3 T.length g)
  (hb:∀C ex s H,PG (cxC X N' scope cl C ex s H) tg g/\PIfs (cxC X N' scope cl C ex s H) ifs tt/\PE (cxC X N' scope cl C ex s H) elt te)
  (hs:∀x,foldedSetIterable iter X.env x=pure x:=by intro _;rfl):PE X (.ListComp elt [⟨tg,iter,ifs,0⟩] scope pos) (bT4 wi T.length is g tt te):=by
 refine⟨?_⟩;intro pins s σ H Q I h;rw[eval_ListComp];refine aV7 hc S hi hg hb hs I h λD C H4 s4 ⟨⟨m4,hn4⟩,J,_⟩ q=>?_
 exact⟨m4,hn4,λh' sb=>⟨.ref D,H4,J h' sb,rfl,q⟩⟩
theorem bL8 {i:Nat}{x:Str}{pos' spos:Pos}{elt tg iter:Expr}{ifs:List Expr}{scope:Scope}{pos:Pos}{cl:List (Str×Addr)}{T N':List Str}{is:List Nat}{wi:TI}{g:TG}{tt:TT}{te:TE}(hN:X.N.Nodup)(hx:X.N[i]? = some x)(hl:X.env.scope.names.lookup x=some .local)
  (hc:X.calm=true) (S:CScope X scope cl T is N') (hi:PI X tg iter wi) (hg:bT3 T.length g)
  (hb:∀C ex s H,PG (cxC X N' scope cl C ex s H) tg g/\PIfs (cxC X N' scope cl C ex s H) ifs tt/\PE (cxC X N' scope cl C ex s H) elt te)
  (hsw:swapsWith (.ListComp elt [⟨tg,iter,ifs,0⟩] scope pos) (some (.Name x pos')) spos.line X.env=pure true:=by rfl)
  (hs:∀x,foldedSetIterable iter X.env x=pure x:=by intro _;rfl):PS X (.Assign [.Name x pos'] (.ListComp elt [⟨tg,iter,ifs,0⟩] scope pos) spos) (aM8 (bT4 wi T.length is g tt te) (U1 i)):=by
 refine⟨?_⟩;intro pins s σ H D I h;rw[exec_Assign_Name_used _ _ _ _ hsw];refine wpAny_bind (wpAny_standAt (wpAny_bind ?_));show wpAny _ X.A (do let _ <- comprehension (.ListComp elt [⟨tg,iter,ifs,0⟩] scope pos) scope X.env _ (newList []) false (eval iter X.env) (some (assign (.Name x pos') X.env))) _ _ s;refine wpAny_bind (wpAny_mono (aV7 (use:=some (assign (.Name x pos') X.env)) (Qc:=λ_ s'=>SP X pins D .next s') hc S hi hg hb hs I h λDa C H4 s4 ⟨⟨m4,hn4⟩,J,k1,k2,k3,k4,k5⟩ q=>?_) (λ_ s' hq=>wpAny_pure (wpAny_pure hq)) λ_ _ e=>e)
 show wpAny _ _ (assign (.Name x pos') X.env (.ref Da)) _ _ _
 have I4:Inv X pins σ H4 s4:=J s4.heap (.refl _ _)
 refine wpAny_assign_Name (aV0 I4 hN hx (.inl hl) (v:=.ref Da) rfl (λs5 I5 ⟨a,sb,ha⟩=>?_) (.inr hl))
 have aC:a≠C:=by
  rcases ha with rfl | ha
  ·exact k2.symm
  ·exact k4 x a ha
 refine⟨m4,hn4.sameBut sb aC.symm,λh' sb'=>⟨_,H4,?_,q⟩⟩
 exact I5.turned (t':=s5.toks) (λb o hb e=>(sb'.2 b hb).trans e) k1 k2 (.inr k3) k4 k5
end
end L2
namespace LV
open PySem L2
def _root_.L2.excO (x C:Addr):HO:=.ext λh=>∃o vs,h.get? x=some o/\o.cls=.ref C/\o.data=.fields vs
def _root_.L2.dEnt (x:List Int×Addr×Value):DictEntry:=⟨reduceHash (Builtin.Tuple.tupleHashOf (x.1.map hashInt)),.ref x.2.1,x.2.2⟩
def _root_.L2.dicO (a:Addr)(kv:List (List Int×Addr×V)):HO:=.ext λh=>∃xs:List (List Int×Addr×Value),Paired (λp q=>p.1=q.1/\p.2.1=q.2.1/\RelV p.2.2 q.2.2) kv xs /\
 kv.length<=sizeLine/\(a==sysModules)=false/\∃o es ep,h.get? a=some o/\o.ExactDict/\o.data=.dict es ep/\es.toList=xs.map L2.dEnt/\(xs.map (·.1)).Nodup
inductive HM where
 | l (xs:List V) | x (a:Addr) (kv:List (List Int×Addr×V))
def HM.ho:HM->HO
 | .l xs=>.lst xs
 | .x a kv=>L2.dicO a kv
theorem HM.nt {u:HM}{xs:List V}(h:u.ho=.tup xs):False:=by cases u <;> cases h
theorem HM.nf {u:HM}{o:Obj}{v:HO}(h:u.ho=.frz o v):False:=by cases u <;> cases h
def _root_.L2.excD (x C:Addr)(d:Option Addr):HO:=.ext λh=>∃o vs,h.get? x=some o/\o.cls=.ref C/\o.data=.fields vs/\o.dict=d
theorem HM.nd {u:HM}{x C:Addr}{d:Option Addr}(h:u.ho=L2.excD x C d):False:=by
 cases u with
 | l xs=>cases h
 | x a kv=>
  have e:=HO.ext.inj h
  have e1:=congrFun e ⟨Array.replicate (x+1) {cls:=.ref C,data:=.fields #[],dict:=d},{}⟩
  have g:∀b o,(Heap.get? ⟨Array.replicate (x+1) {cls:=.ref C,data:=.fields #[],dict:=d},{}⟩ b)=some o->o={cls:=.ref C,data:=.fields #[],dict:=d}:=λb o q=>by
   unfold Heap.get? at q;dsimp only at q;rw[Array.getElem?_replicate]at q;by_cases hb:b<x+1
   ·rw[if_pos hb]at q;exact(Ab4 q).symm
   ·rw[if_neg hb]at q;cases q
  have y:=e1.mpr ⟨{cls:=.ref C,data:=.fields #[],dict:=d},#[],by unfold Heap.get?;dsimp only;rw[Array.getElem?_replicate,if_pos (by omega)],rfl,rfl,rfl⟩
  obtain ⟨_,_,_,_,o,es,ep,h1,_,h3,_⟩:=y;rw[g a o h1]at h3;cases h3
def bQ1:PyData->Bool
 | .none | .bool _ | .int _ | .str _=>true
 | .tuple ds=>ds.all λd=>match d with | .int _=>true | _=>false
 | _=>false
def cB5 (K:PySem.W.Frag)(H:Hp)(v:V):PyData->Prop
 | .none=>v=.non
 | .bool b=>v=.bl b
 | .int i=>v=.int i
 | .str x=>v=.str x
 | .tuple ds=>∃(a:Addr) (l:List Int),v=.ref a/\ds=l.map PyData.int/\SqT K H a (l.map V.int)
 | _=>False
def cV3 (kvs:List (List Int×PyData)):List (PyData×PyData):=kvs.map λx=>(PyData.tuple (x.1.map PyData.int),x.2)
def dD (kvs:List (List Int×PyData)):PyData:=if kvs.all (λx=>bQ1 x.2) then .dict (cV3 kvs) else .dict [(.none,.none)]
def KvF (K:PySem.W.Frag)(H:Hp):List (List Int×Addr×V)->List (List Int×PyData)->Prop:=Paired λx y=>x.1=y.1/\SqT K H x.2.1 (x.1.map V.int)/\cB5 K H x.2.2 y.2
def DiF (K:PySem.W.Frag)(H:Hp):List (Int×Addr)->List (Int×List Int)->Prop:=Paired λx y=>x.1=y.1/\SqT K H x.2 (y.2.map V.int)
def sV:PyData->Option V
 | .none=>some .non
 | .bool b=>some (.bl b)
 | .int i=>some (.int i)
 | .str x=>some (.str x)
 | _=>none
def bH8 (K:PySem.W.Frag)(H:Hp)(v:V):PyData->Prop
 | .tuple ds=>∃(a:Addr) (xs:List V),v=.ref a/\SqT K H a xs/\xs.map some=ds.map sV
 | d=>sV d=some v
def xfD (C:Addr)(fs:List (Str×PyData)):PyData:=.dict ((.int (C:Nat),.bool false)::fs.map λx=>(.str x.1,x.2))
def FdF (K:PySem.W.Frag)(H:Hp):List (Str×V)->List (Str×PyData)->Prop:=Paired λx y=>x.1=y.1/\bH8 K H x.2 y.2
def XdA (H:Hp)(vs:List (Str×V)):Option Addr->Prop
 | none=>vs=[]
 | some dx=>H dx=some (.xd vs)
mutual
inductive Rep (K:PySem.W.Frag)(H:Hp):V->PyData->Prop
 | non:Rep K H .non .none
 | bl (b:Bool):Rep K H (.bl b) (.bool b)
 | int (i:Int):Rep K H (.int i) (.int i)
 | str (x:Str):Rep K H (.str x) (.str x)
 | tup {a:Addr} {xs:List V} {ds:List PyData}:SqT K H a xs->Reps K H xs ds->Rep K H (.ref a) (.tuple ds)
 | lst {a:Addr} {xs:List V} {ds:List PyData}:SqL K H a xs->Reps K H xs ds->Rep K H (.ref a) (.list ds)
 | exc {a C:Addr}:H a=some (L2.excO a C)->Rep K H (.ref a) (.dict [(.int (C:Nat),.none)])
 | ptr {a:Addr}:Rep K H (.ref a) (.dict [(.none,.none)])
 | adr {a:Addr}:Rep K H (.ref a) (.dict [(.int (a:Nat),.none),(.none,.none)])
 | exd {a C:Addr} {d:Option Addr} {vs:List (Str×V)} {fs:List (Str×PyData)}:H a=some (L2.excD a C d)->XdA H vs d->FdF K H vs fs->Rep K H (.ref a) (.dict ((.int (C:Nat),.bool false)::fs.map λx=>(.str x.1,x.2)))
 | ins {a C dx:Addr} {fs:List (Str×Int)}:H a=some (.ins C dx (fs.map λx=>(x.1,V.int x.2)))->Rep K H (.ref a) (.dict ((.int (C:Nat),.bool true)::fs.map λx=>(.str x.1,.int x.2)))
 | dki {a:Addr} {kv:List (Int×Addr)} {kvs:List (Int×List Int)}:H a=some (.dK (kv.map λx=>((Sum.inl x.1:L2.Key),V.ref x.2)))->DiF K H kv kvs->Rep K H (.ref a) (.dict ((.bool true,.none)::kvs.map λx=>(.int x.1,.tuple (x.2.map PyData.int))))
 | dic {a:Addr} {kv:List (List Int×Addr×V)} {kvs:List (List Int×PyData)} {ds:List (PyData×PyData)}:H a=some (L2.dicO a kv)->KvF K H kv kvs->ds=cV3 kvs->Rep K H (.ref a) (.dict ds)
inductive Reps (K:PySem.W.Frag)(H:Hp):List V->List PyData->Prop
 | nil:Reps K H [] []
 | cons {v:V} {d:PyData} {vs:List V} {ds:List PyData}:Rep K H v d->Reps K H vs ds->Reps K H (v::vs) (d::ds)
end
section
variable {K:PySem.W.Frag}{H H':Hp}
theorem _root_.L2.Same.rf (H:Hp):Same H H:=λ_ _ e=>e
theorem _root_.L2.Same.tr {H1 H2 H3:Hp}(a:Same H1 H2)(b:Same H2 H3):Same H1 H3:=λx o e=>b x o (a x o e)
theorem i5 (h:Same H H'){a:Addr}{u:HO}(r:Rd H a u):Rd H' a u:=by
 rcases r with e | ⟨o,e⟩
 ·exact .inl (h _ _ e)
 ·exact .inr ⟨o,h _ _ e⟩
theorem G4 (h:Same H H'){a:Addr}{xs:List V}(r:SqT K H a xs):SqT K H' a xs:=r.imp (i5 h) id
theorem M8 (h:Same H H'){a:Addr}{xs:List V}(r:SqL K H a xs):SqL K H' a xs:=r.imp (i5 h) id
theorem bW6 (h:Same H H'){v:V}:∀{d:PyData},cB5 K H v d->cB5 K H' v d
 | .none,r | .bool _,r | .int _,r | .str _,r=>r
 | .tuple _,⟨a,l,e1,e2,s⟩=>⟨a,l,e1,e2,G4 h s⟩
 | .list _,r | .dict _,r=>r
theorem bF1 (h:Same H H'){kv:List (List Int×Addr×V)}{kvs:List (List Int×PyData)}(r:KvF K H kv kvs):KvF K H' kv kvs:=by
 unfold KvF at *;induction r with
 | nil=>exact .nil
 | cons a _ ih=>exact .cons ⟨a.1,G4 h a.2.1,bW6 h a.2.2⟩ ih
theorem cA5 (h:Same H H'){kv:List (Int×Addr)}{kvs:List (Int×List Int)}(r:DiF K H kv kvs):DiF K H' kv kvs:=by
 unfold DiF at *;induction r with
 | nil=>exact .nil
 | cons a _ ih=>exact .cons ⟨a.1,G4 h a.2⟩ ih
theorem bX5 (h:Same H H'){v:V}:∀{d:PyData},bH8 K H v d->bH8 K H' v d
 | .none,r | .bool _,r | .int _,r | .str _,r | .list _,r | .dict _,r=>r
 | .tuple _,⟨a,xs,e1,s,e2⟩=>⟨a,xs,e1,G4 h s,e2⟩
theorem r6 (h:Same H H'){vs:List (Str×V)}{fs:List (Str×PyData)}(r:FdF K H vs fs):FdF K H' vs fs:=by
 unfold FdF at *;induction r with
 | nil=>exact .nil
 | cons a _ ih=>exact .cons ⟨a.1,bX5 h a.2⟩ ih
theorem bE4 (h:Same H H'){vs:List (Str×V)}:∀{d:Option Addr},XdA H vs d->XdA H' vs d
 | none,r=>r
 | some _,r=>h _ _ r
mutual
theorem bI9 (h:Same H H'):∀(d:PyData) {v:V},Rep K H v d->Rep K H' v d
 | .none,_,r=>by cases r;exact .non
 | .bool _,_,r=>by cases r;exact .bl _
 | .int _,_,r=>by cases r;exact .int _
 | .str _,_,r=>by cases r;exact .str _
 | .tuple ds,_,r=>by cases r with | tup s rs=>exact .tup (G4 h s) (aD6 h ds rs)
 | .list ds,_,r=>by cases r with | lst s rs=>exact .lst (M8 h s) (aD6 h ds rs)
 | .dict _,_,r=>by cases r with | exc e=>exact .exc (h _ _ e) | ptr=>exact .ptr | adr=>exact .adr | exd e x r=>exact .exd (h _ _ e) (bE4 h x) (r6 h r) | ins e=>exact .ins (h _ _ e) | dki e r=>exact .dki (h _ _ e) (cA5 h r) | dic e r z=>exact .dic (h _ _ e) (bF1 h r) z
theorem aD6 (h:Same H H'):∀(ds:List PyData) {vs:List V},Reps K H vs ds->Reps K H' vs ds
 | [],_,r=>by cases r;exact .nil
 | d::ds,_,r=>by cases r with | cons a b=>exact .cons (bI9 h d a) (aD6 h ds b)
end
theorem Rep.mono {v:V}{d:PyData}(r:Rep K H v d)(h:Same H H'):Rep K H' v d:=bI9 h d r
theorem Reps.mono {vs:List V}{ds:List PyData}(r:Reps K H vs ds)(h:Same H H'):Reps K H' vs ds:=aD6 h ds r
mutual
def imm:PyData->Bool
 | .none | .bool _ | .int _ | .str _=>true
 | .tuple ds=>M2 ds
 | .list _ | .dict _=>false
def M2:List PyData->Bool
 | []=>true
 | d::ds=>imm d&&M2 ds
end
mutual
theorem bP2 (h:∀a xs,Rd H a (.tup xs)->Rd H' a (.tup xs)):∀(d:PyData) {v:V},imm d=true->Rep K H v d->Rep K H' v d
 | .none,_,_,r=>by cases r;exact .non
 | .bool _,_,_,r=>by cases r;exact .bl _
 | .int _,_,_,r=>by cases r;exact .int _
 | .str _,_,_,r=>by cases r;exact .str _
 | .tuple ds,_,i,r=>by
  cases r with
  | tup s rs=>exact .tup (s.imp (h _ _) id) (aP5 h ds (by simpa[imm]using i) rs)
 | .list ds,_,i,r=>by simp[imm]at i
 | .dict _,_,i,r=>by simp[imm]at i
theorem aP5 (h:∀a xs,Rd H a (.tup xs)->Rd H' a (.tup xs)):∀(ds:List PyData) {vs:List V},M2 ds=true->Reps K H vs ds->Reps K H' vs ds
 | [],_,_,r=>by cases r;exact .nil
 | d::ds,_,i,r=>by
  have i':imm d=true/\M2 ds=true:=by simpa[M2]using i
  cases r with | cons a b=>exact .cons (bP2 h d i'.1 a) (aP5 h ds i'.2 b)
end
theorem Reps.length:∀{vs:List V} {ds:List PyData},Reps K H vs ds->vs.length=ds.length
 | _,[],r=>by cases r;rfl
 | _,d::ds,r=>by cases r with | cons a b=>simp[Reps.length b]
theorem Reps.get:∀{vs:List V} {ds:List PyData} {i:Nat} {v:V},Reps K H vs ds->vs[i]? = some v->∃d,ds[i]? = some d/\Rep K H v d
 | _,[],_,_,r,e=>by cases r;simp at e
 | _,d::ds,0,v,r,e=>by
  cases r with | cons a b=>simp at e;subst e;exact⟨d,rfl,a⟩
 | _,d::ds,i+1,v,r,e=>by
  cases r with
  | cons a b=>
   obtain ⟨d',h1,h2⟩:=Reps.get (i:=i) (v:=v) b (by simpa using e)
   exact⟨d',by simpa using h1,h2⟩
theorem Reps.get':∀{vs:List V} {ds:List PyData} {i:Nat} {d:PyData},Reps K H vs ds->ds[i]? = some d->∃v,vs[i]? = some v/\Rep K H v d
 | _,[],_,_,r,e=>by simp at e
 | _,d::ds,0,v,r,e=>by
  cases r with | cons a b=>simp at e;subst e;exact⟨_,rfl,a⟩
 | _,d::ds,i+1,v,r,e=>by
  cases r with
  | cons a b=>
   obtain ⟨d',h1,h2⟩:=Reps.get' (i:=i) b (by simpa using e)
   exact⟨d',by simpa using h1,h2⟩
theorem Reps.append:∀{vs us:List V} {ds es:List PyData},Reps K H vs ds->Reps K H us es->Reps K H (vs++us) (ds++es)
 | _,_,[],_,r,s=>by cases r;exact s
 | _,_,d::ds,_,r,s=>by cases r with | cons a b=>exact .cons a (Reps.append b s)
theorem Reps.drop:∀{vs:List V} {ds:List PyData} (n:Nat),Reps K H vs ds->Reps K H (vs.drop n) (ds.drop n)
 | _,_,0,r=>r
 | _,[],n+1,r=>by cases r;exact .nil
 | _,d::ds,n+1,r=>by cases r with | cons a b=>exact Reps.drop n b
theorem Reps.take:∀{vs:List V} {ds:List PyData} (n:Nat),Reps K H vs ds->Reps K H (vs.take n) (ds.take n)
 | _,_,0,r=>.nil
 | _,[],n+1,r=>by cases r;exact .nil
 | _,d::ds,n+1,r=>by cases r with | cons a b=>exact .cons a (Reps.take n b)
theorem Reps.set:∀{vs:List V} {ds:List PyData} (n:Nat) {v:V} {d:PyData},Reps K H vs ds->Rep K H v d->Reps K H (vs.set n v) (ds.set n d)
 | _,[],n,_,_,r,_=>by cases r;exact .nil
 | _,e::ds,0,_,_,r,s=>by cases r with | cons a b=>exact .cons s b
 | _,e::ds,n+1,_,_,r,s=>by cases r with | cons a b=>exact .cons a (Reps.set n b s)
theorem Reps.eraseIdx:∀{vs:List V} {ds:List PyData} (n:Nat),Reps K H vs ds->Reps K H (vs.eraseIdx n) (ds.eraseIdx n)
 | _,[],n,r=>by cases r;exact .nil
 | _,e::ds,0,r=>by cases r with | cons a b=>exact b
 | _,e::ds,n+1,r=>by cases r with | cons a b=>exact .cons a (Reps.eraseIdx n b)
theorem Reps.dropLast {vs:List V}{ds:List PyData}(r:Reps K H vs ds):Reps K H vs.dropLast ds.dropLast:=by
 rw[List.dropLast_eq_take,List.dropLast_eq_take,r.length];exact r.take _
theorem Reps.reverse:∀{vs:List V} {ds:List PyData},Reps K H vs ds->Reps K H vs.reverse ds.reverse
 | _,[],r=>by cases r;exact .nil
 | _,d::ds,r=>by
  cases r with
  | cons a b=>rw[List.reverse_cons,List.reverse_cons];exact(Reps.reverse b).append (.cons a .nil)
theorem aK0:∀(l:List Int),Reps K H (l.map V.int) (l.map PyData.int)
 | []=>.nil
 | i::l=>.cons (.int i) (aK0 l)
theorem Reps.ints:∀{l:List Int} {vs:List V},Reps K H vs (l.map PyData.int)->vs=l.map V.int
 | [],_,r=>by cases r;rfl
 | i::l,_,r=>by
  cases r with
  | cons a b=>cases a;rw[Reps.ints b];rfl
end
open Classical in
noncomputable def hid (S:Addr->Prop)(H:Hp):Hp:=λb=>if S b then none else H b
section
variable {S S':Addr->Prop}{H H':Hp}{b:Addr}{o:HO}
theorem hid_some:hid S H b=some o↔¬S b/\H b=some o:=by
 unfold hid;by_cases h:S b
 ·rw[if_pos h];exact⟨(λe=>nomatch e),λe=>absurd h e.1⟩
 ·rw[if_neg h];exact⟨λe=>⟨h,e⟩,λe=>e.2⟩
theorem X6:Same (hid S H) H:=λb o e=>(hid_some.mp e).2
theorem D9 (h:Same H H')(hs:∀b,S' b->H b≠none->S b):Same (hid S H) (hid S' H'):=λb o e=>by
 obtain ⟨a,c⟩:=hid_some.mp e;exact hid_some.mpr ⟨λz=>a (hs b z (by rw[c];simp)),h b o c⟩
theorem M9 (h:Same H H'):Same (hid S H) (hid S H'):=D9 h λ_ z _=>z
theorem u9 (hs:∀b,S b->∃u:HM,H b=some u.ho){a:Addr}{xs:List V}(r:Rd H a (.tup xs)):Rd (hid S H) a (.tup xs):=by
 have n:¬S a:=λz=>by
  obtain ⟨ys,e⟩:=hs a z;rcases r with r | ⟨o,r⟩ <;> rw[e]at r <;> replace r:=Ab4 r
  ·exact HM.nt r
  ·exact HM.nf r
 rcases r with r | ⟨o,r⟩
 ·exact .inl (hid_some.mpr ⟨n,r⟩)
 ·exact .inr ⟨o,hid_some.mpr ⟨n,r⟩⟩
end
inductive OT where
 | leaf (d:PyData) | tup (ts:List OT) | lst (ts:List OT) | dic (kvs:List (List Int×PyData))
mutual
def OT.data:OT->PyData
 | .leaf d=>d
 | .tup ts=>.tuple (OT.datas ts)
 | .lst ts=>.list (OT.datas ts)
 | .dic kvs=>dD kvs
def OT.datas:List OT->List PyData
 | []=>[]
 | t::ts=>t.data::OT.datas ts
end
mutual
/-- v is the tree t;L: its lists -/
inductive Dp (K:PySem.W.Frag)(Z H:Hp):V->OT->List Addr->Prop
 | leaf {v:V} {d:PyData}:Rep K Z v d->Dp K Z H v (.leaf d) []
 | tup {a:Addr} {xs:List V} {ts:List OT} {L:List Addr}:SqT K H a xs->Dps K Z H xs ts L->Dp K Z H (.ref a) (.tup ts) L
 | lst {a:Addr} {xs:List V} {ts:List OT} {L:List Addr}:H a=some (.lst xs)->Dps K Z H xs ts L->Dp K Z H (.ref a) (.lst ts) (a::L)
 | dic {a:Addr} {kv:List (List Int×Addr×V)} {kvs:List (List Int×PyData)}:H a=some (L2.dicO a kv)->kv.map (·.1)=kvs.map (·.1)->Reps K Z (kv.map λx=>V.ref x.2.1) (kvs.map λx=>PyData.tuple (x.1.map PyData.int))->Reps K Z (kv.map (·.2.2)) (kvs.map (·.2))->Dp K Z H (.ref a) (.dic kvs) [a]
inductive Dps (K:PySem.W.Frag)(Z H:Hp):List V->List OT->List Addr->Prop
 | nil:Dps K Z H [] [] []
 | cons {v:V} {t:OT} {vs:List V} {ts:List OT} {L L':List Addr}:Dp K Z H v t L->Dps K Z H vs ts L'->Dps K Z H (v::vs) (t::ts) (L++L')
end
section
variable {K:PySem.W.Frag}{Z Z' H H':Hp}
mutual
/-- only its lists and what is below count -/
theorem aC8 (hz:Same Z Z')(ht:∀a xs,Rd H a (.tup xs)->Rd H' a (.tup xs)):∀(t:OT) {v:V} {L:List Addr},(∀b∈L,H' b=H b)->Dp K Z H v t L->Dp K Z' H' v t L
 | .leaf d,_,_,_,r=>by cases r with | leaf r=>exact .leaf (r.mono hz)
 | .tup ts,_,_,hl,r=>by cases r with | tup s r=>exact .tup (s.imp (ht _ _) id) (p7 hz ht ts hl r)
 | .lst ts,_,_,hl,r=>by
  cases r with
  | lst s r=>exact .lst (by rw[hl _ (by simp)];exact s) (p7 hz ht ts (λb h=>hl b (by simp[h])) r)
 | .dic kvs,_,_,hl,r=>by
  cases r with
  | dic s k r1 r2=>exact .dic (by rw[hl _ (by simp)];exact s) k (r1.mono hz) (r2.mono hz)
theorem p7 (hz:Same Z Z')(ht:∀a xs,Rd H a (.tup xs)->Rd H' a (.tup xs)):∀(ts:List OT) {vs:List V} {L:List Addr},(∀b∈L,H' b=H b)->Dps K Z H vs ts L->Dps K Z' H' vs ts L
 | [],_,_,_,r=>by cases r;exact .nil
 | t::ts,_,_,hl,r=>by
  cases r with
  | cons a b=>exact .cons (aC8 hz ht t (λb h=>hl b (by simp[h])) a) (p7 hz ht ts (λb h=>hl b (by simp[h])) b)
end
mutual
theorem aB4:∀(t:OT) {v:V} {L:List Addr},Dp K Z H v t L->∀b∈L,∃u:HM,H b=some u.ho
 | .leaf d,_,_,r=>by cases r with | leaf r=>intro b h;simp at h
 | .tup ts,_,_,r=>by cases r with | tup s r=>exact p6 ts r
 | .lst ts,_,_,r=>by
  cases r with
  | lst s r=>
   intro b h;rcases Aa1.mp h with rfl | h
   ·exact⟨.l _,s⟩
   ·exact p6 ts r b h
 | .dic kvs,_,_,r=>by
  cases r with
  | dic s k r1 r2=>
   intro b h;rw[Ad6.mp h];exact⟨.x _ _,s⟩
theorem p6:∀(ts:List OT) {vs:List V} {L:List Addr},Dps K Z H vs ts L->∀b∈L,∃u:HM,H b=some u.ho
 | [],_,_,r=>by cases r;intro b h;simp at h
 | t::ts,_,_,r=>by
  cases r with
  | cons a b=>
   intro c h;rcases Aa0.mp h with h | h
   ·exact aB4 t a c h
   ·exact p6 ts b c h
end
theorem bF4 {H:Hp}{v:V}:∀{d:PyData},bQ1 d=true->Rep K H v d->cB5 K H v d
 | .none,_,r=>by cases r;rfl
 | .bool _,_,r=>by cases r;rfl
 | .int _,_,r=>by cases r;rfl
 | .str _,_,r=>by cases r;rfl
 | .list _,f,_=>by cases f
 | .dict _,f,_=>by cases f
 | .tuple ds,f,r=>by
  cases r with
  | @tup a xs _ s rs=>
   have key:∀(ds:List PyData) (xs:List V),(ds.all λd=>match d with | .int _=>true | _=>false)=true->Reps K H xs ds->∃l:List Int,ds=l.map PyData.int/\xs=l.map V.int:=λds=>by
    induction ds with
    | nil=>intro xs _ r;cases r;exact⟨[],rfl,rfl⟩
    | cons d ds ih=>
     intro xs f r;rw[List.all_cons,Bool.and_eq_true]at f;cases r with
     | cons a b=>
      obtain ⟨l,e1,e2⟩:=ih _ f.2 b;cases d with
      | int i=>cases a;exact⟨i::l,by rw[e1];rfl,by rw[e2];rfl⟩
      | _=>cases f.1
   obtain ⟨l,e1,e2⟩:=key ds xs f rs;exact⟨a,l,rfl,e1,by rw[<- e2];exact s⟩
theorem bZ3 {H:Hp}:∀{kv:List (List Int×Addr×V)} {kvs:List (List Int×PyData)},kvs.all (λx=>bQ1 x.2)=true->kv.map (·.1)=kvs.map (·.1)->Reps K H (kv.map λx=>V.ref x.2.1) (kvs.map λx=>PyData.tuple (x.1.map PyData.int))->Reps K H (kv.map (·.2.2)) (kvs.map (·.2))->KvF K H kv kvs
 | [],[],_,_,_,_=>.nil
 | [],_::_,_,e,_,_=>by simp at e
 | _::_,[],_,e,_,_=>by simp at e
 | x::kv,y::kvs,f,e,r1,r2=>by
  simp only[Ac6,List.cons.injEq]at e r1 r2;rw[List.all_cons,Bool.and_eq_true]at f;cases r1 with
  | cons a1 b1=>
   cases r2 with
   | cons a2 b2=>
    refine .cons ⟨e.1,?_,bF4 f.1 a2⟩ (bZ3 f.2 e.2 b1 b2);have z:cB5 K H (.ref x.2.1) (PyData.tuple (y.1.map PyData.int)):=bF4 (by simp[bQ1,List.all_map,Function.comp_def]) a1
    obtain ⟨a,l,h1,h2,h3⟩:=z;cases h1
    have:y.1=l:=by
     have inj:∀(u v:List Int),u.map PyData.int=v.map PyData.int->u=v:=λu=>by
      induction u with
      | nil=>intro v h;cases v <;> simp at h ⊢
      | cons c u ih=>intro v h;cases v with
       | nil=>simp at h
       | cons c' v=>simp at h;rw[h.1,ih v h.2]
     exact inj _ _ h2
    rw[e.1,this];exact h3
mutual
/-- the tree is a datum,where one sees its lists -/
theorem bL4 (hz:Same Z H)(ht:∀a xs,Rd H a (.tup xs)->Rd H' a (.tup xs))(hz':Same Z H'):∀(t:OT) {v:V} {L:List Addr},(∀b∈L,H' b=H b)->Dp K Z H v t L->Rep K H' v t.data
 | .leaf d,_,_,_,r=>by cases r with | leaf r=>exact r.mono hz'
 | .tup ts,_,_,hl,r=>by
  cases r with
  | tup s r=>exact .tup (s.imp (ht _ _) id) (aY9 hz ht hz' ts hl r)
 | .lst ts,_,_,hl,r=>by
  cases r with
  | lst s r=>exact .lst (SqL.of (by rw[hl _ (by simp)];exact s)) (aY9 hz ht hz' ts (λb h=>hl b (by simp[h])) r)
 | .dic kvs,_,_,hl,r=>by
  cases r with
  | dic s k r1 r2=>
   show Rep K H' _ (dD kvs)
   unfold dD;split
   ·rename_i f;exact .dic (by rw[hl _ (by simp)];exact s) (bF1 hz' (bZ3 f k r1 r2)) rfl
   ·exact .ptr
theorem aY9 (hz:Same Z H)(ht:∀a xs,Rd H a (.tup xs)->Rd H' a (.tup xs))(hz':Same Z H'):∀(ts:List OT) {vs:List V} {L:List Addr},(∀b∈L,H' b=H b)->Dps K Z H vs ts L->Reps K H' vs (OT.datas ts)
 | [],_,_,_,r=>by cases r;exact .nil
 | t::ts,_,_,hl,r=>by
  cases r with
  | cons a b=>exact .cons (bL4 hz ht hz' t (λb h=>hl b (by simp[h])) a) (aY9 hz ht hz' ts (λb h=>hl b (by simp[h])) b)
end
theorem Dp.mono {t:OT}{v:V}{L:List Addr}(r:Dp K Z H v t L)(hz:Same Z Z')(h:Same H H'):Dp K Z' H' v t L:=
 aC8 hz (λ_ _=>i5 h) t (λb hb=>by obtain ⟨xs,e⟩:=aB4 t r b hb;rw[e];exact h _ _ e) r
end
inductive Sl where
 | no | val (d:PyData) | own (ds:List PyData) | bor (d:PyData) | tr (t:OT)
def Sl.os:Sl->Bool
 | .own _=>true
 | .tr _=>true
 | _=>false
def C8 (ρ:List Sl)(o:Nat->List Addr)(S:Addr->Prop)(b:Addr):Prop:=S b\/∃(i:Nat) (x:Sl),ρ[i]? = some x/\x.os=true/\b∈o i
structure Env (K:PySem.W.Frag)(S:Addr->Prop)(B H:Hp)(σ:St)(ρ:List Sl)(o:Nat->List Addr):Prop where
 len:σ.length=ρ.length
 base:Same B H
 sl:∀b,S b->∃u:HM,B b=some u.ho
 new:∀(i:Nat) (x:Sl),ρ[i]? = some x->x.os=true->∀b∈o i,B b=none
 inj:∀(i j:Nat) (x y:Sl),ρ[i]? = some x->ρ[j]? = some y->x.os=true->y.os=true->∀b,b∈o i->b∈o j->i=j
 own:∀(i:Nat) (ds:List PyData),ρ[i]? = some (.own ds)->∃p,o i=[p]/\σ[i]? = some (some (.ref p))/\∃xs,H p=some (.lst xs)/\Reps K (hid (C8 ρ o S) H) xs ds
 val:∀(i:Nat) (d:PyData),ρ[i]? = some (.val d)->∃v,σ[i]? = some (some v)/\Rep K (hid (C8 ρ o S) H) v d
 bor:∀(i:Nat) (d:PyData),ρ[i]? = some (.bor d)->∃v,σ[i]? = some (some v)/\Rep K H v d
 tr:∀(i:Nat) (t:OT),ρ[i]? = some (.tr t)->(o i).Nodup/\∃v,σ[i]? = some (some v)/\Dp K (hid (C8 ρ o S) H) H v t (o i)
section
variable {K:PySem.W.Frag}{S:Addr->Prop}{B H H':Hp}{σ:St}{ρ:List Sl}{o:Nat->List Addr}
theorem Env.grow (e:Env K S B H σ ρ o)(h:Same H H'):Env K S B H' σ ρ o:=
 ⟨e.len,L2.Same.tr e.base h,e.sl,e.new,e.inj,λi ds z=>by
  obtain ⟨p,o',a,xs,b,c⟩:=e.own i ds z;exact⟨p,o',a,xs,h _ _ b,c.mono (M9 h)⟩,λi d z=>by
  obtain ⟨v,a,b⟩:=e.val i d z;exact⟨v,a,b.mono (M9 h)⟩,λi d z=>by
  obtain ⟨v,a,b⟩:=e.bor i d z;exact⟨v,a,b.mono h⟩,λi t z=>by
  obtain ⟨n,v,a,b⟩:=e.tr i t z;exact⟨n,v,a,b.mono (M9 h) h⟩⟩
theorem Env.lists (e:Env K S B H σ ρ o):∀b,C8 ρ o S b->∃u:HM,H b=some u.ho:=λb z=>by
 rcases z with z | ⟨i,x,z,hx,hb⟩
 ·obtain ⟨xs,q⟩:=e.sl b z;exact⟨xs,e.base _ _ q⟩
 ·cases x with
  | own ds=>
   obtain ⟨p,o',_,xs,q,_⟩:=e.own i ds z;rw[o']at hb;exact⟨.l xs,by rw[Ad6.mp hb];exact q⟩
  | tr t=>
   obtain ⟨_,v,_,q⟩:=e.tr i t z;exact aB4 t q b hb
  | _=>cases hx
theorem Env.imm (e:Env K S B H σ ρ o){v:V}{d:PyData}(i:imm d=true)(r:Rep K H v d):Rep K (hid (C8 ρ o S) H) v d:=
 bP2 (λ_ _ q=>u9 e.lists q) d i r
def cB9 (ρ:List Sl)(o:Nat->List Addr)(b:Addr):Prop:=∃(i:Nat) (x:Sl),ρ[i]? = some x/\x.os=true/\b∈o i
theorem Env.rebase (e:Env K S B H σ ρ o):Env K S (hid (cB9 ρ o) H) H σ ρ o/\Same B (hid (cB9 ρ o) H):=by
 have s:Same B (hid (cB9 ρ o) H):=λb x q=>
  hid_some.mpr ⟨(λ⟨i,y,z,hy,hb⟩=>by rw[e.new i y z hy b hb]at q;cases q),e.base b x q⟩
 refine⟨⟨e.len,X6,λb z=>?_,λi x z hx b hb=>?_,e.inj,e.own,e.val,e.bor,e.tr⟩,s⟩
 ·obtain ⟨xs,q⟩:=e.sl b z;exact⟨xs,s _ _ q⟩
 ·unfold hid;exact if_pos ⟨i,x,z,hx,hb⟩
end
noncomputable def vw (m:Bool)(S:Addr->Prop)(H:Hp):Hp:=match m with | true=>hid S H | false=>H
def E (K:PySem.W.Frag)(m:Bool)(t:TE)(ρ:List Sl)(d:PyData):Prop:=
 ∀(S:Addr->Prop) (B:Hp) (σ:St) (H:Hp) (o:Nat->List Addr),Env K S B H σ ρ o->∀Q:VK,(∀v H',Same H H'->Rep K (vw m (C8 ρ o S) H') v d->Q v H')->t σ H Q
def EF (K:PySem.W.Frag)(t:TE)(ρ:List Sl)(ds:List PyData):Prop:=
 ∀(S:Addr->Prop) (B:Hp) (σ:St) (H:Hp) (o:Nat->List Addr),Env K S B H σ ρ o->∀Q:VK,
  (∀p xs H',Same H H'->H p=none->H' p=some (.lst xs)->Reps K (hid (λb=>C8 ρ o S b\/b=p) H') xs ds->Q (.ref p) H')->t σ H Q
def T (K:PySem.W.Frag)(t:TT)(ρ:List Sl)(b:Bool):Prop:=
 ∀(S:Addr->Prop) (B:Hp) (σ:St) (H:Hp) (o:Nat->List Addr),Env K S B H σ ρ o->∀Q:Bool->Hp->Prop,(∀H',Same H H'->Q b H')->t σ H Q
def A (K:PySem.W.Frag)(m:Bool)(t:TA)(ρ:List Sl)(ds:List PyData):Prop:=
 ∀(S:Addr->Prop) (B:Hp) (σ:St) (H:Hp) (o:Nat->List Addr),Env K S B H σ ρ o->∀Q:List V->Hp->Prop,(∀vs H',Same H H'->Reps K (vw m (C8 ρ o S) H') vs ds->Q vs H')->t σ H Q
structure Wk (K:PySem.W.Frag)(Z:Hp)(J:It)(ds:List PyData):Prop where
 stop:∀i H,Same Z H->ds.length<=i->J.stop i H
 go:∀i H d,Same Z H->ds[i]? = some d->J.go i H
 yld:∀i H d x H',Same Z H->ds[i]? = some d->J.yld i H x H'->Same H H'/\∀S:Addr->Prop,(∀b,S b->Z b=none/\H b≠none)->Rep K (hid S H') x d
def I (K:PySem.W.Frag)(m:Bool)(wi:TI)(ρ:List Sl)(ds:List PyData):Prop:=
 ∀(S:Addr->Prop) (B:Hp) (σ:St) (H:Hp) (o:Nat->List Addr),Env K S B H σ ρ o->∀R:It->Hp->Prop,(∀J H',Same H H'->Wk K (vw m (C8 ρ o S) H') J ds->R J H')->wi σ H R
def G (K:PySem.W.Frag)(m:Bool)(g:TG)(d:PyData)(ρ ρ':List Sl):Prop:=(∀(o:Nat->List Addr) (S:Addr->Prop) (b:Addr),C8 ρ' o S b->C8 ρ o S b) /\
 ∀(S:Addr->Prop) (B:Hp) (σ:St) (H:Hp) (o:Nat->List Addr),Env K S B H σ ρ o->∀v,Rep K (vw m (C8 ρ o S) H) v d->∀Q:St->Hp->Prop,(∀σ',Env K S B H σ' ρ' o->Q σ' H)->g v σ H Q
def Gs (K:PySem.W.Frag)(m:Bool)(g:TGs)(ds:List PyData)(ρ ρ':List Sl):Prop:=(∀(o:Nat->List Addr) (S:Addr->Prop) (b:Addr),C8 ρ' o S b->C8 ρ o S b) /\
 ∀(S:Addr->Prop) (B:Hp) (σ:St) (H:Hp) (o:Nat->List Addr),Env K S B H σ ρ o->∀vs,Reps K (vw m (C8 ρ o S) H) vs ds->∀Q:St->Hp->Prop,(∀σ',Env K S B H σ' ρ' o->Q σ' H)->g vs σ H Q
structure AE where
 nx:List Sl->Prop
 rt:PyData->Prop:=λ_=>False
 rl:List PyData->Prop:=λ_=>False
 bk:List Sl->Prop:=λ_=>False
 ct:List Sl->Prop:=λ_=>False
structure Sat (K:PySem.W.Frag)(S:Addr->Prop)(B:Hp)(R:AE)(D:aM0):Prop where
 nx:∀ρ' σ' H' o',Env K S B H' σ' ρ' o'->R.nx ρ'->D.nx σ' H'
 rt:∀v d H',Same B H'->Rep K (hid S H') v d->R.rt d->D.rt v H'
 rl:∀p xs ds H',Same B H'->B p=none->H' p=some (.lst xs)->Reps K (hid (λb=>S b\/b=p) H') xs ds->R.rl ds->D.rt (.ref p) H'
 bk:∀ρ' σ' H' o',Env K S B H' σ' ρ' o'->R.bk ρ'->D.bk σ' H'
 ct:∀ρ' σ' H' o',Env K S B H' σ' ρ' o'->R.ct ρ'->D.ct σ' H'
def W (K:PySem.W.Frag)(t:TS)(ρ:List Sl)(R:AE):Prop:=
 ∀(S:Addr->Prop) (B:Hp) (D:aM0) (σ:St) (H:Hp) (o:Nat->List Addr),Env K S B H σ ρ o->Sat K S B R D->t D σ H
section
variable {K:PySem.W.Frag}{ρ ρ' ρ1:List Sl}{m:Bool}{t ta tb tc:TE}{d d':PyData}{ds es:List PyData}
theorem aE7 {S:Addr->Prop}{H:Hp}:Same (vw m S H) H:=by cases m;exact L2.Same.rf _;exact X6
theorem bD1 {S:Addr->Prop}{H H':Hp}(h:Same H H'):Same (vw m S H) (vw m S H'):=by cases m;exact h;exact M9 h
theorem E.bor (h:E K true t ρ d):E K m t ρ d:=λS B σ H o I Q q=>h S B σ H o I Q λv H' s r=>q v H' s (by cases m;exact r.mono X6;exact r)
theorem E.imm (h:E K m t ρ d)(i:imm d=true:=by rfl):E K true t ρ d:=λS B σ H o I Q q=>h S B σ H o I Q λv H' s r=>q v H' s ((I.grow s).imm i (r.mono aE7))
theorem EF.e' (h:EF K t ρ ds):E K m t ρ (.list ds):=E.bor λS B σ H o I Q q=>h S B σ H o I Q λp xs H' s n e r=>q _ _ s
 (.lst (SqL.of (hid_some.mpr ⟨(λz=>by obtain ⟨ys,y⟩:=I.lists p z;rw[n]at y;cases y),e⟩)) (r.mono (D9 (L2.Same.rf _) λb z _=>.inl z)))
theorem A3 {i:Nat}(h:ρ[i]? = some (.val d)):E K m (Q7 i) ρ d:=E.bor λS B σ H o I Q q=>by
 obtain ⟨v,a,b⟩:=I.val i d h;exact⟨v,a,q v H (L2.Same.rf _) b⟩
theorem Q2 {i:Nat}(h:ρ[i]? = some (.own ds)):E K false (Q7 i) ρ (.list ds):=λS B σ H o I Q q=>by
 obtain ⟨p,o',a,xs,b,c⟩:=I.own i ds h;exact⟨_,a,q _ H (L2.Same.rf _) (.lst (SqL.of b) (c.mono X6))⟩
theorem bS0 {i:Nat}(h:ρ[i]? = some (.bor d)):E K false (Q7 i) ρ d:=λS B σ H o I Q q=>by
 obtain ⟨v,a,b⟩:=I.bor i d h;exact⟨v,a,q v H (L2.Same.rf _) b⟩
theorem bQ5 {v:V}(h:∀H,Rep K H v d):E K m (tC v) ρ d:=λS B σ H o I Q q=>q v H (L2.Same.rf _) (h _)
theorem A9 {i:Int}:E K m (tC (.int i)) ρ (.int i):=bQ5 λ_=>.int i
theorem cO8 {b:Bool}:E K m (tC (.bl b)) ρ (.bool b):=bQ5 λ_=>.bl b
theorem bS7:E K m (tC .non) ρ .none:=bQ5 λ_=>.non
theorem bI7 {x:Str}:E K m (tC (.str x)) ρ (.str x):=bQ5 λ_=>.str x
theorem bJ6 {r:R2}(m1 m2:Bool)(ha:E K m1 ta ρ d)(hb:E K m2 tb ρ d'){f:PyData}
  (hr:∀(S:Addr->Prop) (H:Hp) (x y:V) (Q:VK),(∀b,S b->∃u:HM,H b=some u.ho)->Rep K (vw m1 S H) x d->Rep K (vw m2 S H) y d'->(∀v H',Same H H'->Rep K (vw m S H') v f->Q v H')->r x y H Q):E K m (tOp r ta tb) ρ f:=
 λS B σ H o I Q q=>ha S B σ H o I _ λx H1 s1 rx=>hb S B σ H1 o (I.grow s1) _ λy H2 s2 ry=>
  hr (C8 ρ o S) H2 x y Q ((I.grow s1).grow s2).lists (rx.mono (bD1 s2)) ry λv H' s r=>q v H' (L2.Same.tr s1 (L2.Same.tr s2 s)) r
theorem bF7 {r:R2}{i j:Int}{f:PyData}(ha:E K false ta ρ (.int i))(hb:E K false tb ρ (.int j))(hr:∀(H:Hp) (Q:VK),(∀v,(∀H,Rep K H v f)->Q v H)->r (.int i) (.int j) H Q):E K m (tOp r ta tb) ρ f:=
 bJ6 false false ha hb λS H x y Q _ rx ry q=>by
  cases rx;cases ry
  exact hr H Q λv r=>q v H (L2.Same.rf _) (r _)
theorem S1 {g:Int->Int->Int}{i j:Int}(ha:E K false ta ρ (.int i))(hb:E K false tb ρ (.int j)):E K m (tOp (rI0 λi j=>.int (g i j)) ta tb) ρ (.int (g i j)):=
 bF7 ha hb λH Q q=>⟨i,j,rfl,rfl,q _ λ_=>.int _⟩
theorem e_i {C:Int->Int->Prop}{g:Int->Int->Int}{i j:Int}(ha:E K false ta ρ (.int i))(hb:E K false tb ρ (.int j))(hc:C i j):E K m (tOp (rI C λi j=>.int (g i j)) ta tb) ρ (.int (g i j)):=
 bF7 ha hb λH Q q=>⟨i,j,rfl,rfl,hc,q _ λ_=>.int _⟩
theorem bE7 {g:Int->Int->Bool}{i j:Int}(ha:E K false ta ρ (.int i))(hb:E K false tb ρ (.int j)):E K m (tOp (rI0 λi j=>.bl (g i j)) ta tb) ρ (.bool (g i j)):=
 bF7 ha hb λH Q q=>⟨i,j,rfl,rfl,q _ λ_=>.bl _⟩
end
end LV
namespace LV
open PySem L2
section
variable {K:PySem.W.Frag}{ρ ρ' ρ1:List Sl}{m m':Bool}{t ta tb tc:TE}{d d':PyData}{ds es:List PyData}
theorem bY9 {H:Hp}{xs:List V}{i:Int}(r:Reps K H xs ds)(e:atI ds i=some d):∃v,atI xs i=some v/\Rep K H v d:=by
 unfold atI at e ⊢;rw[r.length];cases h:ixN ds.length i with
 | none=>rw[h]at e;cases e
 | some j=>rw[h]at e;exact r.get' (by simpa using e)
def sq:PyData->Option (List PyData)
 | .list ds=>some ds
 | .tuple ds=>some ds
 | _=>none
theorem J8 {i:Int}(ha:E K m ta ρ d)(hb:E K false tb ρ (.int i))(hs:sq d=some ds)(h:atI ds i=some d'):E K m (tOp (rIx K) ta tb) ρ d':=
 bJ6 m false ha hb λS H x y Q _ rx ry q=>by
  cases ry;cases rx with
  | lst s r=>
   cases hs
   obtain ⟨v,h1,h2⟩:=bY9 r h;exact .inl ⟨_,_,i,v,rfl,rfl,M8 aE7 s,h1,q v H (L2.Same.rf _) h2⟩
  | tup s r=>
   cases hs
   obtain ⟨v,h1,h2⟩:=bY9 r h;exact .inr (.inl ⟨_,_,i,v,rfl,rfl,G4 aE7 s,h1,q v H (L2.Same.rf _) h2⟩)
  | _=>cases hs
theorem Q0 {α:Type}{xs:List α}{i:Int}{v:α}(n:Nat)(hn:i=n)(h:xs[n]? = some v):atI xs i=some v:=by
 subst hn;unfold atI ixN
 have:=(Ab0.mp h).1
 rw[if_pos (by omega),if_pos (by omega)]
 simpa using h
theorem aN6 {α:Type}{xs:List α}{v:α}:atI (xs++[v]) (-1)=some v:=by
 unfold atI ixN;rw[if_neg (by omega),if_pos (by simp;omega)]
 have:((-1:Int)+((xs++[v]).length:Nat)).toNat=xs.length:=by simp;omega
 rw[this];simp
theorem A7:A K m p8 ρ []:=λS B σ H o I Q q=>q [] H (L2.Same.rf _) .nil
theorem A1 {tr:TA}(ha:E K m ta ρ d)(hr:A K m tr ρ ds):A K m (N0 ta tr) ρ (d::ds):=λS B σ H o I Q q=>
 ha S B σ H o I _ λx H1 s1 rx=>hr S B σ H1 o (I.grow s1) _ λxs H2 s2 rs=>q _ H2 (L2.Same.tr s1 s2) (.cons (rx.mono (bD1 s2)) rs)
theorem E6 {H:Hp}{p:Addr}{o:HO}(h:H p=none):Same H (upd H p o):=λb x e=>by
 have:b≠p:=λz=>by rw[z,h]at e;cases e
 rw[B1 this];exact e
theorem X3 {t:TA}(h:A K m t ρ ds)(hl:ds.length<=sizeLine:=by first | decide | (unfold PySem.sizeLine;simp)):E K m (bJ5 t) ρ (.tuple ds):=λS B σ H o I Q q=>h S B σ H o I _ λxs H1 s1 rs=>⟨by rw[rs.length];exact hl,λp hp=>by
 have g:=E6 (o:=.tup xs) hp
 refine q _ _ (L2.Same.tr s1 g) (.tup (.inl (.inl ?_)) (rs.mono (bD1 g)));cases m with
 | false=>exact B7
 | true=>exact hid_some.mpr ⟨(λz=>by obtain ⟨ys,y⟩:=(I.grow s1).lists p z;rw[hp]at y;cases y),B7⟩⟩
theorem aX2 {S:Addr->Prop}{H:Hp}{p:Addr}{xs ys:List V}(hs:∀b,S b->∃u:HM,H b=some u.ho)(hp:H p=none)(r:Reps K (hid S H) xs ds):Reps K (hid (λb=>S b\/b=p) (upd H p (.lst ys))) xs ds:=
 r.mono (D9 (E6 hp) λb z n=>z.elim id λe=>absurd (by rw[e];exact hp) n)
theorem G8 {t:TA}(h:A K true t ρ ds)(hl:ds.length<=sizeLine:=by first | decide | (unfold PySem.sizeLine;simp)):EF K (dB7 t) ρ ds:=λS B σ H o I Q q=>h S B σ H o I _ λxs H1 s1 rs=>⟨by rw[rs.length];exact hl,λp hp=>
 q p xs _ (L2.Same.tr s1 (E6 hp)) (by cases e:H p with | none=>rfl | some x=>rw[s1 _ _ e]at hp;cases hp) B7 (aX2 (I.grow s1).lists hp rs)⟩
def spV (K:PySem.W.Frag)(pre:List PyData->PyData->Prop):Sp:=λvs H Q _=>∃(ds:List PyData) (S:Addr->Prop) (d:PyData),(∀b,S b->∃u:HM,H b=some u.ho)/\Reps K (hid S H) vs ds/\pre ds d /\
 ∀v H',Same H H'->Rep K (hid S H') v d->Q v H'
def spL (K:PySem.W.Frag)(pre:List PyData->List PyData->Prop):Sp:=λvs H Q _=>∃(ds:List PyData) (S:Addr->Prop) (es:List PyData),(∀b,S b->∃u:HM,H b=some u.ho)/\Reps K (hid S H) vs ds/\pre ds es /\
 ∀p xs H',Same H H'->H p=none->H' p=some (.lst xs)->Reps K (hid (λb=>S b\/b=p) H') xs es->Q (.ref p) H'
theorem bZ1 {H:Hp}:hid (λ_=>False) H=H:=by funext b;unfold hid;exact if_neg id
theorem G6 {pre:List PyData->PyData->Prop}{t:TA}{X:XK}(ha:A K true t ρ ds)(hp:pre ds d):E K m (aL3 (spV K pre) [] X t) ρ d:=E.bor λS B σ H o I Q q=>
 ha S B σ H o I _ λvs H1 s1 rs=>⟨ds,C8 ρ o S,d,(I.grow s1).lists,by rw[List.append_nil];exact rs,hp,λv H' s r=>q v H' (L2.Same.tr s1 s) r⟩
theorem Y5 {H H1:Hp}{p:Addr}(s:Same H H1)(h:H1 p=none):H p=none:=by
 cases e:H p with
 | none=>rfl
 | some x=>rw[s _ _ e]at h;cases h
theorem aD3 {pre:List PyData->List PyData->Prop}{t:TA}{X:XK}(ha:A K true t ρ ds)(hp:pre ds es):EF K (aL3 (spL K pre) [] X t) ρ es:=λS B σ H o I Q q=>
 ha S B σ H o I _ λvs H1 s1 rs=>⟨ds,C8 ρ o S,es,(I.grow s1).lists,by rw[List.append_nil];exact rs,hp,λp xs H' s n e r=>q p xs H' (L2.Same.tr s1 s) (Y5 s1 n) e r⟩
theorem O0 {b:Bool}(h:E K false t ρ (.bool b)):T K (cT3 t) ρ b:=λS B σ H o I Q q=>h S B σ H o I _ λv H' s r=>by cases r;exact⟨b,rfl,q H' s⟩
theorem t_b {b:Bool}(h:E K false t ρ (.bool b)):T K (tB t) ρ b:=λS B σ H o I Q q=>h S B σ H o I _ λv H' s r=>by cases r;exact⟨b,rfl,q H' s⟩
theorem cI1 {u w:TT}{a b:Bool}(h:T K u ρ a)(h':a=false->T K w ρ b):T K (tOr u w) ρ (a||b):=λS B σ H o I Q q=>h S B σ H o I _ λH1 s1=>by
 cases a with
 | true=>exact q H1 s1
 | false=>exact h' rfl S B σ H1 o (I.grow s1) _ λH2 s2=>q H2 (L2.Same.tr s1 s2)
theorem aV3 {u:TT}{a:Bool}(h:T K u ρ a):T K (dH0 u) ρ (!a):=λS B σ H o I Q q=>h S B σ H o I _ q
theorem bJ1 {a:Bool}{b:Bool}(h:E K false ta ρ (.bool a))(h':a=true->E K false tb ρ (.bool b)):E K m (cS1 ta tb) ρ (.bool (a&&b)):=E.bor (E.imm (m:=false) λS B σ H o I Q q=>h S B σ H o I _ λv H1 s1 r=>by
 cases r
 refine⟨a,rfl,?_⟩;cases a with
 | false=>exact q _ H1 s1 (.bl _)
 | true=>exact h' rfl S B σ H1 o (I.grow s1) _ λv H2 s2 r=>q v H2 (L2.Same.tr s1 s2) r)
theorem dA6 {a:Bool}{b:Bool}(h:E K false ta ρ (.bool a))(h':a=false->E K false tb ρ (.bool b)):E K m (dC2 ta tb) ρ (.bool (a||b)):=E.bor (E.imm (m:=false) λS B σ H o I Q q=>h S B σ H o I _ λv H1 s1 r=>by
 cases r
 refine⟨a,rfl,?_⟩;cases a with
 | true=>exact q _ H1 s1 (.bl _)
 | false=>exact h' rfl S B σ H1 o (I.grow s1) _ λv H2 s2 r=>q v H2 (L2.Same.tr s1 s2) r)
theorem cR5 {a:Bool}(h:E K false ta ρ (.bool a)):E K m (cR4 ta) ρ (.bool (!a)):=E.bor (E.imm (m:=false) λS B σ H o I Q q=>h S B σ H o I _ λv H1 s1 r=>by
 cases r
 exact⟨a,rfl,q _ H1 s1 (.bl _)⟩)
theorem dG8 {u:TT}{a:Bool}(h:T K u ρ a)(h1:a=true->E K m ta ρ d)(h2:a=false->E K m tb ρ d):E K m (tIf u ta tb) ρ d:=λS B σ H o I Q q=>h S B σ H o I _ λH1 s1=>by
 cases a with
 | true=>exact h1 rfl S B σ H1 o (I.grow s1) _ λv H2 s2 r=>q v H2 (L2.Same.tr s1 s2) r
 | false=>exact h2 rfl S B σ H1 o (I.grow s1) _ λv H2 s2 r=>q v H2 (L2.Same.tr s1 s2) r
theorem cM9 {Z:Hp}{a:Addr}{xs:List V}(s:SqL K Z a xs)(r:Reps K Z xs ds):Wk K Z (Itl K a) ds where
 stop:=λi H h l=>⟨xs,M8 h s,by rw[r.length];exact l⟩
 go:=λi H d h e=>by
  obtain ⟨v,h1,_⟩:=r.get' e;exact⟨xs,v,M8 h s,h1⟩
 yld:=λi H d x H' h e y=>by
  obtain ⟨rfl,y⟩:=y
  have:=y xs (M8 h s)
  obtain ⟨d',h1,h2⟩:=r.get this;rw[e]at h1;cases h1;refine⟨L2.Same.rf _,λS hS=>h2.mono λb o q=>hid_some.mpr ⟨λz=>?_,h b o q⟩⟩
  rw[(hS b z).1]at q;cases q
theorem dB4 {Z:Hp}{a:Addr}{xs:List V}(s:SqT K Z a xs)(r:Reps K Z xs ds):Wk K Z (Itt K a) ds where
 stop:=λi H h l=>⟨xs,G4 h s,by rw[r.length];exact l⟩
 go:=λi H d h e=>by
  obtain ⟨v,h1,_⟩:=r.get' e;exact⟨xs,v,G4 h s,h1⟩
 yld:=λi H d x H' h e y=>by
  obtain ⟨rfl,y⟩:=y
  have:=y xs (G4 h s)
  obtain ⟨d',h1,h2⟩:=r.get this;rw[e]at h1;cases h1;refine⟨L2.Same.rf _,λS hS=>h2.mono λb o q=>hid_some.mpr ⟨λz=>?_,h b o q⟩⟩
  rw[(hS b z).1]at q;cases q
def W4 (lo:Int)(n:Nat):List PyData:=(List.range n).map λ(i:Nat)=>PyData.int (lo+(i:Int))
theorem cG4 {Z:Hp}{lo:Int}{n:Nat}:Wk K Z (Itr lo n) (W4 lo n) where
 stop:=λi H h l=>by
  have:n<=i:=by simpa[W4]using l
  exact this
 go:=λi H d h e=>by
  have:=(Ab0.mp e).1
  have:i<n:=by simpa[W4]using this
  exact this
 yld:=λi H d x H' h e y=>by
  obtain ⟨rfl,rfl⟩:=y
  have:d=.int (lo+i):=by
   have hi:=(Ab0.mp e).1
   have hn:i<n:=by simpa[W4]using hi
   unfold W4 at e;rw[Aa9,List.getElem?_range hn]at e;exact(Ab4 e).symm
  subst this;exact⟨L2.Same.rf _,λS hS=>.int _⟩
theorem aJ4 (h:E K m t ρ (.list ds)):I K m (cS0 K t) ρ ds:=λS B σ H o J R q=>h S B σ H o J _ λv H1 s1 r=>by
 cases r with
 | lst s r=>exact⟨_,rfl,⟨_,M8 aE7 s⟩,q _ H1 s1 (cM9 s r)⟩
theorem cU1 (h:E K m t ρ (.tuple ds)):I K m (dG1 K t) ρ ds:=λS B σ H o J R q=>h S B σ H o J _ λv H1 s1 r=>by
 cases r with
 | tup s r=>exact⟨_,rfl,⟨_,G4 aE7 s⟩,q _ H1 s1 (dB4 s r)⟩
theorem V8 {t:TA}{j:Int}(h:A K false t ρ [.int j])(h1 : -(2^62)<=j)(h2:j<2^62):I K m (cS6 t) ρ (W4 0 j.toNat):=λS B σ H o J R q=>h S B σ H o J _ λvs H1 s1 r=>by
 cases r with
 | cons a b=>cases a;cases b;exact⟨j,rfl,h1,h2,q _ H1 s1 cG4⟩
theorem dA2 {t:TA}{i j:Int}(h:A K false t ρ [.int i,.int j])(h0 : -(2^62)<=i/\i<2^62 /\ -(2^62)<=j/\j<2^62):I K m (cR3 t) ρ (W4 i (j-i).toNat):=λS B σ H o J R q=>h S B σ H o J _ λvs H1 s1 r=>by
 cases r with
 | cons a b=>cases a;cases b with | cons a b=>cases a;cases b;exact⟨i,j,rfl,h0,q _ H1 s1 cG4⟩
theorem aG2 {o:Nat->List Addr}{S:Addr->Prop}{i:Nat}{x:Sl}(hx:x.os=false){b:Addr}(z:C8 (ρ.set i x) o S b):C8 ρ o S b:=by
 rcases z with z | ⟨j,y,h,hy,e⟩
 ·exact .inl z
 ·refine .inr ⟨j,y,?_,hy,e⟩;rw[List.getElem?_set]at h;by_cases c:i=j
  ·rw[if_pos c]at h;split at h
   ·rw[<- Ab4 h,hx]at hy;cases hy
   ·cases h
  ·rw[if_neg c]at h;exact h
def slot (m:Bool)(d:PyData):Sl:=match m with | true=>.val d | false=>.bor d
theorem Env.set {S:Addr->Prop}{B H:Hp}{σ:St}{o:Nat->List Addr}(I:Env K S B H σ ρ o)(i:Nat){v:V}(r:Rep K (vw m (C8 ρ o S) H) v d):Env K S B H (σ.set i (some v)) (ρ.set i (slot m d)) o:=by
 have nx:(slot m d).os=false:=by cases m <;> rfl
 have nd:∀{x:Sl},x.os=true->x≠slot m d:=λ{x} h e=>by rw[e,nx]at h;cases h
 have at_:∀{j:Nat} {x:Sl},x≠slot m d->(ρ.set i (slot m d))[j]? = some x->i≠j/\ρ[j]? = some x:=λ{j x} hx h=>by
  rw[List.getElem?_set]at h;by_cases c:i=j
  ·rw[if_pos c]at h;split at h
   ·exact absurd (Ab4 h).symm hx
   ·cases h
  ·rw[if_neg c]at h;exact⟨c,h⟩
 have g:Same (hid (C8 ρ o S) H) (hid (C8 (ρ.set i (slot m d)) o S) H):=D9 (L2.Same.rf _) λb z _=>aG2 nx z
 refine⟨by simp[I.len],I.base,I.sl,λj x h hx=>I.new j x (at_ (nd hx) h).2 hx,λj k x y h h' hx hy=>I.inj j k x y (at_ (nd hx) h).2 (at_ (nd hy) h').2 hx hy,λj ds h=>?_,λj d' h=>?_,λj d' h=>?_,λj t h=>?_⟩
 ·obtain ⟨c,h⟩:=at_ (nd rfl) h;obtain ⟨p,o',a,xs,b,r'⟩:=I.own j ds h;exact⟨p,o',by rw[Ac9 c];exact a,xs,b,r'.mono g⟩
 ·by_cases c:i=j
  ·subst c;have hl:i<ρ.length:=by
    have:=(Ab0.mp h).1
    simpa using this
   rw[List.getElem?_set_self (by simpa using hl)]at h
   cases m with
   | false=>simp[slot]at h
   | true=>
    simp[slot]at h;subst h
    exact⟨v,List.getElem?_set_self (by rw[I.len];exact hl),r.mono g⟩
  ·rw[Ac9 c]at h;obtain ⟨u,a,b⟩:=I.val j d' h;exact⟨u,by rw[Ac9 c];exact a,b.mono g⟩
 ·by_cases c:i=j
  ·subst c;have hl:i<ρ.length:=by
    have:=(Ab0.mp h).1
    simpa using this
   rw[List.getElem?_set_self (by simpa using hl)]at h
   cases m with
   | true=>simp[slot]at h
   | false=>
    simp[slot]at h;subst h
    exact⟨v,List.getElem?_set_self (by rw[I.len];exact hl),r⟩
  ·rw[Ac9 c]at h;obtain ⟨u,a,b⟩:=I.bor j d' h;exact⟨u,by rw[Ac9 c];exact a,b⟩
 ·obtain ⟨c,h⟩:=at_ (nd rfl) h;obtain ⟨n,u,a,b⟩:=I.tr j t h;exact⟨n,u,by rw[Ac9 c];exact a,b.mono g (L2.Same.rf _)⟩
theorem cQ5:(slot m d).os=false:=by cases m <;> rfl
theorem D7 {i:Nat}:G K m (U1 i) d ρ (ρ.set i (slot m d)):=⟨λo S b z=>aG2 cQ5 z,λS B σ H o I v r Q q=>q _ (I.set i r)⟩
theorem aQ4:Gs K m dF3 [] ρ ρ:=⟨λ_ _ _ z=>z,λS B σ H o I vs r Q q=>by cases r;exact⟨rfl,q σ I⟩⟩
theorem cY5 {o:Nat->List Addr}{S:Addr->Prop}{H:Hp}(h:∀(o:Nat->List Addr) (S:Addr->Prop) (b:Addr),C8 ρ' o S b->C8 ρ o S b):Same (vw m (C8 ρ o S) H) (vw m (C8 ρ' o S) H):=by
 cases m with
 | false=>exact L2.Same.rf _
 | true=>exact D9 (L2.Same.rf _) λb z _=>h o S b z
theorem W7 {g:TG}{gs:TGs}(h:G K m g d ρ ρ1)(h':Gs K m gs ds ρ1 ρ'):Gs K m (cS7 g gs) (d::ds) ρ ρ':=⟨λo S b z=>h.1 o S b (h'.1 o S b z),λS B σ H o I vs r Q q=>by
 cases r with
 | cons a b=>exact⟨_,_,rfl,h.2 S B σ H o I _ a _ λσ1 I1=>h'.2 S B σ1 H o I1 _ (b.mono (cY5 h.1)) _ q⟩⟩
theorem bG9 {gs:TGs}{n:Nat}(h:Gs K m gs ds ρ ρ')(hn:ds.length=n:=by rfl):G K m (dE5 K n gs) (.tuple ds) ρ ρ':=⟨h.1,λS B σ H o I v r Q q=>by
 cases r with
 | tup s r=>exact⟨_,_,rfl,G4 aE7 s,by rw[r.length];exact hn,h.2 S B σ H o I _ r _ q⟩⟩
theorem B2 {t u:TS}{R:AE}(h:W K t ρ {R with nx:=λρ'=>W K u ρ' R}):W K (cW1 t u) ρ R:=λS B D σ H o I s=>
 h S B {D with nx:=u D} σ H o I ⟨λρ' σ' H' o' I' w=>w S B D σ' H' o' I' s,s.rt,s.rl,s.bk,s.ct⟩
theorem Q6 {R:AE}(h:R.nx ρ):W K cU6 ρ R:=λS B D σ H o I s=>s.nx ρ σ H o I h
theorem bR3 {g:TG}{R:AE}(h:E K m t ρ d)(hg:G K m g d ρ ρ')(hn:R.nx ρ'):W K (aM8 t g) ρ R:=λS B D σ H o I s=>
 h S B σ H o I _ λv H' s' r=>hg.2 S B σ H' o (I.grow s') v r _ λσ' I'=>s.nx _ σ' H' o I' hn
theorem Q8 {i:Nat}{R:AE}(h:E K true t ρ d)(hn:R.nx (ρ.set i (.val d))):W K (aM8 t (U1 i)) ρ R:=bR3 (ρ' := ρ.set i (.val d)) h D7 hn
theorem Q3 {R:AE}(h:E K true t ρ d)(hn:R.rt d):W K (cQ0 t) ρ R:=λS B D σ H o I s=>
 h S B σ H o I _ λv H' s' r=>s.rt v d H' (L2.Same.tr I.base s') (r.mono (D9 (L2.Same.rf _) λb z _=>.inl z)) hn
theorem aZ7 {R:AE}(h:EF K t ρ ds)(hn:R.rl ds):W K (cQ0 t) ρ R:=λS B D σ H o I s=>
 h S B σ H o I _ λp xs H' s' n e r=>s.rl p xs ds H' (L2.Same.tr I.base s') (Y5 I.base n) e (r.mono (D9 (L2.Same.rf _) λb z _=>z.imp .inl id)) hn
theorem dA5 {i:Nat}{R:AE}(h:ρ[i]? = some (.own ds))(hn:R.rl ds):W K (cQ0 (Q7 i)) ρ R:=λS B D σ H o I s=>by
 obtain ⟨p,hp,a,xs,b,c⟩:=I.own i ds h;exact⟨_,a,s.rl _ xs ds H I.base (I.new i _ h rfl _ (by rw[hp];simp)) b (c.mono (D9 (L2.Same.rf _) λb z _=>z.elim .inl λe=>.inr ⟨i,_,h,rfl,by rw[hp,e];simp⟩)) hn⟩
theorem aC3 {c:TT}{t u:TS}{b:Bool}{R:AE}(h:T K c ρ b)(h1:b=true->W K t ρ R)(h2:b=false->W K u ρ R):W K (cF2 c t u) ρ R:=λS B D σ H o I s=>h S B σ H o I _ λH' s'=>by
 cases b with
 | true=>exact h1 rfl S B D σ H' o (I.grow s') s
 | false=>exact h2 rfl S B D σ H' o (I.grow s') s
theorem W.weak {t:TS}{R R':AE}(h:W K t ρ R)(h1:∀ρ,R.nx ρ->R'.nx ρ)(h2:∀d,R.rt d->R'.rt d)(h3:∀d,R.rl d->R'.rl d)(h4:∀ρ,R.bk ρ->R'.bk ρ)(h5:∀ρ,R.ct ρ->R'.ct ρ):W K t ρ R':=λS B D σ H o I s=>
 h S B D σ H o I ⟨λρ' σ' H' o' I' w=>s.nx ρ' σ' H' o' I' (h1 _ w),λv d H' a b c=>s.rt v d H' a b (h2 _ c),λp xs ds H' a b c e w=>s.rl p xs ds H' a b c e (h3 _ w),λρ' σ' H' o' I' w=>s.bk ρ' σ' H' o' I' (h4 _ w),λρ' σ' H' o' I' w=>s.ct ρ' σ' H' o' I' (h5 _ w)⟩
def bB0 (o:Nat->List Addr)(i:Nat)(L:List Addr)(j:Nat):List Addr:=if j=i then L else o j
theorem W2 {o:Nat->List Addr}{i:Nat}{L:List Addr}:bB0 o i L i=L:=if_pos rfl
theorem V5 {o:Nat->List Addr}{i j:Nat}{L:List Addr}(h:i≠j):bB0 o i L j=o j:=if_neg λz=>h z.symm
def Holds (K:PySem.W.Frag)(Z H:Hp)(v:V)(x:Sl)(L:List Addr):Prop:=
 (∃ds p xs,x=.own ds/\L=[p]/\v=.ref p/\H p=some (.lst xs)/\Reps K Z xs ds)\/∃t,x=.tr t/\L.Nodup/\Dp K Z H v t L
theorem Holds.os {Z H:Hp}{v:V}{x:Sl}{L:List Addr}(h:Holds K Z H v x L):x.os=true:=by
 rcases h with ⟨ds,p,xs,rfl,_⟩ | ⟨t,rfl,_⟩ <;> rfl
def cF6 (ρ:List Sl)(o:Nat->List Addr)(i:Nat)(b:Addr):Prop:=∃y,ρ[i]? = some y/\y.os=true/\b∈o i
theorem Env.put {S:Addr->Prop}{B H H':Hp}{σ:St}{o:Nat->List Addr}{v:V}{x:Sl}{L:List Addr}(I:Env K S B H σ ρ o)(i:Nat)(hi:i<ρ.length)(D:Addr->Prop)(hD:∀b,D b->cF6 ρ o i b)
  (hH:∀b y,H b=some y->¬D b->H' b=some y) (hL:∀b∈L,cF6 ρ o i b\/H b=none) (hx:Holds K (hid (λb=>C8 ρ o S b\/b∈L) H') H' v x L)
  (nb:(∀b,¬D b)\/∀(j:Nat) (d:PyData),ρ[j]?≠some (Sl.bor d)):Env K S B H' (σ.set i (some v)) (ρ.set i x) (bB0 o i L):=by
 have hos:=hx.os
 have at_:∀{j:Nat} {y:Sl},i≠j->(ρ.set i x)[j]? = some y->ρ[j]? = some y:=λ{j y} c h=>by rw[Ac9 c]at h;exact h
 have self:(ρ.set i x)[i]? = some x:=List.getElem?_set_self hi
 have sub:∀b,C8 (ρ.set i x) (bB0 o i L) S b->C8 ρ o S b\/b∈L:=λb z=>by
  rcases z with z | ⟨j,y,h,hy,e'⟩
  ·exact .inl (.inl z)
  ·by_cases c:i=j
   ·subst c;rw[W2]at e';exact .inr e'
   ·rw[V5 c]at e';exact .inl (.inr ⟨j,y,at_ c h,hy,e'⟩)
 have own_:∀b,cF6 ρ o i b->C8 ρ o S b:=λb ⟨y,h1,h2,h3⟩=>.inr ⟨i,y,h1,h2,h3⟩
 have g:Same (hid (C8 ρ o S) H) (hid (C8 (ρ.set i x) (bB0 o i L) S) H'):=λb y q=>by
  obtain ⟨a,q⟩:=hid_some.mp q;refine hid_some.mpr ⟨λz=>?_,hH b y q λz=>a (own_ b (hD b z))⟩
  rcases sub b z with z | z
  ·exact a z
  ·rcases hL b z with z | z
   ·exact a (own_ b z)
   ·rw[z]at q;cases q
 have ht:∀a ys,Rd H a (.tup ys)->Rd H' a (.tup ys):=λa ys r=>by
  have n:¬D a:=λz=>by
   obtain ⟨zs,e⟩:=I.lists a (own_ a (hD a z));rcases r with r | ⟨o,r⟩ <;> rw[e]at r <;> replace r:=Ab4 r
   ·exact HM.nt r
   ·exact HM.nf r
  rcases r with r | ⟨o,r⟩
  ·exact .inl (hH _ _ r n)
  ·exact .inr ⟨o,hH _ _ r n⟩
 have far:∀{j:Nat} {y:Sl},i≠j->ρ[j]? = some y->y.os=true->∀b∈o j,¬D b:=λ{j y} c h hy b hb z=>by
  obtain ⟨w,h1,h2,h3⟩:=hD b z;exact c (I.inj i j w y h1 h h2 hy b h3 hb)
 have kept:∀{j:Nat} {y:Sl},i≠j->ρ[j]? = some y->y.os=true->∀b∈o j,H' b=H b:=λ{j y} c h hy b hb=>by
  obtain ⟨zs,e⟩:=I.lists b (.inr ⟨j,y,h,hy,hb⟩);rw[e];exact hH _ _ e (far c h hy b hb)
 have notL:∀{j:Nat} {y:Sl},i≠j->ρ[j]? = some y->y.os=true->∀b∈o j,b∉L:=λ{j y} c h hy b hb z=>by
  rcases hL b z with ⟨w,h1,h2,h3⟩ | z
  ·exact c (I.inj i j w y h1 h h2 hy b h3 hb)
  ·obtain ⟨zs,e⟩:=I.lists b (.inr ⟨j,y,h,hy,hb⟩);rw[z]at e;cases e
 have base:Same B H':=λb y q=>hH b y (I.base b y q) λz=>by
  obtain ⟨w,h1,h2,h3⟩:=hD b z;rw[I.new i w h1 h2 b h3]at q;cases q
 refine⟨by simp[I.len],base,I.sl,λj y h hy b hb=>?_,λj k y z h h' hy hz b hb hb'=>?_,λj es h=>?_,λj d' h=>?_,λj d' h=>?_,λj t h=>?_⟩
 ·by_cases c:i=j
  ·subst c;rw[W2]at hb;rcases hL b hb with ⟨w,h1,h2,h3⟩ | z
   ·exact I.new i w h1 h2 b h3
   ·exact Y5 I.base z
  ·rw[V5 c]at hb;exact I.new j y (at_ c h) hy b hb
 ·by_cases c:i=j
  ·subst c;by_cases c':i=k
   ·exact c'
   ·rw[W2]at hb;rw[V5 c']at hb';exact absurd hb (notL c' (at_ c' h') hz b hb')
  ·by_cases c':i=k
   ·subst c';rw[W2]at hb';rw[V5 c]at hb;exact absurd hb' (notL c (at_ c h) hy b hb)
   ·rw[V5 c]at hb;rw[V5 c']at hb';exact I.inj j k y z (at_ c h) (at_ c' h') hy hz b hb hb'
 ·by_cases c:i=j
  ·subst c;rw[self]at h;cases h;rw[W2];rcases hx with ⟨ds,p,xs,e,h2,h3,h4,h5⟩ | ⟨t,e,_⟩
   ·cases e
    exact⟨p,h2,by rw[List.getElem?_set_self (by rw[I.len];exact hi),h3],xs,h4,h5.mono (D9 (L2.Same.rf _) λb z _=>sub b z)⟩
   ·cases e
  ·rw[V5 c];obtain ⟨p,o',a,ys,b,r'⟩:=I.own j es (at_ c h);exact⟨p,o',by rw[Ac9 c];exact a,ys,by rw[kept c (at_ c h) rfl p (by rw[o'];simp)];exact b,r'.mono g⟩
 ·by_cases c:i=j
  ·subst c;rw[self]at h;cases h;cases hos
  ·obtain ⟨u,a,b⟩:=I.val j d' (at_ c h);exact⟨u,by rw[Ac9 c];exact a,b.mono g⟩
 ·by_cases c:i=j
  ·subst c;rw[self]at h;cases h;cases hos
  ·rcases nb with nb | nb
   ·obtain ⟨u,a,b⟩:=I.bor j d' (at_ c h);exact⟨u,by rw[Ac9 c];exact a,b.mono λb y q=>hH b y q (nb b)⟩
   ·exact absurd (at_ c h) (nb j d')
 ·by_cases c:i=j
  ·subst c;rw[self]at h;cases h;rw[W2];rcases hx with ⟨ds,p,xs,e,_⟩ | ⟨t',e,h2,h3⟩
   ·cases e
   ·cases e
    exact⟨h2,v,List.getElem?_set_self (by rw[I.len];exact hi),h3.mono (D9 (L2.Same.rf _) λb z _=>sub b z) (L2.Same.rf _)⟩
  ·rw[V5 c];obtain ⟨n,u,a,b⟩:=I.tr j t (at_ c h);exact⟨n,u,by rw[Ac9 c];exact a,aC8 g ht t (kept c (at_ c h) rfl) b⟩
theorem Env.setF {S:Addr->Prop}{B H H':Hp}{σ:St}{o:Nat->List Addr}{p:Addr}{xs:List V}(I:Env K S B H σ ρ o)(i:Nat)(s:Same H H')(n:H p=none)(e:H' p=some (.lst xs))(r:Reps K (hid (λb=>C8 ρ o S b\/b=p) H') xs ds)(hi:i<ρ.length) :
  Env K S B H' (σ.set i (some (.ref p))) (ρ.set i (.own ds)) (bB0 o i [p]):=
 I.put i hi (λ_=>False) (λ_ z=>z.elim) (λb y q _=>s b y q) (λb z=>.inr (by rw[Ad6.mp z];exact n)) (.inl ⟨ds,p,xs,rfl,rfl,rfl,e,r.mono (D9 (L2.Same.rf _) λb z _=>z.imp id λz=>Ad6.mp z)⟩) (.inl λ_ z=>z)
theorem bF9 {α:Type}{l:List α}{i:Nat}{a:α}(h:l[i]? = some a):l.set i a=l:=by
 obtain ⟨h1,h2⟩:=Ab0.mp h;rw[<- h2];exact List.set_getElem_self h1
theorem K2 {i:Nat}{R:AE}(h:EF K t ρ ds)(hn:R.nx (ρ.set i (.own ds)))(hi:i<ρ.length:=by first | decide | (simp;done) | (simp[LV.sl0];done)):W K (aM8 t (U1 i)) ρ R:=λS B D σ H o I s=>
 h S B σ H o I _ λp xs H' s' n e r=>s.nx _ _ H' _ (I.setF i s' n e r hi) hn
theorem Env.upd {S:Addr->Prop}{B H:Hp}{σ:St}{o:Nat->List Addr}{i:Nat}{p:Addr}{xs:List V}(I:Env K S B H σ ρ o)(h:ρ[i]? = some (.own ds))(hp:o i=[p])(r:Reps K (hid (C8 ρ o S) H) xs es)(nb:∀(j:Nat) (d:PyData),ρ[j]?≠some (Sl.bor d)) :
  Env K S B (upd H p (.lst xs)) σ (ρ.set i (.own es)) (bB0 o i [p]):=by
 have hi:i<ρ.length:=(Ab0.mp h).1
 obtain ⟨p',hp',a,ys,b,c⟩:=I.own i ds h;rw[hp]at hp';cases hp';have oi:cF6 ρ o i p:=⟨_,h,rfl,by rw[hp];simp⟩
 have os:C8 ρ o S p:=.inr ⟨i,_,h,rfl,by rw[hp];simp⟩
 have:=I.put (H':=L2.upd H p (.lst xs)) (v:=.ref p) (x:=.own es) (L:=[p]) i hi (λb=>b=p) (λb z=>by rw[z];exact oi) (λb y q z=>by rw[B1 z];exact q) (λb z=>.inl (by rw[Ad6.mp z];exact oi))
  (.inl ⟨es,p,xs,rfl,rfl,rfl,B7,r.mono λb y q=>by
   obtain ⟨q1,q2⟩:=hid_some.mp q;refine hid_some.mpr ⟨λz=>q1 (z.elim id λz=>by rw[Ad6.mp z];exact os),?_⟩
   rw[B1 (λz=>q1 (by rw[z];exact os))];exact q2⟩) (.inr nb)
 rw[bF9 a]at this;exact this
def X4:List Sl->Bool
 | []=>true
 | .bor _::_=>false
 | _::r=>X4 r
theorem O3:∀{ρ:List Sl},X4 ρ=true->∀(j:Nat) (d:PyData),ρ[j]?≠some (Sl.bor d)
 | [],_,j,d=>by simp
 | .bor _::_,h,_,_=>by cases h
 | .no::r,h,0,d=>by simp
 | .no::r,h,j+1,d=>by simpa using O3 (ρ:=r) h j d
 | .val _::r,h,0,d=>by simp
 | .val _::r,h,j+1,d=>by simpa using O3 (ρ:=r) h j d
 | .own _::r,h,0,d=>by simp
 | .own _::r,h,j+1,d=>by simpa using O3 (ρ:=r) h j d
 | .tr _::r,h,0,d=>by simp
 | .tr _::r,h,j+1,d=>by simpa using O3 (ρ:=r) h j d
theorem d4 {i:Nat}{R:AE}(hi:ρ[i]? = some (.own ds))(h:E K true t ρ d)(hl:ds.length<sizeLine)(hn:R.nx (ρ.set i (.own (ds++[d]))))(nb:X4 ρ=true:=by rfl) :
  W K (bE1 (tBM K "list" aG7 (Q7 i) (N0 t p8))) ρ R:=λS B D σ H o I s=>by
 obtain ⟨p,hp,a,xs,b,c⟩:=I.own i ds hi;refine⟨_,a,.inl ⟨rfl,xs,SqL.of b⟩,?_⟩;refine h S B σ H o I _ λv H' s' r=>?_
 refine⟨_,xs,v,rfl,rfl,s' _ _ b,by rw[c.length];exact hl,?_⟩
 exact s.nx _ σ _ _ ((I.grow s').upd hi hp ((c.mono (M9 s')).append (.cons r .nil)) (O3 nb)) hn
theorem aX5 {S:Addr->Prop}{H:Hp}{o:Nat->List Addr}{i:Nat}{p:Addr}{xs:List V}(hi:ρ[i]? = some (.own ds))(hp:o i=[p]):Same (hid (C8 ρ o S) H) (hid (C8 (ρ.set i (.own es)) (bB0 o i [p]) S) (L2.upd H p (.lst xs))):=λb' x q=>by
 obtain ⟨q1,q2⟩:=hid_some.mp q;refine hid_some.mpr ⟨λz=>q1 ?_,?_⟩
 ·rcases z with z | ⟨k,y,h',hy,e'⟩
  ·exact .inl z
  ·by_cases ck:i=k
   ·subst ck;rw[W2,<- hp]at e';exact .inr ⟨i,_,hi,rfl,e'⟩
   ·rw[Ac9 ck]at h';rw[V5 ck]at e';exact .inr ⟨k,y,h',hy,e'⟩
 ·rw[B1 (λz=>q1 (.inr ⟨i,_,hi,rfl,by rw[hp,z];simp⟩))];exact q2
theorem dE6 {i j:Nat}{R:AE}(hi:ρ[i]? = some (.own (ds++[d])))(hn:R.nx ((ρ.set i (.own ds)).set j (.val d)))(nb:X4 ρ=true:=by rfl) :
  W K (aM8 (cY9 K "list" cZ5 (Q7 i)) (U1 j)) ρ R:=λS B D σ H o I s=>by
 obtain ⟨p,hp,a,xs,b,c⟩:=I.own i _ hi;have hl:=c.length;obtain ⟨y,h1,h2⟩:=c.get' (i:=ds.length) (d:=d) (by simp)
 refine⟨_,a,.inl ⟨rfl,xs,SqL.of b⟩,_,xs,y,rfl,rfl,b,?_,?_⟩
 ·rw[hl];simpa using h1
 ·have c':=c.dropLast
  rw[List.dropLast_concat]at c';have I':=I.upd hi hp c' (O3 nb);refine s.nx _ _ _ _ (Env.set (m:=true) I' j (h2.mono ?_)) hn;exact aX5 hi hp
theorem Z8 {wi:TI}{g:TG}{tb:TS}{R:AE}(hi:I K true wi ρ ds)(P:Nat->List Sl->Prop)(h0:P 0 ρ)
  (turn:∀i d ρ',ds[i]? = some d->P i ρ'->∃ρ'',G K true g d ρ' ρ''/\W K tb ρ'' {R with nx:=P (i+1),ct:=P (i+1),bk:=R.nx}) (hn:∀ρ',P ds.length ρ'->R.nx ρ'):W K (dF8 wi g tb) ρ R:=λS B D σ H o I0 s=>
 hi S B σ H o I0 _ λJ H1 s1 wk=>by
  obtain ⟨I1,sb⟩:=(I0.grow s1).rebase;generalize hB:hid (cB9 ρ o) H1=B' at I1 sb;have sz:Same (hid (C8 ρ o S) H1) B':=λb x q=>by
   obtain ⟨q1,q2⟩:=hid_some.mp q;rw[<- hB];exact hid_some.mpr ⟨λz=>q1 (.inr z),q2⟩
  refine⟨λi m σ' H'=>i<=ds.length/\m=ds.length-i/\∃ρ' o',Env K S B' H' σ' ρ' o'/\P i ρ',⟨_,Nat.zero_le _,rfl,ρ,o,I1,h0⟩,?_⟩
  rintro i k σ' H' ⟨hl,rfl,ρ',o',I',p⟩;have zH:=L2.Same.tr sz I'.base;by_cases c:i=ds.length
  ·subst c;exact .inl ⟨wk.stop _ _ zH (Aa7 _),s.nx ρ' σ' H' o' ⟨I'.len,L2.Same.tr sb I'.base,λb z=>(I0.sl b z),λi ds z hz b hb=>Y5 sb (I'.new i ds z hz b hb),I'.inj,I'.own,I'.val,I'.bor,I'.tr⟩ (hn ρ' p)⟩
  ·have hlt:i<ds.length:=by omega
   have hd:ds[i]? = some ds[i]:=Aa2 hlt
   obtain ⟨ρ'',hg,hb⟩:=turn i ds[i] ρ' hd p;refine .inr ⟨wk.go _ _ _ zH hd,λσ2 H2=>∃ρ2 o2,Env K S B' H2 σ2 ρ2 o2/\P (i+1) ρ2,λσ2 H2 ⟨ρ2,o2,I2,p2⟩=>⟨_,by omega,hlt,rfl,ρ2,o2,I2,p2⟩,λx H'' hy=>?_⟩
   obtain ⟨s2,hx⟩:=wk.yld _ _ _ _ _ zH hd hy;have rx:=hx (C8 ρ' o' S) λb z=>by
    obtain ⟨ys,y⟩:=I'.lists b z;refine⟨?_,by rw[y];simp⟩
    rcases z with z | ⟨j,es,h',hy,e'⟩
    ·unfold vw hid;exact if_pos (.inl z)
    ·exact Y5 sz (I'.new j es h' hy b e')
   refine hg.2 S B' σ' H'' o' (I'.grow s2) x rx _ λσ2 I2=>hb S B' _ σ2 H'' o' I2 ⟨λρ3 σ3 H3 o3 I3 w=>⟨ρ3,o3,I3,w⟩,λv d H3 a b w=>s.rt v d H3 (L2.Same.tr sb a) b w,λp xs es H3 a b c e w=>s.rl p xs es H3 (L2.Same.tr sb a) (Y5 sb b) c e w,
    λρ3 σ3 H3 o3 I3 w=>s.nx ρ3 σ3 H3 o3 ⟨I3.len,L2.Same.tr sb I3.base,λb z=>(I0.sl b z),λi ds z hz b hb=>Y5 sb (I3.new i ds z hz b hb),I3.inj,I3.own,I3.val,I3.bor,I3.tr⟩ w,λρ3 σ3 H3 o3 I3 w=>⟨ρ3,o3,I3,w⟩⟩
theorem bR9 {c:TT}{tb:TS}{R:AE}(P:Nat->List Sl->Prop)(h0:∃k,P k ρ)
  (turn:∀k ρ',P k ρ'->∃b,T K c ρ' b/\if b=true then W K tb ρ' {R with nx:=λρ2=>∃k',k'<k/\P k' ρ2,ct:=λρ2=>∃k',k'<k/\P k' ρ2,bk:=R.nx} else R.nx ρ'):W K (cC2 c tb) ρ R:=λS B D σ H o I0 s=>by
 obtain ⟨k0,p0⟩:=h0;refine⟨λk σ' H'=>∃ρ' o',Env K S B H' σ' ρ' o'/\P k ρ',⟨k0,ρ,o,I0,p0⟩,?_⟩
 rintro k σ' H' ⟨ρ',o',I',p⟩;obtain ⟨b,hc,hb⟩:=turn k ρ' p;refine hc S B σ' H' o' I' _ λH1 s1=>?_
 cases b with
 | true=>
  rw[if_pos rfl]at hb ⊢;refine⟨λσ2 H2=>∃k',k'<k/\∃ρ2 o2,Env K S B H2 σ2 ρ2 o2/\P k' ρ2,λσ2 H2 ⟨k',hk,z⟩=>⟨k',hk,z⟩,?_⟩
  exact hb S B _ σ' H1 o' (I'.grow s1) ⟨λρ3 σ3 H3 o3 I3 ⟨k',hk,w⟩=>⟨k',hk,ρ3,o3,I3,w⟩,s.rt,s.rl,s.nx,λρ3 σ3 H3 o3 I3 ⟨k',hk,w⟩=>⟨k',hk,ρ3,o3,I3,w⟩⟩
 | false=>
  rw[if_neg Bool.false_ne_true]at hb ⊢;exact s.nx ρ' σ' H1 o' (I'.grow s1) hb
end
section
variable {K:PySem.W.Frag}{ρ ρ' ρ1:List Sl}{m m':Bool}{t ta tb tc:TE}{d d':PyData}{ds es:List PyData}
def cap:Sl->Sl
 | .own ds=>.bor (.list ds)
 | .tr t=>.bor t.data
 | x=>x
def slC (ρ:List Sl)(n:Nat)(is:List Nat):List Sl:=List.replicate n .no++is.map λi=>cap ((ρ[i]?).getD .no)
theorem aZ4 {n:Nat}{is:List Nat}{j:Nat}{x:Sl}(h:(slC ρ n is)[j]? = some x)(hx:x≠.no):n<=j/\∃i y,is[j-n]? = some i/\ρ[i]? = some y/\cap y=x:=by
 unfold slC at h;by_cases c:j<n
 ·rw[List.getElem?_append_left (by simpa using c),List.getElem?_replicate,if_pos c]at h
  exact absurd (Ab4 h).symm hx
 ·rw[List.getElem?_append_right (by simpa using c),List.length_replicate,Aa9]at h
  refine⟨by omega,?_⟩
  cases e:is[j-n]? with
  | none=>rw[e]at h;cases h
  | some i=>
   rw[e]at h;have h:cap ((ρ[i]?).getD .no)=x:=Ab4 h;cases e':ρ[i]? with
   | none=>rw[e']at h;exact absurd h.symm hx
   | some y=>rw[e']at h;exact⟨i,y,rfl,e',h⟩
theorem cM4 {n:Nat}{is:List Nat}{j:Nat}{x:Sl}(h:(slC ρ n is)[j]? = some x):x.os=false:=by
 cases x with
 | own ds=>
  obtain ⟨_,i,y,_,_,e⟩:=aZ4 h (by simp)
  cases y <;> simp[cap]at e
 | tr t=>
  obtain ⟨_,i,y,_,_,e⟩:=aZ4 h (by simp)
  cases y <;> simp[cap]at e
 | _=>rfl
theorem aK1 {n:Nat}{is:List Nat}{j:Nat}{x:Sl}{P:Prop}(h:(slC ρ n is)[j]? = some x)(hx:x.os=true):P:=by rw[cM4 h]at hx;cases hx
theorem Env.comp {S:Addr->Prop}{B H:Hp}{σ:St}{o:Nat->List Addr}(I:Env K S B H σ ρ o)(n:Nat)(is:List Nat):Env K (C8 ρ o S) H H (stC n is σ) (slC ρ n is) o:=by
 have st:∀(j:Nat) (i:Nat) v,n<=j->is[j-n]? = some i->σ[i]? = some v->(stC n is σ)[j]? = some v:=λj i v hj hi hv=>by
  unfold stC;rw[List.getElem?_append_right (by simpa using hj),List.length_replicate,Aa9,hi]
  simp[hv]
 have g:Same (hid (C8 ρ o S) H) (hid (C8 (slC ρ n is) o (C8 ρ o S)) H):=D9 (L2.Same.rf _) λb z _=>by
  rcases z with z | ⟨j,es,h,hy,_⟩
  ·exact z
  ·exact aK1 h hy
 refine⟨by simp[stC,slC],L2.Same.rf _,I.lists,λj es h hx=>aK1 h hx,λj k es fs h _ hx=>aK1 h hx,λj es h=>aK1 h rfl,λj d h=>?_,λj d h=>?_,λj t h=>aK1 h rfl⟩
 ·obtain ⟨hj,i,y,hi,hy,e⟩:=aZ4 h (by simp)
  cases y with
  | val d'=>
   cases e
   obtain ⟨v,a,b⟩:=I.val i d hy;exact⟨v,st j i _ hj hi a,b.mono g⟩
  | _=>simp[cap]at e
 ·obtain ⟨hj,i,y,hi,hy,e⟩:=aZ4 h (by simp)
  cases y with
  | bor d'=>
   cases e
   obtain ⟨v,a,b⟩:=I.bor i d hy;exact⟨v,st j i _ hj hi a,b⟩
  | own es=>
   cases e
   obtain ⟨p,hp,a,xs,b,c⟩:=I.own i es hy;exact⟨_,st j i _ hj hi a,.lst (SqL.of b) (c.mono X6)⟩
  | tr t=>
   cases e
   obtain ⟨_,v,a,b⟩:=I.tr i t hy;exact⟨_,st j i _ hj hi a,bL4 X6 (λ_ _ z=>z) X6 t (λ_ _=>rfl) b⟩
  | _=>simp[cap]at e
def bE3 (K:PySem.W.Frag)(m:Bool)(ρ:List Sl)(g:TG)(tt:TT)(te:TE)(d:PyData)(r:Option PyData):Prop:=
 ∃ρ',G K m g d ρ ρ'/\match r with
  | none=>T K tt ρ' false
  | some y=>T K tt ρ' true/\E K true te ρ' y
theorem Y9 {wi:TI}{n:Nat}{is:List Nat}{g:TG}{tt:TT}{te:TE}(f:PyData->Option PyData)(hi:I K m wi ρ ds)(hl:ds.length<sizeLine)(body:∀d∈ds,bE3 K m (slC ρ n is) g tt te d (f d)):EF K (bT4 wi n is g tt te) ρ (ds.filterMap f):=λS B σ H o I0 Q q=>
 hi S B σ H o I0 _ λJ H1 s1 wk=>by
  have IC:=(I0.grow s1).comp n is
  generalize hS:C8 ρ o S=S' at IC wk q;have lists:∀b,S' b->∃u:HM,H1 b=some u.ho:=by rw[<- hS];exact(I0.grow s1).lists
  refine⟨λi k ys H2=>i<=ds.length/\k=ds.length-i/\Same H1 H2/\ys.length<=i/\Reps K (hid S' H2) ys ((ds.take i).filterMap f),⟨_,Nat.zero_le _,rfl,L2.Same.rf _,Aa7 _,by simpa using Reps.nil⟩,?_⟩
  rintro i k ys H2 ⟨hil,rfl,s2,hy,r⟩;refine⟨by omega,?_⟩
  have zH:Same (vw m S' H1) H2:=L2.Same.tr aE7 s2
  by_cases c:i=ds.length
  ·subst c;refine .inl ⟨wk.stop _ _ zH (Aa7 _),λD hD=>?_⟩
   rw[List.take_length]at r;exact q D ys _ (L2.Same.tr (L2.Same.tr s1 s2) (E6 hD)) (Y5 (L2.Same.tr s1 s2) hD) B7 (aX2 (λb z=>by obtain ⟨xs,e⟩:=lists b z;exact⟨xs,s2 _ _ e⟩) hD r)
  ·have hlt:i<ds.length:=by omega
   have hd:ds[i]? = some ds[i]:=Aa2 hlt
   have take:(ds.take (i+1)).filterMap f=(ds.take i).filterMap f++(f ds[i]).toList:=by
    rw[List.take_succ_eq_append_getElem hlt,List.filterMap_append];cases hf:f ds[i] <;> simp[List.filterMap_cons,hf]
   obtain ⟨ρ',hg,hb⟩:=body ds[i] (List.getElem_mem hlt);refine .inr ⟨wk.go _ _ _ zH hd,λx H3 hx=>?_⟩
   obtain ⟨s3,hr⟩:=wk.yld _ _ _ _ _ zH hd hx;have I3:Env K S' H1 H3 (stC n is σ) (slC ρ n is) o:=IC.grow (L2.Same.tr s2 s3);have eqS:∀b,C8 (slC ρ n is) o S' b->S' b:=λb z=>by
    rcases z with z | ⟨j,es,h,hy,_⟩
    ·exact z
    ·exact aK1 h hy
   have rx:Rep K (vw m (C8 (slC ρ n is) o S') H3) x ds[i]:=by
    cases m with
    | false=>
     have:=hr (λ_=>False) λb z=>z.elim
     rw[bZ1]at this;exact this
    | true=>
     refine hr _ λb z=>?_
     have z':=eqS b z
     obtain ⟨xs,e⟩:=lists b z';exact⟨by unfold vw hid;exact if_pos z',by rw[s2 _ _ e];simp⟩
   refine hg.2 S' H1 _ H3 o I3 x rx _ λσ4 I4=>?_
   cases hf:f ds[i] with
   | none=>
    rw[hf]at hb take;refine hb S' H1 σ4 H3 o I4 _ λH5 s5=>?_
    rw[if_neg Bool.false_ne_true];refine⟨_,by omega,hlt,rfl,L2.Same.tr s2 (L2.Same.tr s3 s5),by omega,?_⟩
    rw[take];simpa using r.mono (M9 (L2.Same.tr s3 s5))
   | some y=>
    rw[hf]at hb take;refine hb.1 S' H1 σ4 H3 o I4 _ λH5 s5=>?_
    rw[if_pos rfl];refine hb.2 S' H1 σ4 H5 o (I4.grow s5) _ λv H6 s6 rv=>?_
    have s36:=L2.Same.tr s3 (L2.Same.tr s5 s6)
    refine⟨_,by omega,hlt,rfl,L2.Same.tr s2 s36,by simp;omega,?_⟩
    rw[take];refine(r.mono (M9 s36)).append (.cons (rv.mono (D9 (L2.Same.rf _) λb z _=>.inl z)) .nil)
theorem aD9:T K aO4 ρ true:=λS B σ H o I Q q=>q H (L2.Same.rf _)
def sl0 (n:Nat)(ds:List PyData):List Sl:=ds.map .val++List.replicate (n-ds.length) .no
theorem env0 {S:Addr->Prop}{H:Hp}{N:List Str}{vs:List V}(hS:∀b,S b->∃u:HM,H b=some u.ho)(r:Reps K (hid S H) vs ds):Env K S H H (L2.U9 N vs) (sl0 N.length ds) (λ_=>[]):=by
 have nov:∀(j:Nat) (x:Sl),(sl0 N.length ds)[j]? = some x->x=.no\/∃d,ds[j]? = some d/\x=.val d:=λj x h=>by
  unfold sl0 at h;by_cases c:j<ds.length
  ·rw[List.getElem?_append_left (by simpa using c),Aa9,Aa2 c]at h
   exact .inr ⟨_,Aa2 c,(Ab4 h).symm⟩
  ·rw[List.getElem?_append_right (by simpa using c),List.getElem?_replicate]at h
   split at h
   ·exact .inl (Ab4 h).symm
   ·cases h
 have no1:∀{P:Prop} (j:Nat) (x:Sl),(sl0 N.length ds)[j]? = some x->x.os=true->P:=λj x h hx=>by
  rcases nov j _ h with e | ⟨d,_,e⟩ <;> rw[e]at hx <;> cases hx
 have g:Same (hid S H) (hid (C8 (sl0 N.length ds) (λ_=>[]) S) H):=D9 (L2.Same.rf _) λb z _=>by
  rcases z with z | ⟨j,es,h,hy,_⟩
  ·exact z
  ·exact no1 j es h hy
 refine⟨?_,L2.Same.rf _,hS,λj es h hx=>no1 j es h hx,λj k es fs h _ hx=>no1 j es h hx,λj es h=>no1 j _ h rfl,λj d h=>?_,λj d h=>?_,λj es h=>no1 j _ h rfl⟩
 ·unfold L2.U9 sl0;simp[r.length]
 ·rcases nov j _ h with e | ⟨d',h',e⟩
  ·cases e
  ·cases e
   obtain ⟨v,a,b⟩:=r.get' h';refine⟨v,?_,b.mono g⟩;unfold L2.U9
   have:=(Ab0.mp a).1
   rw[List.getElem?_append_left (by simpa using this),Aa9,a];rfl
 ·rcases nov j _ h with e | ⟨d',_,e⟩ <;> cases e
theorem S6 {t:TS}{N:List Str}{vs:List V}{S:Addr->Prop}{H:Hp}{Q:VK}(hS:∀b,S b->∃u:HM,H b=some u.ho)(r:Reps K (hid S H) vs ds)(w:W K t (sl0 N.length ds) {nx:=λ_=>d=.none,rt:=λe=>e=d})
  (k:∀v H',Same H H'->Rep K (hid S H') v d->Q v H'):t {nx:=λ_ H'=>Q .non H',rt:=Q} (L2.U9 N vs) H:=
 w S H _ _ H _ (env0 hS r) ⟨λρ' σ' H' o' I' z=>k _ H' I'.base (by rw[z];exact .non),λv e H' s r' z=>k v H' s (by rw[<- z];exact r'),λ_ _ _ _ _ _ _ _ z=>z.elim,λ_ _ _ _ _ z=>z.elim,λ_ _ _ _ _ z=>z.elim⟩
theorem bC0 {t:TS}{N:List Str}{vs:List V}{S:Addr->Prop}{H:Hp}{Q:VK}(hS:∀b,S b->∃u:HM,H b=some u.ho)(r:Reps K (hid S H) vs ds)(w:W K t (sl0 N.length ds) {nx:=λ_=>False,rl:=λe=>e=es})
  (k:∀p xs H',Same H H'->H p=none->H' p=some (.lst xs)->Reps K (hid (λb=>S b\/b=p) H') xs es->Q (.ref p) H'):t {nx:=λ_ H'=>Q .non H',rt:=Q} (L2.U9 N vs) H:=
 w S H _ _ H _ (env0 hS r) ⟨λρ' σ' H' o' I' z=>z.elim,λv e H' s r' z=>z.elim,λp xs es' H' s n e r' z=>k p xs H' s n e (by rw[<- z];exact r'),λ_ _ _ _ _ z=>z.elim,λ_ _ _ _ _ z=>z.elim⟩
end
end LV
namespace L2
open PySem PySem.Spec PyProof.Rows
section
variable {X:Cx}
def CMulB (i j:Int):Prop:=i.natAbs<2^512/\j.natAbs<2^512
theorem bR0 {k:Int}(h:k.natAbs<2^512):Builtin.Int.intBits k<=2^20:=by
 unfold Builtin.Int.intBits;split
 ·exact Nat.zero_le _
 ·have:k.natAbs.log2<512:=by
   rcases Nat.eq_zero_or_pos k.natAbs with h0 | hp
   ·rw[h0];decide
   ·exact(Nat.log2_lt (Nat.ne_of_gt hp)).mpr h
  omega
theorem CMulB.ok {i j:Int}(h:CMulB i j):IntMulOk i j:=.of_bits (bR0 h.1) (bR0 h.2)
theorem aI1:OpR X (binaryOp .Mult) (rI CMulB λi j=>.int (i*j)):=opI λ_ _ _ _ _ _ _ hc q=>mul_int q hc.ok
def bJ3:List String:=["int", "bool", "str", "list", "tuple"]
def cY4 (K:PySem.W.Frag)(H:Hp)(T:String):V->Bool->Prop
 | .int _,b=>b=(T == "int")
 | .bl _,b=>b=(T == "int" || T == "bool")
 | .str _,b=>b=(T == "str")
 | .non,b=>b=false
 | .ref p,b=>(∃xs,SqL K H p xs/\b=(T == "list"))\/∃xs,SqT K H p xs/\b=(T == "tuple")
 | _,_=>False
theorem L7 {T:String}(h:T∈bJ3):typeOf (.type T)=pure (.type "type"):=by
 simp only[bJ3,Aa1,Ac2,or_false]at h;rcases h with rfl | rfl | rfl | rfl | rfl
 ·exact meta_int
 ·exact meta_bool
 ·exact meta_str
 ·exact meta_list
 ·exact meta_tuple
theorem aK6 {x:Value}{Tx T:String}{s:Shared}{A:Around}{P:Program}{w:World}{E:Value->Shared->Prop}{Q:Value->Shared->Prop}(h:T∈bJ3)(hx:s.TypeIs x Tx)(hs:isSubtype (.type Tx) (.type T)=pure true)(q:Q (.bool true) s) :
  wpAny (model P w) A (call (.builtin "isinstance") [x,.type T]) Q E s:=call_isinstance (isinstance_true (L7 h) hs) ⟨hx,q⟩
theorem aQ6:W9 X (.builtin "isinstance") (λxs H Q=>∃x T b,xs=[x,.ty T]/\T∈bJ3/\cY4 X.K H T x b/\Q (.bl b) H):=by
 intro pins s σ H xs us Q I r h;obtain ⟨x,T,b,rfl,hT,hv,q⟩:=h;cases r with
 | cons r1 r2=>
  cases r2 with
  | cons r3 r4=>
   cases r4;cases r3
   have ft:EP X pins σ Q (.bool b) s:=⟨.bl b,H,I,rfl,q⟩
   have ff:EP X pins σ Q (.bool b) {s with toks:=s.toks+1}:=⟨.bl b,H,I.tok _,rfl,q⟩
   have hT':=hT
   simp only[bJ3,Aa1,Ac2,or_false]at hT';cases x with
   | int i=>
    obtain ⟨t,rfl⟩:=r1;cases hv;rcases hT' with rfl | rfl | rfl | rfl | rfl
    ·exact aK6 hT (typeIs_int _ _ _) (by rw[isSubtype_type];kernel_rfl) ft
    all_goals exact call_isinstance (isinstance_false_int (by decide) (L7 hT) (by rw[isSubtype_type];kernel_rfl)) ff
   | bl k=>
    cases r1
    cases hv
    rcases hT' with rfl | rfl | rfl | rfl | rfl
    ·exact aK6 hT (PySem.typeIs_bool _ _) (by rw[isSubtype_type];kernel_rfl) ft
    ·exact aK6 hT (PySem.typeIs_bool _ _) (by rw[isSubtype_type];kernel_rfl) ft
    all_goals exact call_isinstance (isinstance_false_bool (by decide) (L7 hT) (by rw[isSubtype_type];kernel_rfl)) ff
   | str z=>
    obtain ⟨t,rfl⟩:=r1;cases hv;rcases hT' with rfl | rfl | rfl | rfl | rfl
    ·exact call_isinstance (isinstance_false_str (by decide) (L7 hT) (by rw[isSubtype_type];kernel_rfl)) ff
    ·exact call_isinstance (isinstance_false_str (by decide) (L7 hT) (by rw[isSubtype_type];kernel_rfl)) ff
    ·exact aK6 hT (typeIs_str _ _ _) (by rw[isSubtype_type];kernel_rfl) ft
    all_goals exact call_isinstance (isinstance_false_str (by decide) (L7 hT) (by rw[isSubtype_type];kernel_rfl)) ff
   | non=>
    cases r1
    cases hv
    rcases hT' with rfl | rfl | rfl | rfl | rfl
    all_goals exact call_isinstance (isinstance_false_none (by decide) (L7 hT) (by rw[isSubtype_type];kernel_rfl)) ff
   | ref p=>
    cases r1
    rcases hv with ⟨ys,hq,rfl⟩ | ⟨ys,hq,rfl⟩
    ·obtain ⟨its,rv,⟨o,n,e,c,_,_⟩,_⟩:=I.list hq;rcases hT' with rfl | rfl | rfl | rfl | rfl
     ·exact call_isinstance (isinstance_false_list (by decide) (L7 hT) (by rw[isSubtype_type];kernel_rfl)) ⟨⟨o,e,c⟩,ff⟩
     ·exact call_isinstance (isinstance_false_list (by decide) (L7 hT) (by rw[isSubtype_type];kernel_rfl)) ⟨⟨o,e,c⟩,ff⟩
     ·exact call_isinstance (isinstance_false_list (by decide) (L7 hT) (by rw[isSubtype_type];kernel_rfl)) ⟨⟨o,e,c⟩,ff⟩
     ·exact aK6 hT (⟨o,e,c⟩:s.TypeIs (.ref p) _) (by rw[isSubtype_type];kernel_rfl) ft
     ·exact call_isinstance (isinstance_false_list (by decide) (L7 hT) (by rw[isSubtype_type];kernel_rfl)) ⟨⟨o,e,c⟩,ff⟩
    ·obtain ⟨its,rv,⟨o,e,c,n,d⟩,_⟩:=I.tuple hq;rcases hT' with rfl | rfl | rfl | rfl | rfl
     ·exact call_isinstance (isinstance_false_tuple (by decide) (L7 hT) (by rw[isSubtype_type];kernel_rfl)) ⟨⟨o,e,c⟩,ff⟩
     ·exact call_isinstance (isinstance_false_tuple (by decide) (L7 hT) (by rw[isSubtype_type];kernel_rfl)) ⟨⟨o,e,c⟩,ff⟩
     ·exact call_isinstance (isinstance_false_tuple (by decide) (L7 hT) (by rw[isSubtype_type];kernel_rfl)) ⟨⟨o,e,c⟩,ff⟩
     ·exact call_isinstance (isinstance_false_tuple (by decide) (L7 hT) (by rw[isSubtype_type];kernel_rfl)) ⟨⟨o,e,c⟩,ff⟩
     ·exact aK6 hT (⟨o,e,c⟩:s.TypeIs (.ref p) _) (by rw[isSubtype_type];kernel_rfl) ft
   | _=>exact hv.elim
end
theorem bE2 {X:Cx}{x:Str}{T:String}{pos:Pos}(hg:Gl X x)(hm:X.mg x=none)(hv:bootBuiltins x=some (.type T))(hn:x≠"__name__" := by decide)(hd:(x==("__debug__" : Str))=false:=by decide):PE X (.Name x pos) (tC (.ty T)):=cM2 (v:=.ty T) hg hm hv rfl hn hd
def AllP {α:Type}(p:α->Prop):List α->Prop
 | []=>True
 | a::l=>p a/\AllP p l
theorem AllP.mem {α:Type}{p:α->Prop}:∀{l:List α},AllP p l->∀a∈l,p a
 | _::_,h,a,ha=>(Aa1.mp ha).elim (λe=>e▸h.1) λz=>AllP.mem h.2 a z
theorem Z5 {β:Type}{x:Str}{v:β}:∀{l:List (Str×β)},l.lookup x=some v->(x,v)∈l
 | [],h=>by cases h
 | (y,u)::l,h=>by
  rw[List.lookup_cons]at h;by_cases e:x==y
  ·rw[e]at h;have e':x=y:=eq_of_beq e;cases h;subst e';exact List.mem_cons_self
  ·have e1:(x==y)=false:=by simpa using e
   rw[e1]at h;exact Ad3 _ (Z5 h)
theorem CScope.of {X:Cx}{scope:Scope}{cl:List (Str×Addr)}{T N':List Str}{is:List Nat}(clos:closureFor scope X.env=pure cl)(kind:scope.kind=.function)
  (c1:scope.names.all (λy=>y.2 != .cell&&(y.2 != .local||scope.names.lookup y.1==some .local))=true) (c3:AllP (λp=>X.env.cells.lookup p.1=some p.2) cl)
  (c4:(relabel scope X.env).names.all (λy=>(y.2 != .cell&&y.2 != .free)||(cl.lookup y.1).isSome)=true) (c5:N'=T++is.map λ(i:Nat)=>((X.N[i]?).getD Str.empty:Str))
  (c6:is.all (λi=>decide (i<X.N.length))=true) (c7:AllP (λi=>∃x,X.N[i]? = some x/\((relabel scope X.env).names.lookup x=some .cell\/(relabel scope X.env).names.lookup x=some .free)/\(X.env.kindOf x=some .cell\/X.env.kindOf x=some .free)) is):CScope X scope cl T is N' where
 clos:=clos
 cell:=λy hy e=>by
  have:=Ac8.mp c1 y hy
  rw[e]at this;simp at this
 kind:=kind
 names:=λy hy e=>by
  have:=Ac8.mp c1 y hy
  rw[e]at this;simp at this;exact this
 cap:=λx c h=>c3.mem (x,c) (Z5 h)
 has:=λx h=>by
  have go:∀k,(relabel scope X.env).names.lookup x=some k->k=.cell\/k=.free->∃c,cl.lookup x=some c:=λk e hk=>by
   have:=Ac8.mp c4 (x,k) (Z5 e)
   rcases hk with rfl | rfl <;> exact Option.isSome_iff_exists.mp this
  rcases h with h | h
  ·exact go _ h (.inl rfl)
  ·exact go _ h (.inr rfl)
 N:=c5
 lt:=λi hi=>of_decide_eq_true (Ac8.mp c6 i hi)
 capt:=λi hi x e=>by
  obtain ⟨y,e',h1,h2⟩:=c7.mem i hi;rw[e]at e';cases e';exact⟨h1,h2⟩
section
variable {X:Cx}
theorem ixK (K:PySem.W.Frag)(h:X.K=K:=by rfl):IxR X (rIx K):=h▸C1
theorem bI3 (K:PySem.W.Frag)(h:X.K=K:=by rfl):W9 X (.builtin "len") (λxs H Q=>∃p ys,xs=[.ref p]/\(SqL K H p ys\/SqT K H p ys)/\Q (.int ys.length) H):=h▸N2
theorem dF5 (K:PySem.W.Frag)(h:X.K=K:=by rfl):W9 X (.builtin "isinstance") (λxs H Q=>∃x T b,xs=[x,.ty T]/\T∈bJ3/\cY4 K H T x b/\Q (.bl b) H):=h▸aQ6
theorem bB2 (K:PySem.W.Frag)(h:X.K=K:=by rfl):SlR X (cJ2 K):=h▸bC5
theorem dG9 (K:PySem.W.Frag)(h:X.K=K:=by rfl):W9 X (.type "tuple") (λxs H Q=>∃p ys,xs=[.ref p]/\((SqL K H p ys/\∀l,H l=none->Q (.ref l) (upd H l (.tup ys)))\/(SqT K H p ys/\Q (.ref p) H))):=h▸S9
theorem bY4 (K:PySem.W.Frag)(h:X.K=K:=by rfl):W9 X (.type "list") (λxs H Q=>∃p ys,xs=[.ref p]/\(SqL K H p ys\/SqT K H p ys)/\∀l,H l=none->Q (.ref l) (upd H l (.lst ys))):=h▸bB6
end
end L2
namespace LV
open PySem L2
section
variable {K:PySem.W.Frag}{ρ ρ' ρ1:List Sl}{m m':Bool}{t ta tb tc:TE}{d d':PyData}{ds es:List PyData}
theorem bH5 {i j:Int}(ha:E K false ta ρ (.int i))(hb:E K false tb ρ (.int j)):E K m (tOp rEq ta tb) ρ (.bool (decide (i=j))):=
 bF7 ha hb λH Q q=>⟨rfl,by
  have:decide (V.int i=V.int j)=decide (i=j):=by simp
  rw[this];exact q _ λ_=>.bl _⟩
theorem cU4 {i j:Int}(ha:E K false ta ρ (.int i))(hb:E K false tb ρ (.int j)):E K m (tOp rNe ta tb) ρ (.bool (!decide (i=j))):=
 bF7 ha hb λH Q q=>⟨rfl,by
  have:decide (V.int i=V.int j)=decide (i=j):=by simp
  rw[this];exact q _ λ_=>.bl _⟩
theorem aS4 {i:Int}(ha:E K false ta ρ (.int i)):E K m (tUn (rU λi=>.int (-i)) ta) ρ (.int (-i)):=E.bor (E.imm (m:=false) λS B σ H o I Q q=>ha S B σ H o I _ λv H1 s1 r=>by
 cases r
 exact⟨i,rfl,q _ H1 s1 (.int _)⟩)
theorem cM5 {r:List V->Hp->VK->Prop}{t:TA}(ha:A K false t ρ ds)(hr:∀(H:Hp) (vs:List V) (Q:VK),Reps K H vs ds->(∀v,(∀H,Rep K H v d)->Q v H)->r vs H Q):E K m (tCB r t) ρ d:=λS B σ H o I Q q=>
 ha S B σ H o I _ λvs H1 s1 rs=>hr H1 vs Q rs λv rv=>q v H1 s1 (rv _)
theorem Z7 {t:TA}(ha:A K false t ρ [d])(h:sq d=some ds:=by rfl):E K m (tCB (λxs H Q=>∃p ys,xs=[.ref p]/\(SqL K H p ys\/SqT K H p ys)/\Q (.int ys.length) H) t) ρ (.int ds.length):=cM5 ha λH vs Q r q=>by
 cases r with
 | cons a b=>
  cases b
  cases a with
  | lst s r=>cases h;exact⟨_,_,rfl,.inl s,by rw[r.length];exact q _ λ_=>.int _⟩
  | tup s r=>cases h;exact⟨_,_,rfl,.inr s,by rw[r.length];exact q _ λ_=>.int _⟩
  | _=>cases h
def cN2 (T:String):PyData->Bool
 | .int _=>T == "int"
 | .bool _=>T == "int" || T == "bool"
 | .str _=>T == "str"
 | .list _=>T == "list"
 | .tuple _=>T == "tuple"
 | _=>false
def xNo:PyData->Bool
 | .dict _=>false
 | _=>true
theorem bQ4 {T:String}(ha:E K false ta ρ d)(hT:T∈bJ3:=by decide)(hn:xNo d=true:=by first | rfl | assumption):E K m (tCB (λxs H Q=>∃x T b,xs=[x,.ty T]/\T∈bJ3/\cY4 K H T x b/\Q (.bl b) H) (N0 ta (N0 (tC (.ty T)) p8))) ρ (.bool (cN2 T d)):=E.bor (E.imm (m:=false) λS B σ H o I Q q=>ha S B σ H o I _ λv H1 s1 r=>by
 refine⟨v,T,cN2 T d,rfl,hT,?_,q _ H1 s1 (.bl _)⟩;cases r with
 | lst s r=>exact .inl ⟨_,s,rfl⟩
 | tup s r=>exact .inr ⟨_,s,rfl⟩
 | exc e=>exact absurd hn (by simp[xNo])
 | ptr=>exact absurd hn (by simp[xNo])
 | adr=>exact absurd hn (by simp[xNo])
 | ins _=>exact absurd hn (by simp[xNo])
 | exd _ _ _=>exact absurd hn (by simp[xNo])
 | dki _ _=>exact absurd hn (by simp[xNo])
 | dic _ _ _=>exact absurd hn (by simp[xNo])
 | _=>rfl)
theorem cO0 {r r':R2}{i j k:Int}{g g':Int->Int->Bool}(ha:E K false ta ρ (.int i))(hb:E K false tb ρ (.int j))(hc:E K false tc ρ (.int k)):E K m (cJ1 (rI0 λi j=>.bl (g i j)) (rI0 λi j=>.bl (g' i j)) ta tb tc) ρ (.bool (g i j&&g' j k)):=
 E.bor (E.imm (m:=false) λS B σ H o I Q q=>ha S B σ H o I _ λv H1 s1 r1=>hb S B σ H1 o (I.grow s1) _ λu H2 s2 r2=>by
  cases r1;cases r2
  refine⟨i,j,rfl,rfl,g i j,rfl,?_⟩;cases h:g i j with
  | false=>rw[if_neg Bool.false_ne_true];exact q _ H2 (L2.Same.tr s1 s2) (by rw[h];exact .bl _)
  | true=>
   rw[if_pos rfl];refine hc S B σ H2 o ((I.grow s1).grow s2) _ λw H3 s3 r3=>?_
   cases r3
   refine⟨j,k,rfl,rfl,q _ H3 (L2.Same.tr s1 (L2.Same.tr s2 s3)) ?_⟩;rw[h,Bool.true_and];exact .bl _)
theorem dE0 (ha:E K false ta ρ d):E K m (tOp (λx y H Q=>y=.non/\Q (.bl (decide (x=.non))) H) ta (tC .non)) ρ (.bool (match d with | .none=>true | _=>false)):=bJ6 false false ha bS7 λS H x y Q _ rx ry q=>by
 cases ry
 refine⟨rfl,q _ H (L2.Same.rf _) ?_⟩;cases rx <;> exact .bl _
theorem bM9 (ha:E K false ta ρ d):E K m (tOp (λx y H Q=>y=.non/\Q (.bl (!decide (x=.non))) H) ta (tC .non)) ρ (.bool (match d with | .none=>false | _=>true)):=bJ6 false false ha bS7 λS H x y Q _ rx ry q=>by
 cases ry
 refine⟨rfl,q _ H (L2.Same.rf _) ?_⟩;cases rx <;> exact .bl _
end
end LV
namespace LV
open PySem PySem.Spec PyProof.Rows L2
section
variable {X:Cx}{pins:List (Addr×Obj)}{σ:L2.St}{H:Hp}{s:Shared}
mutual
theorem R9 (I:Inv X pins σ H s):∀(d:PyData) {v:V} {u:Value},d.canLay0=true->Rep X.K H v d->RelV v u->∃as,Reads s.heap u d as
 | .none,_,_,_,r,q=>by cases r;cases q;exact⟨_,.none⟩
 | .bool _,_,_,_,r,q=>by cases r;cases q;exact⟨_,.bool _⟩
 | .int _,_,_,_,r,q=>by cases r;obtain ⟨t,rfl⟩:=q;exact⟨_,.int _ _⟩
 | .str _,_,_,_,r,q=>by cases r;obtain ⟨t,rfl⟩:=q;exact⟨_,.str _ _⟩
 | .tuple ds,_,_,c,r,q=>by
  cases r with
  | tup sq rs=>
   cases q
   obtain ⟨its,rv,⟨o,e,c',n,d⟩,_⟩:=I.tuple sq;obtain ⟨as,ra⟩:=aF2 I ds (by simpa[PyData.canLay0]using c) rs rv
   exact⟨_,.tuple e c' d (by simpa using ra)⟩
 | .list ds,_,_,c,r,q=>by
  cases r with
  | lst sq rs=>
   cases q
   obtain ⟨its,rv,⟨o,n,e,c',_,d⟩,_⟩:=I.list sq;obtain ⟨as,ra⟩:=aF2 I ds (by simpa[PyData.canLay0]using c) rs rv
   exact⟨_,.list e c' d (by simpa using ra)⟩
 | .dict _,_,_,c,_,_=>by simp[PyData.canLay0]at c
theorem aF2 (I:Inv X pins σ H s):∀(ds:List PyData) {vs:List V} {us:List Value},PyData.canLayAll0 ds=true->Reps X.K H vs ds->Vals vs us->∃as,ReadsAll s.heap us ds as
 | [],_,_,_,r,q=>by cases r;cases q;exact⟨_,.nil⟩
 | d::ds,_,_,c,r,q=>by
  have c':d.canLay0=true/\PyData.canLayAll0 ds=true:=by simpa[PyData.canLayAll0]using c
  cases r with
  | cons a b=>
   cases q with
   | cons a' b'=>
    obtain ⟨as,h1⟩:=R9 I d c'.1 a a';obtain ⟨bs,h2⟩:=aF2 I ds c'.2 b b';exact⟨_,.cons h1 h2⟩
end
def Fit (d:PyData):Prop:=d.canLay0=true/\d.depth<=32
def cB7 (K:PySem.W.Frag)(neg:Bool):R2:=λx y H Q=>∃d e,Rep K H x d/\Rep K H y e/\Fit d/\Fit e/\Q (.bl (if neg then !PyData.eqv d e else PyData.eqv d e)) H
def dC6 (K:PySem.W.Frag)(neg:Bool):R2:=λx y H Q=>∃d e ds,Rep K H x d/\Rep K H y e/\sq e=some ds/\Fit d/\Fit e/\Q (.bl (if neg then !ds.any λz=>PyData.eqv z d else ds.any λz=>PyData.eqv z d)) H
theorem cZ1 (K:PySem.W.Frag){k:Nat}(hr:Room k X.A)(h:X.K=K:=by rfl):OpR X (compareOp .Eq) (cB7 K false):=by
 subst h;intro pins s σ H x y v u Q I rx ry ⟨d,e,hd,he,fd,fe,q⟩;obtain ⟨as,ra⟩:=R9 I d fd.1 hd rx;obtain ⟨bs,rb⟩:=R9 I e fe.1 he ry;exact SeqAt.compareEq_reads ra rb fd.1 fe.1 (by have:=hr.un;have:=fd.2;omega) ⟨.bl _,H,I,rfl,q⟩
theorem aZ9 (K:PySem.W.Frag){k:Nat}(hr:Room k X.A)(h:X.K=K:=by rfl):OpR X (compareOp .NotEq) (cB7 K true):=by
 subst h;intro pins s σ H x y v u Q I rx ry ⟨d,e,hd,he,fd,fe,q⟩;obtain ⟨as,ra⟩:=R9 I d fd.1 hd rx;obtain ⟨bs,rb⟩:=R9 I e fe.1 he ry;exact SeqAt.compareNe_reads ra rb fd.1 fe.1 (by have:=hr.un;have:=fd.2;omega) ⟨.bl _,H,I,rfl,q⟩
theorem bP9 {ds:List PyData}(h:Fit (.list ds)\/Fit (.tuple ds)):PyData.canLayAll0 ds=true/\PyData.depthAll ds<=32:=by
 rcases h with ⟨a,b⟩ | ⟨a,b⟩ <;> simp only[PyData.canLay0,PyData.depth]at a b <;> exact⟨a,by omega⟩
theorem bM6 (K:PySem.W.Frag){k:Nat}(hr:Room k X.A)(h:X.K=K:=by rfl):OpR X (compareOp .In) (dC6 K false):=by
 subst h;intro pins s σ H x y v u Q I rx ry ⟨d,e,ds,hd,he,hs,fd,fe,q⟩;obtain ⟨as,ra⟩:=R9 I d fd.1 hd rx;obtain ⟨bs,rb⟩:=R9 I e fe.1 he ry;have fin:EP X pins σ Q (.bool (ds.any λz=>PyData.eqv z d)) s:=⟨.bl _,H,I,rfl,q⟩
 cases e with
 | list es=>
  cases hs
  have:=bP9 (.inl fe)
  exact SeqAt.in_list_reads rb ra this.1 fd.1 (by have:=hr.un;have:=fd.2;omega) fin
 | tuple es=>
  cases hs
  have:=bP9 (.inr fe)
  exact SeqAt.in_tuple_reads rb ra this.1 fd.1 (by have:=hr.un;have:=fd.2;omega) fin
 | _=>cases hs
theorem W3:∀{l:List Int} {its:List Value},Vals (l.map V.int) its->IntsAre its l
 | [],_,r=>by cases r;exact .nil
 | i::l,_,r=>by
  cases r with
  | cons a b=>
   obtain ⟨t,rfl⟩:=a;exact .cons _ _ (W3 b)
theorem cH0 {k:Int}:∀{l:List Int} {m:Nat} (hm:m<l.length),m<l.idxOf k->l[m]≠k
 | [],m,hm,_=>by simp at hm
 | a::l,m,hm,h=>by
  rw[List.idxOf_cons]at h;by_cases e:a=k
  ·subst e;simp at h
  ·have e1:(a==k)=false:=by simpa using e
   rw[e1]at h;simp only[cond_false]at h;cases m with
   | zero=>simpa using e
   | succ m=>exact cH0 (l:=l) (m:=m) (by simpa using hm) (by omega)
theorem cG8 {A:Around}{P:Program}{w:World}{E:Value->Shared->Prop}{l:Addr}{vs:List Value}{ns:List Int}{Q:Value->Shared->Prop}(hh:A.handled=none)(hl:s.heap.IsList l vs.toArray)(hi:IntsAre vs ns)(hne:0<ns.length)
  (h:∀h' M (t:Tok) tk,(∀b o,s.heap.get? b=some o->h'.get? b=some o)->M∈ns->(∀a,a∈ns->M<=a)->Q (.int M t) {s with heap:=h',toks:=tk}):wpAny (model P w) A (call (.builtin "min") [.ref l]) Q E s:=by
 obtain ⟨xs,e⟩:=hi.allInts.items;have hns:ns=xs.toList.map (·.1):=by rw[<- hi.numsOf,<- nums_intItems,<- e]
 have hsz:0<xs.size:=by
  have h3:=hne;rw[hns,Aa3,Array.length_toList]at h3;exact h3
 rw[e]at hl;refine min_intList hh hl hsz λv h' tk hv hk=>?_
 obtain ⟨t,rfl⟩:=intItems_at hv;obtain ⟨h1,h2⟩:=argBest_lt (numAt xs) (xs.size-1);refine h _ _ t tk hk ?_ λa ha=>?_
 ·rw[hns,numAt_eq];exact getD_mem (by rw[Aa3,Array.length_toList];omega)
 ·rw[hns]at ha;obtain ⟨j,hj,rfl⟩:=mem_getD ha;rw[Aa3,Array.length_toList]at hj;rw[<- numAt_eq];exact h2 j (by omega)
theorem bX3 (K:PySem.W.Frag)(hc:X.calm=true)(h:X.K=K:=by rfl):W9 X (.builtin "min") (λxs H Q=>∃(p:Addr) (l:List Int),xs=[.ref p]/\SqL K H p (l.map V.int)/\l≠[]/\∀M,M∈l->(∀a∈l,M<=a)->Q (.int M) H):=by
 subst h;intro pins s σ H xs us Q I r ⟨p,l,e,hq,hne,q⟩;subst e;obtain ⟨u,rfl,rx⟩:=aE3 r;cases rx;obtain ⟨its,rv,pl,_⟩:=I.list hq;exact cG8 (I.ok.hd hc) pl.isList (W3 rv) (List.length_pos_iff.mpr hne) λh' M t tk hk h1 h2=>⟨.int M,H,I.kept hk,⟨_,rfl⟩,q M h1 h2⟩
theorem bV6 (K:PySem.W.Frag)(h:X.K=K:=by rfl):MtR X "list.index" (λx xs H Q=>∃(p:Addr) (l:List Int) (k:Int),x=.ref p/\xs=[.int k]/\SqL K H p (l.map V.int)/\k∈l/\Q (.int (l.idxOf k)) H):=by
 subst h;intro pins s σ H x xs v us Q I rx rv ⟨p,l,k,e1,e2,hq,hk,q⟩;subst e1;subst e2;cases rx;obtain ⟨u,rfl,t,rfl⟩:=aE3 rv;obtain ⟨its,r,⟨o,n,e,c,dd,d⟩,hz⟩:=I.list hq;obtain ⟨oc,od,odata,osl⟩:=o;dsimp only at c dd d;subst c;subst dd;subst d;have hl:=r.length;rw[Aa3]at hl;have hj:l.idxOf k<l.length:=List.idxOf_lt_length_iff.mpr hk;have at_:∀(j:Nat) (hj:j<its.toArray.size),∃t,its.toArray[j]=Value.int (l[j]'(by simpa[hl]using hj)) t:=λj hj=>by
  have hj':j<l.length:=by simpa[hl]using hj
  obtain ⟨u,h1,t,rfl⟩:=r.get (i:=j) (x:=.int l[j]) (by rw[Aa9,Aa2 hj'];rfl)
  have:=(Ab0.mp h1).2
  exact⟨t,by simpa using this⟩
 have hz':=aK3
 rw[Aa3]at hz;refine call_meets F.slot_list_index ⟨_,e,rfl⟩ F.entry_list_index (F.args_list_index_2 _ _) (SeqAt.list_indexAt p its.toArray n none osl (.int k t) (λy=>match y with | .int i _=>i==k | _=>false) (l.idxOf k) (by simpa[<- hl]using hj) (by omega) ?_ ?_) ⟨e,λy hy=>?_,?_⟩
 ·obtain ⟨t',e'⟩:=at_ (l.idxOf k) (by simpa[<- hl]using hj)
  rw[e'];simp
 ·intro m hm hlt;obtain ⟨t',e'⟩:=at_ m hm;rw[e']
  have:l[m]'(by simpa[hl]using hm)≠k:=λz=>by
   have h1:m<l.length:=by simpa[hl]using hm
   exact cH0 h1 hlt z
  simpa using this
 ·obtain ⟨j,hj,rfl⟩:=Array.mem_iff_getElem.mp hy;obtain ⟨t',e'⟩:=at_ j hj;rw[e'];exact SeqAt.EqAt.int_int _ _ _ _
 ·exact⟨.int _,H,I.tok _,⟨_,rfl⟩,q⟩
end
theorem bB3:∀{vs:List V} {us:List Value},vs.length=us.length->(∀(j:Nat) v u,vs[j]? = some v->us[j]? = some u->RelV v u)->Vals vs us
 | [],[],_,_=>.nil
 | v::vs,u::us,hl,h=>.cons (h 0 v u rfl rfl) (bB3 (by simpa using hl) λj v u e1 e2=>h (j+1) v u (by simpa using e1) (by simpa using e2))
 | [],_::_,hl,_=>by simp at hl
 | _::_,[],hl,_=>by simp at hl
section
variable {X:Cx}
def cT0 (ta:TA):TE:=λσ H Q=>ta σ H λvs H1=>∃i j:Int,vs=[.int i,.int j]/\∀p,H1 p=none->Q (.ref p) (upd H1 p (.rng i j))
theorem cL9 {a b:Expr}{ta:TA}{p pos:Pos}(hg:Gl X "range")(hm:X.mg "range" = none)(ha:PA X [a,b] ta)(hs:starEach [a,b] X.env=[(false,eval a X.env),(false,eval b X.env)]:=by rfl)(hs2:starEach [b] X.env=[(false,eval b X.env)]:=by rfl) :
  PE X (.Call (.Name "range" p) [a,b] [] pos) (cT0 ta):=by
 refine⟨?_⟩;intro pins s σ H Q I h;refine Call_ (o7 I hg hm boot_range (PyProof.Rows.callWith_type1 (thn (ha pos pins s σ H _ I h) λus s1 ⟨vs,H1,I1,r1,q1⟩=>?_) (by rw[hs,hs2]) (by rw[hs2];rfl)))
 obtain ⟨i,j,e,q⟩:=q1;subst e;cases r1 with
 | cons r rr=>
  cases rr with
  | cons r' rr=>
   cases rr
   obtain ⟨t,rfl⟩:=r;obtain ⟨t',rfl⟩:=r';refine call_range_2 ?_;refine⟨.ref _,_,I1.laid (λb o e=>Aa6 _ e) (Aa7 _) (show ObjOk X.prog X.w _ _ _ (.rng i j) from⟨_,_,_,Ac3 _ rfl⟩),rfl,q _ (I1.hok.fresh (Aa7 _))⟩
def aE6 (lo:Int)(n:Nat):List V:=(List.range n).map λ(k:Nat)=>V.int (lo+(k:Int))
theorem aU1 (hc:X.calm=true):W9 X (.type "list") (λxs H Q=>∃(r:Addr) (i j:Int),xs=[.ref r]/\H r=some (.rng i j)/\(-(2^62)<=i/\i<2^62 /\ -(2^62)<=j/\j<2^62/\j-i<=1000000)/\∀l,H l=none->Q (.ref l) (upd H l (.lst (aE6 i (j-i).toNat)))):=by
 intro pins s σ H xs us Q I r ⟨ra,i,j,e,hq,⟨h1,h2,h3,h4,h5⟩,q⟩;subst e;obtain ⟨u,rfl,rx⟩:=aE3 r;cases rx;obtain ⟨t,u,v,e⟩:=I.hok ra _ hq;have hn:Builtin.Range.rangeSize i j 1=((j-i).toNat:Int):=by rw[rangeSize_one];split <;> omega
 refine call_list_range (I.ok.hd hc) (show IsRange s.heap ra i j 1 t u v from e) (small_one h1 h2 h3 h4) hn (by omega) λh' tk acc' c' kp el it=>?_
 have rv:Vals (aE6 i (j-i).toNat) acc'.toList:=by
  obtain ⟨hz,hit⟩:=it;refine bB3 (by simp[aE6,hz]) λk v u e1 e2=>?_
  obtain ⟨t,rfl⟩:=hit k u (by simpa using e2)
  have hk:k<(j-i).toNat:=by
   have:=(Ab0.mp e1).1
   simpa[aE6]using this
  unfold aE6 at e1;rw[Aa9,List.getElem?_range hk]at e1;cases e1;exact⟨t,by simp⟩
 refine⟨.ref s.heap.objs.size,_,I.laid kp (Aa7 _) (show ObjOk X.prog X.w _ h' _ (.lst _) from⟨?_,acc'.toList,c',rv,by simpa using el⟩),rfl,q _ (I.hok.fresh (Aa7 _))⟩
 simp[aE6];unfold PySem.sizeLine;omega
end
end LV
namespace PySem
open Sem (wp)
theorem bL3:typeLookup (.type "list_reverseiterator") "__len__" = pure none:=by rw[typeLookup_type,builtinLookup_eq_fast];kernel_rfl
theorem cE1:typeLookup (.type "list_reverseiterator") "__length_hint__" = pure (some (.builtin "list_reverseiterator.__length_hint__")):=by rw[typeLookup_type,builtinLookup_eq_fast];kernel_rfl
section
variable {prog:Program}{w:World}{A:Around}{E:Value->Shared->Prop}{s:Shared}
theorem aJ3 {R:Result->Shared->Prop}(hh:A.handled=none){r l:Addr}{items:Array Value}(hit:s.heap.IsRevIter r l ((items.size:Int)-1))(hl:s.heap.IsList l items)(hlr:l≠r)(S:Addr)(hSr:S≠r)(hSl:S≠l)(res:Value)(c₀:Nat)(hS:s.heap.get? S=some {cls:=.type "list",data:=.seq #[] c₀})
  (hR:∀h' tk acc' c',(∀b o,b≠S->b≠r->s.heap.get? b=some o->h'.get? b=some o)->h'.get? S=some {cls:=.type "list",dict:=none,data:=.seq acc' c',slots := #[]} ->
   ItemsOf (λi v=>items[items.size-1-i]? = some v) acc' items.size->R (.ok (.ret res)) {s with heap:=h',toks:=tk}) (hn:items.size<=sizeLine) :
  wpAny (model prog w) A.in1 (Builtin.List.listExtendWith (.ref S) (.ref r) res)
   (λfin s'=>match fin with | .done f=>R (.ok f) s' | .again c'=>c'.quiet=true/\codeAny (model prog w) A c' R s') (λe s'=>R (.error e) s') s:=by
 have hSf:S∉[r,l]:=λhm=>by simp at hm;rcases hm with h | h;exact hSr h;exact hSl h
 unfold Builtin.List.listExtendWith;refine wpAny_bind (wpAny_typeOf hit.typeIs ?_);have h1:Builtin.List.listSameRef (.ref S) (.ref r)=false:=by simp[Builtin.List.listSameRef,hSr]
 have h2:(Value.type "list_reverseiterator" == Value.type "list")=false:=by decide
 have h3:(Value.type "list_reverseiterator" == Value.type "tuple")=false:=by decide
 simp only[h1,h2,h3,Bool.or_false,Bool.false_eq_true,if_false];refine wpAny_bind (wpAny_pyIter_revIter hit ?_);refine wpAny_bind (wpAny_holding ?_);unfold Builtin.List.listLengthHint;refine wpAny_bind (wpAny_specialOf hit.typeIs bL3 ?_);show wpAny _ A.in1 (specialOf (Value.ref r) (Str.ofString "__length_hint__") >>= _) _ _ _;refine wpAny_bind (wpAny_specialOf hit.typeIs cE1 ?_)
 wp_delta
 refine wpAny_bind (wpAny_isInstance (b:=true) hit.typeIs (by rw[isSubtype_type];kernel_rfl) ?_)
 refine wpAny_pure ?_;rw[if_neg (by decide)]
 refine wpAny_pure ⟨plainId_quiet F.plain_extend_loop _,codeAny_extend_loopS (Walks.listRev (A:=A.in1) hh r l hlr items).toS hn S hSf res items.size 0 _ _ _ rfl (Nat.zero_le _) ⟨Nat.zero_le _,by simpa using hit,hl⟩ hS (ItemsOf.nil _) λs' acc' c' hm hS' hacc=>?_⟩
 rw[Moved.eq_with hm]
 refine hR s'.heap s'.toks acc' c' (λb ob hb hb' e=>hm.heap b ob (λhmem=>?_) e) hS' hacc
 rcases Aa1.mp hmem with e' | hmem
 ·exact hb e'
 ·exact hb' (Ad6.mp hmem)
theorem aD8 {R:Result->Shared->Prop}(hh:A.handled=none){r l:Addr}{items:Array Value}(hit:s.heap.IsRevIter r l ((items.size:Int)-1))(hl:s.heap.IsList l items)(hlr:l≠r)(S:Addr)(hSr:S≠r)(hSl:S≠l)(hS:s.heap.get? S=some {cls:=.type "list",data:=.seq #[]})
  (hR:∀h' tk acc' c',(∀b o,b≠S->b≠r->s.heap.get? b=some o->h'.get? b=some o)->h'.get? S=some {cls:=.type "list",dict:=none,data:=.seq acc' c',slots := #[]} ->
   ItemsOf (λi v=>items[items.size-1-i]? = some v) acc' items.size->R (.ok (.ret .none)) {s with heap:=h',toks:=tk}) (hn:items.size<=sizeLine) :
  wpAny (model prog w) A.in1 (Builtin.«list.__init__» ⟨[.ref S,.ref r],[]⟩)
   (λfin s'=>match fin with | .done f=>R (.ok f) s' | .again c'=>c'.quiet=true/\codeAny (model prog w) A c' R s') (λe s'=>R (.error e) s') s:=by
 show wpAny _ _ (do let old <- Builtin.List.listItems (.ref S);Builtin.List.listUpdate (.ref S) (λ_ => #[]);letGo old.toList.reverse;Builtin.List.listExtendWith (.ref S) (.ref r) .none) _ _ s
 refine wpAny_bind ?_;unfold Builtin.List.listItems;refine wpAny_bind (wpAny_seqItems hS rfl (wpAny_pure ?_));show wpAny _ _ (updateSeq S (λ_ => #[]) >>= λ_=>letGo (#[]:Array Value).toList.reverse >>= λ_=>Builtin.List.listExtendWith (.ref S) (.ref r) .none) _ _ s
 refine wpAny_bind (wpAny_updateSeq hS rfl ?_);have hS₂:=Heap.get?_update_self (Obj.mapSeq (λ_=>(#[]:Array Value))) hS rfl
 have oth:∀b o,b≠S->s.heap.get? b=some o->(s.heap.update S (Obj.mapSeq (λ_=>(#[]:Array Value)))).get? b=some o:=
  λb o hb e=>(Heap.get?_update_other _ _ (Ne.symm hb)).trans e
 refine wpAny_bind (wpAny_letGo ?_);refine aJ3 hh (s:={s with heap:=s.heap.update S (Obj.mapSeq (λ_=>(#[]:Array Value)))}) (hit.at λo e=>oth r o hSr.symm e) (hl.at λo e=>oth l o hSl.symm e) hlr S hSr hSl .none _ hS₂ (λh' tk acc' c' hk hS' hacc=>?_) hn
 exact hR h' tk acc' c' (λb o hb hb' e=>hk b o hb hb' (oth b o hb e)) hS' hacc
theorem aO2 {Q:Value->Shared->Prop}{r l:Addr}{items:Array Value}(hh:A.handled=none)(hit:s.heap.IsRevIter r l ((items.size:Int)-1))(hl:s.heap.IsList l items)(hlr:l≠r)(hn:items.size<=sizeLine)
  (hQ:∀h' tk acc' c',(∀b o,b≠r->s.heap.get? b=some o->h'.get? b=some o) ->
   h'.get? s.heap.objs.size=some {cls:=.type "list",dict:=none,data:=.seq acc' c',slots := #[]}->ItemsOf (λi v=>items[items.size-1-i]? = some v) acc' items.size->Q (.ref s.heap.objs.size) {s with heap:=h',toks:=tk}) :
  wpAny (model prog w) A (call (.type "list") [.ref r]) Q E s:=by
 refine callType_codes (Q₁:=λobj s₁=>obj=.ref s.heap.objs.size/\s₁={s with heap:=s.heap.push {cls:=.type "list",data:=.seq #[]}}) F.called_list (F.typeCall_list_1 _) F.entry_list_init
  (code_list_new _ ⟨rfl,rfl⟩) λobj s₁ h₁=>?_
 obtain ⟨rfl,rfl⟩:=h₁;have hS:(s.heap.push {cls:=.type "list",data:=.seq #[]}).get? s.heap.objs.size=some {cls:=.type "list",data:=.seq #[]}:=Ac3 _ rfl;have nr:s.heap.objs.size≠r:=by obtain ⟨o,e,_⟩:=hit;exact(Ab9 (Ab3 e)).symm
 have nl:s.heap.objs.size≠l:=by obtain ⟨o,e,_⟩:=hl;exact(Ab9 (Ab3 e)).symm
 refine⟨⟨_,hS,rfl⟩,F.args_list_init_2 _ _,aD8 (A:=A.in1) hh (s:={s with heap:=s.heap.push {cls:=.type "list",data:=.seq #[]}}) (hit.at λo e=>Aa6 _ e) (hl.at λo e=>Aa6 _ e) hlr _ nr nl hS (λh' tk acc' c' hk hS' hacc=>?_) hn⟩
 exact⟨rfl,hQ h' tk acc' c' (λb o hb e=>hk b o (Ab9 (Ab3 e)) hb (Aa6 _ e)) hS' hacc⟩
end
end PySem
namespace LV
open PySem PySem.Spec PyProof.Rows L2
section
variable {X:Cx}
def bS8 (K:PySem.W.Frag)(te:TE):TE:=λσ H Q=>te σ H λx H1=>∃p ys,x=.ref p/\SqL K H1 p ys/\∀l,H1 l=none->Q (.ref l) (upd H1 l (.lst ys.reverse))
theorem bI4 (K:PySem.W.Frag){e:Expr}{te:TE}{p1 p2 pos1 pos2:Pos}(hc:X.calm=true)(hg1:Gl X "list")(hm1:X.mg "list" = none)(hg2:Gl X "reversed")(hm2:X.mg "reversed" = none)(he:PE X e te)(hK:X.K=K:=by rfl)
  (hs1:starEach [e] X.env=[(false,eval e X.env)]:=by rfl) (hs2:starEach [Expr.Call (.Name "reversed" p2) [e] [] pos2] X.env=[(false,eval (Expr.Call (.Name "reversed" p2) [e] [] pos2) X.env)]:=by rfl) :
  PE X (.Call (.Name "list" p1) [.Call (.Name "reversed" p2) [e] [] pos2] [] pos1) (bS8 K te):=by
 subst hK;refine⟨?_⟩;intro pins s σ H Q I h;refine wpAny_Call_Name_kw (o7 I hg1 hm1 boot_list ?_);refine PyProof.Rows.callWith_type1 ?_ (by rw[hs2];rfl) rfl
 rw[hs2];show wpAny _ _ (spliced [(false,eval (Expr.Call (.Name "reversed" p2) [e] [] pos2) X.env)]) _ _ s;refine Calls.spliced_cons ?_;refine wpAny_Call_Name_kw (o7 I hg2 hm2 boot_reversed ?_);refine PyProof.Rows.callWith_type1 ?_ (by rw[hs1];rfl) rfl
 rw[hs1];show wpAny _ _ (spliced [(false,eval e X.env)]) _ _ s;refine Calls.spliced_cons (thn (he pins s σ H _ I h) λu s1 ⟨x,H1,I1,r1,p,ys,e1,hq,q⟩=>?_)
 subst e1;cases r1;refine Calls.spliced_nil ?_;obtain ⟨its,rv,pl,hz⟩:=I1.list hq;have hlen:=rv.length;have hlt:p<s1.heap.objs.size:=by obtain ⟨o,n,e,_⟩:=pl;exact Ab3 e
 refine call_reversed_list pl.isList ?_;refine Calls.spliced_nil ?_;have I2:Inv X pins σ H1 {s1 with heap:=s1.heap.push (revObj p ((its.toArray.size:Int)-1))}:=I1.kept (t':=s1.toks) λb o e=>Aa6 _ e
 refine aO2 (I1.ok.hd hc) (r:=s1.heap.objs.size) (items:=its.toArray) ⟨_,Ac3 _ rfl,rfl,rfl⟩ (pl.isList.at λo e=>Aa6 _ e) (Ab9 hlt) (by rw[Ab2];omega) λh' tk acc' c' kp el it=>?_
 have rr:Vals ys.reverse acc'.toList:=by
  obtain ⟨hz,hit⟩:=it;have hz:acc'.size=its.length:=by simpa using hz
  refine bB3 (by simp[hz,hlen]) λj v u e1 e2=>?_
  have hj:j<its.length:=by
   have:=(Ab0.mp e2).1
   simpa[hz]using this
  have hu:=hit j u (by simpa using e2)
  rw[List.getElem?_reverse (by omega),hlen]at e1
  obtain ⟨u',h1,h2⟩:=rv.get e1;simp only[Ab2]at hu;have hu':its[its.length-1-j]? = some u:=by simpa using hu
  rw[h1]at hu';cases hu';exact h2
 have kp':∀b o,s1.heap.get? b=some o->h'.get? b=some o:=λb o e=>kp b o (Ab9 (Ab3 e)) (Aa6 _ e)
 have I3:Inv X pins σ (upd H1 (s1.heap.push (revObj p ((its.toArray.size:Int)-1))).objs.size (.lst ys.reverse)) {s1 with heap:=h',toks:=tk}:=
  I1.laid kp' (by rw[Heap.size_push];exact Nat.le_succ _) (show ObjOk X.prog X.w _ h' _ (.lst _) from⟨by rw[Ad9];exact hz,acc'.toList,c',rr,by simpa using el⟩)
 exact⟨.ref _,_,I3,rfl,q _ (I1.hok.fresh (by rw[Heap.size_push];exact Nat.le_succ _))⟩
end
section
variable {X:Cx}
theorem cO5 {s:Shared}{h':Heap}{o:Obj}(hk:∀b x,b∉[s.heap.objs.size]->(s.heap.push o).get? b=some x->h'.get? b=some x):∀b x,s.heap.get? b=some x->h'.get? b=some x:=
 λb x e=>hk b x (λhm=>by rw[Ad6.mp hm]at e;exact Ad7 _ (Ab3 e)) (Aa6 _ e)
theorem cP9 {bs:List Bool}{its:List Value}(r:Vals (bs.map V.bl) its){i:Nat}{v:Value}(e:its[i]? = some v):∃b,bs[i]? = some b/\v=.bool b:=by
 have hl:=r.length
 rw[Aa3]at hl;have hi:i<bs.length:=by have:=(Ab0.mp e).1;omega
 obtain ⟨u,h1,h2⟩:=r.get (i:=i) (x:=.bl bs[i]) (by rw[Aa9,Aa2 hi];rfl)
 rw[e]at h1;cases h1;exact⟨_,Aa2 hi,h2⟩
theorem bW8 (K:PySem.W.Frag)(hc:X.calm=true)(h:X.K=K:=by rfl):W9 X (.builtin "all") (λxs H Q=>∃(p:Addr) (l:List Bool),xs=[.ref p]/\SqL K H p (l.map V.bl)/\Q (.bl (l.all id)) H):=by
 subst h;intro pins s σ H xs us Q I r ⟨p,l,e,hq,q⟩;subst e;obtain ⟨u,rfl,rx⟩:=aE3 r;cases rx;obtain ⟨its,rv,pl,_⟩:=I.list hq;have hl:=pl.isList;have hlt:p<s.heap.objs.size:=by obtain ⟨_,e,_⟩:=hl;exact Ab3 e
 refine call_all_walk (wpAny_pyIter_list hl ?_);refine⟨s.heap.objs.size,[s.heap.objs.size,p],[s.heap.objs.size],its.toArray.size,_,_,λi=>(l[i]?).getD true,rfl,Walks.list (A:=X.A.in1) (I.ok.hd hc) _ p (Ab9 hlt) its.toArray,
  ⟨⟨_,Ac3 _ rfl,rfl,rfl⟩,hl.push _⟩,λi v s' Q' E' hP hQ=>?_,λh' tk hk=>?_⟩
 ·obtain ⟨b,e,rfl⟩:=cP9 rv (i:=i) (v:=v) (by simpa using hP)
  simp only[e,Option.getD_some]at hQ;exact wpAny_truthy_bool hQ
 ·have e:((List.range its.toArray.size).all λi=>(l[i]?).getD true)=l.all id:=by
   have:=rv.length
   rw[Aa3]at this;rw[Ab2,<- this];exact LSm.range_all l
  rw[e];exact⟨.bl _,H,I.kept (cO5 hk),rfl,q⟩
end
end LV
namespace LS
open PySem PySem.W PyProof.Rows
def ev {α:Type}(lt:Nat->Nat->Bool):KasT α->α
 | .ret a=>a
 | .ask i j k=>ev lt (k (lt i j))
theorem i8 {α β:Type}(lt:Nat->Nat->Bool)(f:α->KasT β):∀t:KasT α,ev lt (t.bind f)=ev lt (f (ev lt t))
 | .ret _=>rfl
 | .ask i j k=>i8 lt f (k (lt i j))
def T6 {α:Type}(lt:Nat->Nat->Bool)(P:Nat->Prop):KasT α->Prop
 | .ret _=>True
 | .ask i j k=>P i/\P j/\T6 lt P (k (lt i j))
theorem U2 {α β:Type}{lt:Nat->Nat->Bool}{P:Nat->Prop}{f:α->KasT β}:∀{t:KasT α},T6 lt P t->T6 lt P (f (ev lt t))->T6 lt P (t.bind f)
 | .ret _,_,h=>h
 | .ask _ _ _,⟨h1,h2,h3⟩,h=>⟨h1,h2,U2 h3 h⟩
theorem cT5 {α:Type}{lt:Nat->Nat->Bool}{P:Nat->Prop}{cmp:Nat->Nat->(Bool->Shared->Prop)->Shared->Prop}{Q:α->Shared->Prop}{s:Shared}
  (hc:∀i j C,P i->P j->C (lt i j) s->cmp i j C s):∀(t:KasT α),T6 lt P t->Q (ev lt t) s->t.kasWp cmp Q s
 | .ret _,_,h=>h
 | .ask i j k,⟨h1,h2,h3⟩,h=>hc i j _ h1 h2 (cT5 hc (k (lt i j)) h3 h)
structure Ord (lt:Nat->Nat->Bool):Prop where
 asym:∀a b,lt a b=true->lt b a=false
 trans:∀a b c,lt b a=false->lt c b=false->lt c a=false
section
variable {lt:Nat->Nat->Bool}
def g (p:Array Nat)(i:Nat):Nat:=p.getD i 0
theorem aT6 {p:Array Nat}{i:Nat}:g p i=(p[i]?).getD 0:=by unfold g;simp[Array.getD_eq_getD_getElem?]
abbrev le (lt:Nat->Nat->Bool)(a b:Nat):Prop:=lt b a=false
theorem Ord.refl (O:Ord lt)(a:Nat):le lt a a:=by
 cases h:lt a a with
 | false=>exact h
 | true=>exact O.asym a a h
theorem Ord.of_lt (O:Ord lt){a b:Nat}(h:lt a b=true):le lt a b:=O.asym a b h
def Srt (lt:Nat->Nat->Bool)(p:Array Nat)(k:Nat):Prop:=∀i j,i<=j->j<k->le lt (g p i) (g p j)
def Dsc (lt:Nat->Nat->Bool)(p:Array Nat)(k:Nat):Prop:=∀i j,i<=j->j<k->le lt (g p j) (g p i)
theorem aW5 {p:Array Nat}{i j:Nat}(hj:j<=p.size)(k:Nat):g (kas_rev p i j) k=if i<=k/\k<j then g p (i+j-1-k) else g p k:=by
 unfold kas_rev;rw[aT6,getElem?_mirror_all hj,aT6,aT6];split <;> rfl
theorem dG0 {p:Array Nat}{k l:Nat}(hk:k<p.size)(hl:l<=k)(i:Nat):g (bubble p k (k-l)) i=if i=l then g p k else if l<i/\i<=k then g p (i-1) else g p i:=by
 rw[aT6,getElem?_bubble hk _ (by omega),aT6,aT6,aT6,show k-(k-l)=l by omega]
 repeat' split
 all_goals rfl
theorem bA1 (O:Ord lt){p:Array Nat}{N:Nat}:∀(f n:Nat),1<=n->n+f<=N->Srt lt p n->∃m,ev lt (kas_asc p f n)=m/\n<=m/\m<=n+f/\Srt lt p m/\(m<n+f->lt (g p m) (g p (m-1))=true)/\T6 lt (λi=>∃j,j<N/\i=g p j) (kas_asc p f n)
 | 0,n,h1,hN,h=>⟨n,rfl,Aa7 _,Aa7 _,h,λz=>absurd z (Ad7 _),trivial⟩
 | f+1,n,h1,hN,h=>by
  cases hc:lt (g p n) (g p (n-1)) with
  | true=>
   refine⟨n,?_,Aa7 _,by omega,h,λ_=>hc,⟨n,by omega,rfl⟩,⟨n-1,by omega,rfl⟩,?_⟩
   ·show ev lt (if lt (g p n) (g p (n-1))=true then KasT.ret n else kas_asc p f (n+1))=n
    rw[hc];rfl
   ·show T6 lt _ (if lt (g p n) (g p (n-1))=true then KasT.ret n else kas_asc p f (n+1))
    rw[hc];exact trivial
  | false=>
   have h':Srt lt p (n+1):=λi j hij hj=>by
    by_cases e:j=n
    ·subst e;by_cases e2:i=j
     ·subst e2;exact O.refl _
     ·exact O.trans _ _ _ (h i (j-1) (by omega) (by omega)) hc
    ·exact h i j hij (by omega)
   obtain ⟨m,e,a1,a2,a3,a4,a5⟩:=bA1 O (N:=N) f (n+1) (by omega) (by omega) h'
   refine⟨m,?_,by omega,by omega,a3,λz=>a4 (by omega),⟨n,by omega,rfl⟩,⟨n-1,by omega,rfl⟩,?_⟩
   ·show ev lt (if lt (g p n) (g p (n-1))=true then KasT.ret n else kas_asc p f (n+1))=m
    rw[hc];exact e
   ·show T6 lt _ (if lt (g p n) (g p (n-1))=true then KasT.ret n else kas_asc p f (n+1))
    rw[hc];exact a5
def Same (lt:Nat->Nat->Bool)(p:Array Nat)(n q:Nat):Prop:=q<n/\∀i j,n-1-q<=i->i<n->n-1-q<=j->j<n->le lt (g p i) (g p j)
theorem bT2 (O:Ord lt){p:Array Nat}{n q:Nat}(hn:n<=p.size)(h:Dsc lt p n)(hs:Same lt p n q):Dsc lt (kas_rev p (n-(q+1)) n) n/\(∀k,n<=k->g (kas_rev p (n-(q+1)) n) k=g p k)/\Same lt (kas_rev p (n-(q+1)) n) n q:=by
 obtain ⟨hq,hs⟩:=hs;have e:∀k,g (kas_rev p (n-(q+1)) n) k=if n-(q+1)<=k/\k<n then g p (n-(q+1)+n-1-k) else g p k:=aW5 hn;have al:∀k,k<n->le lt (g (kas_rev p (n-(q+1)) n) k) (g p k)/\le lt (g p k) (g (kas_rev p (n-(q+1)) n) k):=λk hk=>by
  rw[e];split
  ·exact⟨hs _ _ (by omega) (by omega) (by omega) (by omega),hs _ _ (by omega) (by omega) (by omega) (by omega)⟩
  ·exact⟨O.refl _,O.refl _⟩
 refine⟨λi j hij hj=>?_,λk hk=>by rw[e,if_neg (by omega)],hq,λi j h1 h2 h3 h4=>?_⟩
 ·exact O.trans _ _ _ (al j hj).1 (O.trans _ _ _ (h i j hij hj) (al i (by omega)).2)
 ·exact O.trans _ _ _ (al i h2).1 (O.trans _ _ _ (hs i j h1 h2 h3 h4) (al j h4).2)
theorem aA9 (O:Ord lt){p:Array Nat}{n:Nat}(h1:1<=n)(h:Dsc lt p n)(hl:le lt (g p n) (g p (n-1))):Dsc lt p (n+1):=λi j hij hj=>by
 by_cases e:j=n
 ·subst e;by_cases e2:i=j
  ·subst e2;exact O.refl _
  ·exact O.trans _ _ _ hl (h i (j-1) (by omega) (by omega))
 ·exact h i j hij (by omega)
theorem aN2 (O:Ord lt){P:Nat->Prop}{N:Nat}:∀(f:Nat) (p:Array Nat) (n q:Nat),1<=n->n+f<=N->N<=p.size->(∀j,j<N->P (g p j))->Dsc lt p n->Same lt p n q ->
  ∃p' m q',ev lt (kas_desc f p n q)=(p',m,q')/\p'.Perm p/\n<=m/\m<=n+f/\Dsc lt p' m/\Same lt p' m q'/\(∀j,j<N->P (g p' j))/\T6 lt P (kas_desc f p n q)
 | 0,p,n,q,h1,hN,hz,hP,h,hs=>⟨p,n,q,rfl,Array.Perm.refl _,Aa7 _,Aa7 _,h,hs,hP,trivial⟩
 | f+1,p,n,q,h1,hN,hz,hP,h,hs=>by
  have sh:∀c:Bool,lt (g p n) (g p (n-1))=c->ev lt (kas_desc (f+1) p n q)=ev lt (if c=true then(if q>0 then kas_desc f (kas_rev p (n-(q+1)) n) (n+1) 0 else kas_desc f p (n+1) 0)
    else .ask (g p (n-1)) (g p n) λd=>if d=true then .ret (p,n,q) else kas_desc f p (n+1) (q+1)):=λc e=>by subst e;rfl
  have sa:∀c:Bool,lt (g p n) (g p (n-1))=c->T6 lt P (if c=true then(if q>0 then kas_desc f (kas_rev p (n-(q+1)) n) (n+1) 0 else kas_desc f p (n+1) 0)
    else .ask (g p (n-1)) (g p n) λd=>if d=true then .ret (p,n,q) else kas_desc f p (n+1) (q+1))->T6 lt P (kas_desc (f+1) p n q):=λc e hh=>by subst e;exact⟨hP n (by omega),hP (n-1) (by omega),hh⟩
  cases hc:lt (g p n) (g p (n-1)) with
  | true=>
   rw[sh true hc,if_pos rfl];have sa:=sa true hc;rw[if_pos rfl]at sa;by_cases hq:q>0
   ·rw[if_pos hq]at sa ⊢;obtain ⟨d1,d2,d3⟩:=bT2 O (by omega) h hs
    have hl:le lt (g (kas_rev p (n-(q+1)) n) n) (g (kas_rev p (n-(q+1)) n) (n-1)):=by
     rw[d2 n (Aa7 _),aW5 (by omega),if_pos (by omega)]
     exact O.trans _ _ _ (O.of_lt hc) (hs.2 _ _ (by omega) (by omega) (by have:=hs.1;omega) (by have:=hs.1;omega))
    obtain ⟨p',m,q',a0,a1,a2,a3,a4,a5,a6,a7⟩:=aN2 O (P:=P) (N:=N) f (kas_rev p (n-(q+1)) n) (n+1) 0 (by omega) (by omega) (by unfold kas_rev;rw[mirror_size];exact hz) (λj hj=>by
     rw[aW5 (by omega)]
     split
     ·exact hP _ (by have:=hs.1;omega)
     ·exact hP j hj) (aA9 O h1 d1 hl) ⟨by omega,λi j b1 b2 b3 b4=>by
      have:i=j:=by omega
      subst this;exact O.refl _⟩
    exact⟨p',m,q',a0,a1.trans (mirror_perm _ _ _ _),by omega,by omega,a4,a5,a6,sa a7⟩
   ·rw[if_neg hq]at sa ⊢;obtain ⟨p',m,q',a0,a1,a2,a3,a4,a5,a6,a7⟩:=aN2 O (P:=P) (N:=N) f p (n+1) 0 (by omega) (by omega) hz hP (aA9 O h1 h (O.of_lt hc)) ⟨by omega,λi j b1 b2 b3 b4=>by
      have:i=j:=by omega
      subst this;exact O.refl _⟩
    exact⟨p',m,q',a0,a1,by omega,by omega,a4,a5,a6,sa a7⟩
  | false=>
   rw[sh false hc,if_neg Bool.false_ne_true];have sa:=sa false hc;rw[if_neg Bool.false_ne_true]at sa;cases hd:lt (g p (n-1)) (g p n) with
   | true=>
    refine⟨p,n,q,?_,Array.Perm.refl _,Aa7 _,by omega,h,hs,hP,sa ⟨hP _ (by omega),hP _ (by omega),?_⟩⟩
    ·show ev lt (if lt (g p (n-1)) (g p n)=true then _ else _)=_
     rw[hd];rfl
    ·show T6 lt P (if lt (g p (n-1)) (g p n)=true then _ else _)
     rw[hd];exact trivial
   | false=>
    obtain ⟨hq,hs⟩:=hs;have s':Same lt p (n+1) (q+1):=⟨by omega,λi j b1 b2 b3 b4=>by
     have up:∀i,n-1-q<=i->i<n+1->le lt (g p i) (g p (n-1))/\le lt (g p (n-1)) (g p i):=λi c1 c2=>by
      by_cases e:i=n
      ·subst e;exact⟨hd,hc⟩
      ·exact⟨hs i (n-1) c1 (by omega) (by omega) (by omega),hs (n-1) i (by omega) (by omega) c1 (by omega)⟩
     exact O.trans _ _ _ (up i (by omega) b2).1 (up j (by omega) b4).2⟩
    obtain ⟨p',m,q',a0,a1,a2,a3,a4,a5,a6,a7⟩:=aN2 O (P:=P) (N:=N) f p (n+1) (q+1) (by omega) (by omega) hz hP (aA9 O h1 h hd) s'
    refine⟨p',m,q',?_,a1,by omega,by omega,a4,a5,a6,sa ⟨hP _ (by omega),hP _ (by omega),?_⟩⟩
    ·show ev lt (if lt (g p (n-1)) (g p n)=true then _ else _)=_
     rw[hd];exact a0
    ·show T6 lt P (if lt (g p (n-1)) (g p n)=true then _ else _)
     rw[hd];exact a7
theorem cS4 (O:Ord lt){P:Nat->Prop}{p:Array Nat}{N:Nat}(hP:∀j,j<N->P (g p j)){f n:Nat}(h1:1<=n)(hN:n+f<=N)(h:Srt lt p n):T6 lt P (kas_asc p f n):=by
 obtain ⟨_,_,_,_,_,_,a⟩:=bA1 O f n h1 hN h;have up:∀{α:Type} (t:KasT α),T6 lt (λi=>∃j,j<N/\i=g p j) t->T6 lt P t:=λ{α} t=>by
  induction t with
  | ret _=>exact λz=>z
  | ask i j k ih=>
   rintro ⟨⟨a,ha,rfl⟩,⟨b,hb,rfl⟩,z⟩;exact⟨hP a ha,hP b hb,ih _ z⟩
 exact up _ a
theorem bE8 (O:Ord lt){P:Nat->Prop}{p:Array Nat}{n N:Nat}(h1:1<=n)(hn:n<=N)(hz:N<=p.size)(hP:∀j,j<N->P (g p j))(h:Dsc lt p n) :
  ∃m p',ev lt (kas_tail3 n N p)=(m,p')/\p'.Perm p/\1<=m/\m<=N/\Srt lt p' m/\(∀j,j<N->P (g p' j))/\T6 lt P (kas_tail3 n N p):=by
 have e:∀k,g (kas_rev p 0 n) k=if 0<=k/\k<n then g p (0+n-1-k) else g p k:=aW5 (by omega)
 have s:Srt lt (kas_rev p 0 n) n:=λi j hij hj=>by
  rw[e,e,if_pos (by omega),if_pos (by omega)]
  exact h _ _ (by omega) (by omega)
 have hP':∀j,j<N->P (g (kas_rev p 0 n) j):=λj hj=>by
  rw[e];split
  ·exact hP _ (by omega)
  ·exact hP j hj
 obtain ⟨m,a0,a1,a2,a3,_,_⟩:=bA1 O (p:=kas_rev p 0 n) (N:=N) (N-n) n h1 (by omega) s
 refine⟨m,kas_rev p 0 n,?_,mirror_perm _ _ _ _,by omega,by omega,a3,hP',U2 (cS4 O hP' h1 (by omega) s) trivial⟩
 unfold kas_tail3;rw[i8,a0];rfl
theorem aL4 (O:Ord lt){P:Nat->Prop}{p:Array Nat}{n N:Nat}(h1:1<=n)(hn:n+1<=N)(hz:N<=p.size)(hP:∀j,j<N->P (g p j))(h:Dsc lt p (n+1)) :
  ∃m p',ev lt (kas_descPart n N p)=(m,p')/\p'.Perm p/\1<=m/\m<=N/\Srt lt p' m/\(∀j,j<N->P (g p' j))/\T6 lt P (kas_descPart n N p):=by
 obtain ⟨p1,m1,q1,a0,a1,a2,a3,a4,a5,a6,a7⟩:=aN2 O (P:=P) (N:=N) (N-(n+1)) p (n+1) 0 (by omega) (by omega) hz hP h ⟨by omega,λi j b1 b2 b3 b4=>by
  have:i=j:=by omega
  subst this;exact O.refl _⟩
 have z1:N<=p1.size:=by rw[a1.size_eq];exact hz
 unfold kas_descPart;by_cases hq:q1>0
 ·obtain ⟨d1,d2,d3⟩:=bT2 O (by omega) a4 a5
  have hP':∀j,j<N->P (g (kas_rev p1 (m1-(q1+1)) m1) j):=λj hj=>by
   rw[aW5 (by omega)]
   split
   ·exact a6 _ (by have:=a5.1;omega)
   ·exact a6 j hj
  obtain ⟨m,p',b0,b1,b2,b3,b4,b5,b6⟩:=bE8 O (P:=P) (p:=kas_rev p1 (m1-(q1+1)) m1) (n:=m1) (N:=N) (by omega) (by omega) (by unfold kas_rev;rw[mirror_size];exact z1) hP' d1
  refine⟨m,p',?_,b1.trans ((mirror_perm _ _ _ _).trans a1),b2,b3,b4,b5,U2 a7 ?_⟩
  ·rw[i8,a0];show ev lt (if q1>0 then _ else _)=_;rw[if_pos hq];exact b0
  ·rw[a0];show T6 lt P (if q1>0 then _ else _);rw[if_pos hq];exact b6
 ·obtain ⟨m,p',b0,b1,b2,b3,b4,b5,b6⟩:=bE8 O (P:=P) (p:=p1) (n:=m1) (N:=N) (by omega) (by omega) z1 a6 a4
  refine⟨m,p',?_,b1.trans a1,b2,b3,b4,b5,U2 a7 ?_⟩
  ·rw[i8,a0];show ev lt (if q1>0 then _ else _)=_;rw[if_neg hq];exact b0
  ·rw[a0];show T6 lt P (if q1>0 then _ else _);rw[if_neg hq];exact b6
theorem cG6 (O:Ord lt){P:Nat->Prop}{p:Array Nat}{N:Nat}(h1:1<=N)(hz:N<=p.size)(hP:∀j,j<N->P (g p j)) :
  ∃m p',ev lt (kas_count N p)=(m,p')/\p'.Perm p/\1<=m/\m<=N/\Srt lt p' m/\(∀j,j<N->P (g p' j))/\T6 lt P (kas_count N p):=by
 have s1:Srt lt p 1:=λi j hij hj=>by
  have:i=j:=by omega
  subst this;exact O.refl _
 obtain ⟨n,a0,a1,a2,a3,a4,_⟩:=bA1 O (p:=p) (N:=N) (N-1) 1 (by omega) (by omega) s1
 have aP:=cS4 O hP (f:=N-1) (n:=1) (by omega) (by omega) s1
 unfold kas_count;have wrap:∀{t:KasT (Nat×Array Nat)},(if(n==N)=true then KasT.ret (n,p) else if n>1 then .ask (p.getD 0 0) (p.getD (n-1) 0) λc=>if c=true then .ret (n,p) else kas_descPart n N (kas_rev p 0 n) else kas_descPart n N p)=t ->
   (∃m p',ev lt t=(m,p')/\p'.Perm p/\1<=m/\m<=N/\Srt lt p' m/\(∀j,j<N->P (g p' j))/\T6 lt P t) ->
   ∃m p',ev lt ((kas_asc p (N-1) 1).bind λn=>if(n==N)=true then .ret (n,p) else if n>1 then .ask (p.getD 0 0) (p.getD (n-1) 0) λc=>if c=true then .ret (n,p) else kas_descPart n N (kas_rev p 0 n) else kas_descPart n N p)=(m,p')/\p'.Perm p/\1<=m/\m<=N/\Srt lt p' m/\(∀j,j<N->P (g p' j)) /\
    T6 lt P ((kas_asc p (N-1) 1).bind λn=>if(n==N)=true then .ret (n,p) else if n>1 then .ask (p.getD 0 0) (p.getD (n-1) 0) λc=>if c=true then .ret (n,p) else kas_descPart n N (kas_rev p 0 n) else kas_descPart n N p):=λ{t} e h=>by
  obtain ⟨m,p',b0,b1,b2,b3,b4,b5,b6⟩:=h;refine⟨m,p',?_,b1,b2,b3,b4,b5,U2 aP ?_⟩
  ·rw[i8,a0,e];exact b0
  ·rw[a0,e];exact b6
 refine wrap rfl ?_;by_cases e:n=N
 ·rw[if_pos (by simp[e])]
  exact⟨n,p,rfl,Array.Perm.refl _,a1,by omega,a3,hP,trivial⟩
 ·rw[if_neg (by simp[e])]
  have hd:=a4 (by omega)
  by_cases h2:n>1
  ·rw[if_pos h2];cases hc:lt (g p 0) (g p (n-1)) with
   | true=>
    refine⟨n,p,?_,Array.Perm.refl _,a1,by omega,a3,hP,hP 0 (by omega),hP (n-1) (by omega),?_⟩
    ·show ev lt (if lt (g p 0) (g p (n-1))=true then _ else _)=_
     rw[hc];rfl
    ·show T6 lt P (if lt (g p 0) (g p (n-1))=true then _ else _)
     rw[hc];exact trivial
   | false=>
    have al:∀i j,i<n->j<n->le lt (g p i) (g p j):=λi j hi hj=>O.trans _ _ _ (a3 i (n-1) (by omega) (by omega)) (O.trans _ _ _ hc (a3 0 j (by omega) hj))
    have er:∀k,g (kas_rev p 0 n) k=if 0<=k/\k<n then g p (0+n-1-k) else g p k:=aW5 (by omega)
    have ds:Dsc lt (kas_rev p 0 n) (n+1):=by
     refine aA9 O a1 (λi j hij hj=>?_) ?_
     ·rw[er,er,if_pos (by omega),if_pos (by omega)]
      exact al _ _ (by omega) (by omega)
     ·rw[er,er,if_neg (by omega),if_pos (by omega)]
      exact O.trans _ _ _ (O.of_lt hd) (al _ _ (by omega) (by omega))
    have hP':∀j,j<N->P (g (kas_rev p 0 n) j):=λj hj=>by
     rw[er];split
     ·exact hP _ (by omega)
     ·exact hP j hj
    obtain ⟨m,p',b0,b1,b2,b3,b4,b5,b6⟩:=aL4 O (P:=P) (p:=kas_rev p 0 n) (n:=n) (N:=N) a1 (by omega) (by unfold kas_rev;rw[mirror_size];exact hz) hP' ds
    refine⟨m,p',?_,b1.trans (mirror_perm _ _ _ _),b2,b3,b4,b5,hP 0 (by omega),hP (n-1) (by omega),?_⟩
    ·show ev lt (if lt (g p 0) (g p (n-1))=true then _ else _)=_
     rw[hc];exact b0
    ·show T6 lt P (if lt (g p 0) (g p (n-1))=true then _ else _)
     rw[hc];exact b6
  ·rw[if_neg h2];have n1:n=1:=by omega
   subst n1;exact aL4 O (Aa7 _) (by omega) hz hP (aA9 O (Aa7 _) (λi j hij hj=>by
    have:i=j:=by omega
    subst this;exact O.refl _) (O.of_lt hd))
theorem aP1 (O:Ord lt){P:Nat->Prop}{p:Array Nat}{k N:Nat}(hk:k<N)(hP:∀j,j<N->P (g p j))(hs:Srt lt p k):∀(f l r:Nat),l<=r->r<=k->r-l<=f->(∀i,i<l->le lt (g p i) (g p k))->(∀i,r<=i->i<k->lt (g p k) (g p i)=true) ->
  ∃m,ev lt (kas_place p k f l r)=m/\m<=k/\(∀i,i<m->le lt (g p i) (g p k))/\(∀i,m<=i->i<k->lt (g p k) (g p i)=true)/\T6 lt P (kas_place p k f l r)
 | 0,l,r,h1,h2,h3,h4,h5=>⟨l,rfl,by omega,h4,λi a b=>h5 i (by omega) b,trivial⟩
 | f+1,l,r,h1,h2,h3,h4,h5=>by
  unfold kas_place;by_cases hlr:l≥r
  ·rw[if_pos hlr];exact⟨l,rfl,by omega,h4,λi a b=>h5 i (by omega) b,trivial⟩
  ·rw[if_neg hlr];cases hc:lt (g p k) (g p ((l+r) / 2)) with
   | true=>
    obtain ⟨m,a0,a1,a2,a3,a4⟩:=aP1 O hk hP hs f l ((l+r) / 2) (by omega) (by omega) (by omega) h4 (λi b1 b2=>by
     cases e:lt (g p k) (g p i) with
     | true=>rfl
     | false=>
      have:lt (g p k) (g p ((l+r) / 2))=false:=O.trans _ _ _ (hs _ _ b1 b2) e
      rw[hc]at this;cases this)
    refine⟨m,?_,a1,a2,a3,hP k hk,hP _ (by omega),?_⟩
    ·show ev lt (if lt (g p k) (g p ((l+r) / 2))=true then _ else _)=_
     rw[hc];exact a0
    ·show T6 lt P (if lt (g p k) (g p ((l+r) / 2))=true then _ else _)
     rw[hc];exact a4
   | false=>
    obtain ⟨m,a0,a1,a2,a3,a4⟩:=aP1 O hk hP hs f ((l+r) / 2+1) r (by omega) (by omega) (by omega) (λi b1=>O.trans _ _ _ (hs i ((l+r) / 2) (by omega) (by omega)) hc) h5
    refine⟨m,?_,a1,a2,a3,hP k hk,hP _ (by omega),?_⟩
    ·show ev lt (if lt (g p k) (g p ((l+r) / 2))=true then _ else _)=_
     rw[hc];exact a0
    ·show T6 lt P (if lt (g p k) (g p ((l+r) / 2))=true then _ else _)
     rw[hc];exact a4
theorem cF7 (O:Ord lt){P:Nat->Prop}{N:Nat}:∀(f:Nat) (p:Array Nat) (k:Nat),k+f=N->N<=p.size->(∀j,j<N->P (g p j))->Srt lt p k ->
  ∃p',ev lt (kas_bin f p k)=p'/\p'.Perm p/\Srt lt p' N/\T6 lt P (kas_bin f p k)
 | 0,p,k,hN,hz,hP,h=>⟨p,rfl,Array.Perm.refl _,(show k=N from hN)▸h,trivial⟩
 | f+1,p,k,hN,hz,hP,h=>by
  obtain ⟨l,a0,a1,a2,a3,a4⟩:=aP1 O (k:=k) (N:=N) (by omega) hP h k 0 k (by omega) (by omega) (by omega) (λi z=>absurd z (Nat.not_lt_zero _)) (λi a b=>by omega)
  have e:∀i,g (bubble p k (k-l)) i=if i=l then g p k else if l<i/\i<=k then g p (i-1) else g p i:=dG0 (by omega) a1
  have s':Srt lt (bubble p k (k-l)) (k+1):=λi j hij hj=>by
   rw[e,e];by_cases il:i=l
   ·rw[if_pos il];by_cases jl:j=l
    ·rw[if_pos jl];exact O.refl _
    ·rw[if_neg jl,if_pos (by omega)]
     exact O.of_lt (a3 _ (by omega) (by omega))
   ·rw[if_neg il];by_cases jl:j=l
    ·rw[if_pos jl,if_neg (by omega)]
     exact a2 i (by omega)
    ·rw[if_neg jl];by_cases c1:l<i/\i<=k
     ·rw[if_pos c1,if_pos (by omega)]
      exact h _ _ (by omega) (by omega)
     ·rw[if_neg c1];by_cases c2:l<j/\j<=k
      ·rw[if_pos c2];exact h _ _ (by omega) (by omega)
      ·rw[if_neg c2];exact h _ _ hij (by omega)
  have hP':∀j,j<N->P (g (bubble p k (k-l)) j):=λj hj=>by
   rw[e]
   repeat' split
   all_goals exact hP _ (by omega)
  obtain ⟨p',b0,b1,b2,b3⟩:=cF7 O (P:=P) (N:=N) f (bubble p k (k-l)) (k+1) (by omega) (by rw[bubble_size];exact hz) hP' s'
  refine⟨p',?_,b1.trans (bubble_perm _ _ _),b2,?_⟩
  ·show ev lt ((kas_place p k k 0 k).bind λl=>kas_bin f (bubble p k (k-l)) (k+1))=p'
   rw[i8,a0];exact b0
  ·show T6 lt P ((kas_place p k k 0 k).bind λl=>kas_bin f (bubble p k (k-l)) (k+1))
   exact U2 a4 (by rw[a0];exact b3)
theorem cL2 (O:Ord lt){N:Nat}(h1:1<=N):∃p',ev lt (kas_sort N)=p'/\p'.Perm (List.toArray (List.range N))/\Srt lt p' N/\T6 lt (λi=>i<N) (kas_sort N):=by
 have hg:∀j,j<N->g (List.toArray (List.range N)) j<N:=λj hj=>by
  rw[aT6];simp[hj]
 obtain ⟨m,p1,a0,a1,a2,a3,a4,a5,a6⟩:=cG6 O (P:=λi=>i<N) (p:=List.toArray (List.range N)) (N:=N) h1 (by simp) hg
 have z1:N<=p1.size:=by rw[a1.size_eq];simp
 unfold kas_sort;by_cases hm:m<N
 ·have hx:max m 1=m:=by omega
  obtain ⟨p',b0,b1,b2,b3⟩:=cF7 O (P:=λi=>i<N) (N:=N) (N-m) p1 m (by omega) z1 a5 a4
  refine⟨p',?_,b1.trans a1,b2,U2 a6 ?_⟩
  ·rw[i8,a0];dsimp only;rw[if_pos hm,hx];exact b0
  ·rw[a0];dsimp only;rw[if_pos hm,hx];exact b3
 ·have:m=N:=by omega
  refine⟨p1,?_,a1,this▸a4,U2 a6 ?_⟩
  ·rw[i8,a0];dsimp only;rw[if_neg hm];rfl
  ·rw[a0];dsimp only;rw[if_neg hm];exact trivial
end
end LS
namespace LV
open PySem PySem.Spec PyProof.Rows L2 PySem.W Att
section
variable {P:Program}{w:World}{A:Around}{s:Shared}{Q:Bool->Shared->Prop}
theorem aH1 (a b:Int)(as bs:List Int):HT.j7 (a::as) (b::bs)=if a=b then HT.j7 as bs else decide (a<b):=rfl
theorem aL0:∀{xs ys:List Value} {as bs:List Int} (i:Nat),IntsAre xs as->IntsAre ys bs->Q (HT.j7 as bs) s->KatLex P w A true (decide (as.length<bs.length)) Q (xs.zip ys) i s
 | _,_,_,_,i,.nil,.nil,h=>h
 | _,_,_,_,i,.nil,@IntsAre.cons n t vs ns r,h=>by
  have e:decide (([]:List Int).length<(n::ns).length)=true:=by simp
  show Q (decide (([]:List Int).length<(n::ns).length)) s
  rw[e];exact h
 | _,_,_,_,i,@IntsAre.cons n t vs ns r,.nil,h=>by
  have e:decide ((n::ns).length<([]:List Int).length)=false:=by simp
  show Q (decide ((n::ns).length<([]:List Int).length)) s
  rw[e];exact h
 | _,_,_,_,i,@IntsAre.cons a t xs as ra,@IntsAre.cons b u ys bs rb,h=>by
  rw[aH1]at h;refine kat_cons ?_;refine SeqAt.EqAt.int_int a t b u P w _ _ ?_;by_cases e:a=b
  ·subst e;rw[if_pos rfl]at h
   have:(a==a)=true:=by simp
   rw[this];refine kat_yes ?_;have e2:decide ((a::as).length<(a::bs).length)=decide (as.length<bs.length):=by simp
   rw[e2];exact aL0 (i+1) ra rb h
  ·rw[if_neg e]at h
   have:(a==b)=false:=by simpa using e
   rw[this];refine kat_no ?_;cases hb:(true&&i==0) with
   | true=>exact oneLt_int h
   | false=>exact kat_one _ _ (lt_int h)
theorem aO9:∀a b:List Int,HT.j7 a b=true->HT.j7 b a=false
 | [],[],h=>by cases h
 | [],_::_,_=>rfl
 | _::_,[],h=>by cases h
 | x::xs,y::ys,h=>by
  rw[aH1]at h ⊢;by_cases e:x=y
  ·subst e;rw[if_pos rfl]at h ⊢;exact aO9 xs ys h
  ·rw[if_neg e]at h;rw[if_neg (λz=>e z.symm)]
   have:=of_decide_eq_true h
   exact decide_eq_false (by omega)
def M0 (a b:List Int):Prop:=HT.j7 b a=false
theorem aC7:∀a b c:List Int,M0 a b->M0 b c->M0 a c
 | [],_,[],_,_=>rfl
 | [],_,_::_,_,_=>rfl
 | _::_,[],_,h,_=>by cases h
 | _::_,_::_,[],_,h=>by cases h
 | x::xs,y::ys,z::zs,h1,h2=>by
  unfold M0 at *;rw[aH1]at *;by_cases e1:y=x
  ·subst e1;rw[if_pos rfl]at h1;by_cases e2:z=y
   ·subst e2;rw[if_pos rfl]at h2 ⊢;exact aC7 xs ys zs h1 h2
   ·rw[if_neg e2]at h2 ⊢;exact h2
  ·rw[if_neg e1]at h1;have h1:=of_decide_eq_false h1;by_cases e2:z=y
   ·subst e2;rw[if_neg e1];exact decide_eq_false h1
   ·rw[if_neg e2]at h2;have h2:=of_decide_eq_false h2;rw[if_neg (by omega)]
    exact decide_eq_false (by omega)
theorem aQ7:∀a b:List Int,M0 a b->M0 b a->a=b
 | [],[],_,_=>rfl
 | [],_::_,_,h=>by cases h
 | _::_,[],h,_=>by cases h
 | x::xs,y::ys,h1,h2=>by
  unfold M0 at *;rw[aH1]at *;by_cases e:x=y
  ·subst e;rw[if_pos rfl]at h1 h2;rw[aQ7 xs ys h1 h2]
  ·rw[if_neg (λz=>e z.symm)]at h1
   rw[if_neg e]at h2;have h1:=of_decide_eq_false h1;have h2:=of_decide_eq_false h2;omega
theorem aW4 (a b:List Int):M0 a b\/M0 b a:=by
 unfold M0;cases h:HT.j7 b a with
 | false=>exact .inl rfl
 | true=>exact .inr (aO9 b a h)
theorem cP4 (ts:Nat->List Int):LS.Ord λi j=>HT.j7 (ts i) (ts j):=
 ⟨λa b h=>aO9 _ _ h,λa b c h1 h2=>aC7 _ _ _ h1 h2⟩
def TupsAt (h:Heap):List Value->List (List Int)->Prop
 | [],[]=>True
 | v::vs,t::ts=>(∃a its,v=.ref a/\IsTup h a its/\IntsAre its.toList t/\t≠[])/\TupsAt h vs ts
 | _,_=>False
theorem TupsAt.length {h:Heap}:∀{vs:List Value} {ts:List (List Int)},TupsAt h vs ts->vs.length=ts.length
 | [],[],_=>rfl
 | _::_,_::_,r=>by simp[TupsAt.length r.2]
 | [],_::_,r=>r.elim
 | _::_,[],r=>r.elim
theorem TupsAt.get {h:Heap}:∀{vs:List Value} {ts:List (List Int)} {i:Nat},TupsAt h vs ts->i<ts.length->∃a its,vs.getD i .none=.ref a/\IsTup h a its/\IntsAre its.toList (ts.getD i [])
 | v::vs,t::ts,0,⟨⟨a,its,e,h1,h2,_⟩,_⟩,_=>⟨a,its,e,h1,h2⟩
 | v::vs,t::ts,i+1,⟨_,r⟩,hi=>TupsAt.get (i:=i) r (by simpa using hi)
 | [],[],_,_,hi=>by simp at hi
 | [],_::_,_,r,_=>r.elim
 | _::_,[],_,r,_=>r.elim
theorem TupsAt.keep {h h':Heap}:∀{vs:List Value} {ts:List (List Int)},TupsAt h vs ts->(∀a its,Value.ref a∈vs->IsTup h a its->IsTup h' a its)->TupsAt h' vs ts
 | [],[],_,_=>trivial
 | v::vs,t::ts,⟨⟨a,its,e,h1,h2,h3⟩,r⟩,k=>⟨⟨a,its,e,k a its (by rw[e];simp) h1,h2,h3⟩,r.keep λa its ha=>k a its (Ad3 _ ha)⟩
 | [],_::_,r,_=>r.elim
 | _::_,[],r,_=>r.elim
theorem TupsAt.kat {h:Heap}:∀{vs:List Value} {ts:List (List Int)},TupsAt h vs ts->∃fs,KatTups h vs fs/\fs.length=vs.length/\∀f∈fs,∃i t,f=Value.int i t
 | [],[],_=>⟨[],.nil,rfl,by simp⟩
 | v::vs,t::ts,⟨⟨a,its,e,⟨o,ho,hc,n,hd⟩,h2,h3⟩,r⟩=>by
  obtain ⟨fs,k1,k2,k3⟩:=r.kat;subst e;obtain ⟨l⟩:=its;cases h2 with
  | nil=>exact absurd rfl h3
  | cons i u r'=>
   refine⟨.int i u::fs,.cons ho hc hd (by simp) k1,by simp[k2],λf hf=>?_⟩
   rcases Aa1.mp hf with rfl | hf
   ·exact⟨_,_,rfl⟩
   ·exact k3 f hf
 | [],_::_,r=>r.elim
 | _::_,[],r=>r.elim
end
section
variable {P:Program}{w:World}{A:Around}{s:Shared}{E:Value->Shared->Prop}
theorem bI0 {L l:Addr}{m:Str->Option Value}{vs:List Value}{ts:List (List Int)}{Q:Value->Shared->Prop}(hL:s.heap.Ns L m)(hl:s.heap.IsList l vs.toArray)(ht:TupsAt s.heap vs ts)(hneL:∀a,Value.ref a∈vs->a≠L)(h2:2<=vs.length)(h64:vs.length<64)
  (h:∀h' D (p:List Nat) c,h'.Ns L m->(∀b o,b≠L->s.heap.get? b=some o->h'.get? b=some o)->s.heap.get? D=none->h'.get? D=some {cls:=.type "list",data:=.seq (p.map λi=>vs.getD i .none).toArray c}->p.Perm (List.range vs.length)->(p.map λi=>ts.getD i []).Pairwise M0->Q (.ref D) {s with heap:=h'}) :
  wpAny (model P w) A (call (.builtin "sorted") [.ref l]) Q E s:=by
 have hlen:=ht.length
 refine kat_sorted (cW5 hL) cI7 hl h2 h64 λD e1 h' F' N' hD=>?_
 have kp:∀b o,b≠L->s.heap.get? b=some o->h'.get? b=some o:=λb o hb e=>(N' (b,o) (Ad3 _ (aB6 hb (w9 _ _) e))).1
 have DL:D≠L:=(N' _ List.mem_cons_self).2.1
 have hDs:s.heap.get? D=none:=by
  cases e:s.heap.get? D with
  | none=>rfl
  | some o=>exact absurd (hD (D,o) (aB6 DL (w9 _ _) e)) (Ad7 _)
 have ht':TupsAt h' vs ts:=ht.keep λa its ha ⟨o,e,r⟩=>⟨o,kp a o (hneL a ha) e,r⟩
 obtain ⟨fs,k1,k2,k3⟩:=ht'.kat;refine kat_kind (s:={s with heap:=h'}) k1 (by omega) (T:=.type "int") (λv hv=>?_) (by decide) ?_
 ·obtain ⟨i,t,rfl⟩:=k3 v hv;exact λA Q E s _ q=>wpAny_of_eq (show typeOf (Value.int i t)=pure (.type "int") from rfl) q
 have et:(Value.type "int" != Value.type "tuple")=true:=by decide
 rw[et];obtain ⟨p',e0,hp,hs,ha⟩:=LS.cL2 (cP4 λi=>ts.getD i []) (N:=vs.length) (by omega)
 refine LS.cT5 (P:=λi=>i<vs.length) (lt:=λi j=>HT.j7 (ts.getD i []) (ts.getD j [])) (λi j C hi hj hC=>?_) _ ha ?_
 ·obtain ⟨a,its,e,⟨o,h1,c1,n1,d1⟩,r1⟩:=ht'.get (i:=i) (by omega)
  obtain ⟨a',its',e',⟨o',h1',c1',n1',d1'⟩,r1'⟩:=ht'.get (i:=j) (by omega)
  unfold kas_ask;rw[e,e'];refine kat_lt (s:={s with heap:=h'}) h1 d1 h1' d1' ?_
  have el:decide (its.size<its'.size)=decide ((ts.getD i []).length<(ts.getD j []).length):=by
   have a1:=r1.length;have a2:=r1'.length
   simp only[Array.length_toList]at a1 a2;rw[a1,a2]
  rw[el];exact aL0 0 r1 r1' hC
 ·rw[e0];refine KasFin.intro F' N' (.head λp hp z=>?_) λh'' c F'' N''=>?_
  ·have:=hD p hp
   rw[z]at this;exact absurd this (Ad7 _)
  ·have kp2:∀b o,b≠L->s.heap.get? b=some o->h''.get? b=some o:=λb o hb e=>(N'' (b,o) (Ad3 _ (aB6 hb (w9 _ _) e))).1
   have hpl:p'.toList.Perm (List.range vs.length):=by simpa using(Array.perm_iff_toList_perm.mp hp)
   refine h h'' D p'.toList c F''.ns kp2 hDs (N'' _ List.mem_cons_self).1 hpl ?_;rw[Ad8,List.pairwise_iff_getElem];intro i j hi hj hij;have hz:p'.toList.length=vs.length:=by rw[hpl.length_eq];simp
   have:=hs i j (Nat.le_of_lt hij) (by omega)
   unfold LS.le at this;rw[LS.aT6,LS.aT6]at this;have hi':i<p'.size:=by simpa using hi
   have hj':j<p'.size:=by simpa using hj
   simp only[Array.getElem?_eq_getElem hi',Array.getElem?_eq_getElem hj',Option.getD_some]at this;unfold M0;simpa using this
end
section
variable {P:Program}{w:World}{A:Around}{s:Shared}{E:Value->Shared->Prop}
theorem aL9 {a:Addr}{vs:List Value}{n:Nat}{P':PySem.Fin->Shared->Prop}(ho:s.heap.get? a=some (seqObj "list" vs.toArray n))(h2:vs.length<2)
  (h:P' (.done (.ret .none)) {s with heap:=sortedHeap s.heap a vs vs.toArray}):wpAny (model P w) A (Builtin.«list.sort» ⟨[.ref a],[]⟩) P' E s:=by
 rw[list_sort_plain];have ha:a<s.heap.objs.size:=Ab3 ho;refine wpAny_bind (listItems_at ho rfl ?_);refine wpAny_bind (listUpdate_at ho rfl ?_);obtain ⟨e1,ho1⟩:∃e1,(s.heap.update a (Obj.mapSeq λ_ => #[])).get? a=some (seqObj "list" #[] e1):=⟨_,get?_update_seq ho (λ_ => #[])⟩
 refine wpAny_bind (seqEpoch_at ho1 rfl ?_);refine wpAny_bind (wpAny_newTuple ?_);refine wpAny_bind (wpAny_newList ?_);refine wpAny_holding ?_;have ho6:(((s.heap.update a (Obj.mapSeq λ_ => #[])).push (seqObj "tuple" vs.toArray 0)).push (seqObj "list" #[] 0)).get? a=some (seqObj "list" #[] e1):=by
  rw[Heap.get?_push_ne _ _ _ (by rw[size_push',Heap.size_update];exact Ab9 (Nat.lt_succ_of_lt ha)),Heap.get?_push_ne _ _ _ (by rw[Heap.size_update];exact Ab9 ha)]
  exact ho1
 show wpAny (model P w) A _ P' E {s with heap:=((s.heap.update a (Obj.mapSeq λ_ => #[])).push (seqObj "tuple" vs.toArray 0)).push (seqObj "list" #[] 0)}
 dsimp only
 have hsz:vs.toArray.size<2:=by simpa using h2
 rw[if_pos hsz,if_pos hsz];refine wpAny_bind (wpAny_pure ?_);rw[StateT.run_pure];refine wpAny_bind (wpAny_pure ?_);dsimp only;refine wpAny_bind (seqEpoch_at ho6 rfl ?_);refine wpAny_bind (listUpdate_at ho6 rfl ?_ (hsz2:=by rw[Array.size_map];show(pairsOf vs).size<=_;rw[pairsOf_size,sizeLine_eq];omega))
 simp only[bne_self_eq_false,Bool.false_eq_true,if_false];refine wpAny_pure ?_;have e:(arrOf (SortSt.mk' general' (vs.toArray.zip vs.toArray) #[] 7 none)).map (·.2)=vs.toArray:=by
  show(vs.toArray.zip vs.toArray).map (·.2)=vs.toArray
  refine Array.ext (by simp) λi h1 h2=>by simp
 have h':=h
 unfold sortedHeap at h';rw[e];exact h'
theorem bB8 {l:Addr}{vs:List Value}{Q:Value->Shared->Prop}(hl:s.heap.IsList l vs.toArray)(h2:vs.length<2)
  (h:Q (.ref (s.heap.objs.size+1)) {s with heap:=sortedAll s.heap vs vs.toArray}):wpAny (model P w) A (call (.builtin "sorted") [.ref l]) Q E s:=by
 refine Calls.call_function_entry kind_sorted plain_sorted entry_sorted (args_sorted1 _) ?_;unfold Builtin.«sorted»;refine wpAny_bind (m:=checkCount "sorted" 1 1 _) (wpAny_pure ?_);refine wpAny_bind (collect_list hl ?_ (by rw[sizeLine_eq];omega))
 refine wpAny_bind (wpAny_newList ?_ (by rw[sizeLine_eq];omega))
 have hsz:((s.heap.push (seqObj "list" #[] 0)).update s.heap.objs.size (Obj.mapSeq (· ++ vs.toArray))).objs.size=s.heap.objs.size+1:=by
  rw[Heap.size_update,size_push']
 have hoL:(((s.heap.push (seqObj "list" #[] 0)).update s.heap.objs.size (Obj.mapSeq (· ++ vs.toArray))).push (seqObj "list" vs.toArray 0)).get? (s.heap.objs.size+1)=some (seqObj "list" vs.toArray 0):=by
  rw[<- hsz];exact Ac3 _ rfl
 show wpAny _ _ _ _ _ {s with heap:=((s.heap.push (seqObj "list" #[] 0)).update s.heap.objs.size (Obj.mapSeq (· ++ vs.toArray))).push (seqObj "list" vs.toArray 0)}
 rw[hsz];refine wpAny_bind (wpAny_holding (wpAny_call_entry slot_list_sort ⟨_,hoL,rfl⟩ entry_list_sort (aL9 hoL h2 ⟨_,rfl,?_⟩) (args_list_sort _)));exact wpAny_pure ⟨_,rfl,h⟩
end
section
variable {X:Cx}
theorem j4 {P:Program}{w:World}{H:Hp}{h:Heap}{a:Addr}:∀(o:HO),ObjOk P w H h a o->∃u,h.get? a=some u
 | .lst _,⟨_,its,n,_,e⟩=>⟨_,e⟩
 | .tup _,⟨_,its,_,o,e,_⟩=>⟨_,e⟩
 | .dK _,⟨_,_,vs,_,o,es,n,e,_⟩=>⟨_,e⟩
 | .dT _,⟨_,_,xs,_,o,es,ep,e,_⟩=>⟨_,e⟩
 | .set _ _,⟨o,es,ep,t,e,_⟩=>⟨_,e⟩
 | .ins _ _ _,⟨_,_,_,e,_⟩=>⟨_,e⟩
 | .own _,e=>e
 | .xd _,⟨mA,⟨o,h1⟩,_⟩=>by
  first
  | exact⟨_,h1.1⟩
  | (obtain ⟨_,_,h2,_⟩:=h1;exact⟨_,h2⟩)
  | (obtain ⟨_,h2,_⟩:=h1;exact⟨_,h2⟩)
 | .met _ _,e=>⟨_,e⟩
 | .rng _ _,⟨_,_,_,e⟩=>⟨_,e⟩
 | .frz _ _,⟨e,_⟩=>⟨_,e⟩
 | .tbl _,e=>⟨_,e⟩
 | .ext _,⟨_,e,_⟩=>e
theorem bK5 {pins:List (Addr×Obj)}{σ:L2.St}{H:Hp}{s:Shared}{h':Heap}{m:Str->Option Value}{D:Addr}{ys:List V}{its:List Value}{c:Nat}(I:Inv X pins σ H s)(hL:s.heap.Ns X.env.locals m)(hL':h'.Ns X.env.locals m)(kp:∀b o,b≠X.env.locals->s.heap.get? b=some o->h'.get? b=some o)
  (hD:s.heap.get? D=none) (e:h'.get? D=some {cls:=.type "list",data:=.seq its.toArray c}) (rv:Vals ys its) (hz:ys.length<=sizeLine):H D=none/\Inv X pins σ (upd H D (.lst ys)) {s with heap:=h'}:=by
 have HD:H D=none:=by
  cases q:H D with
  | none=>rfl
  | some o=>obtain ⟨u,hu⟩:=j4 o (I.hok D o q);rw[hD]at hu;cases hu
 have nD:∀b o,s.heap.get? b=some o->b≠D:=λb o q z=>by rw[z,hD]at q;cases q
 have nH:∀b o,H b=some o->b≠D:=λb o q z=>by rw[z,HD]at q;cases q
 refine⟨HD,?_⟩;refine I.step (g':=s.gens) (d':=s.drawn) (t':=s.toks) (ch:=[]) (by simp) (λb o hb _ _ q _=>kp b o hb q) (λb o hb _ _ q _=>⟨o.slots,kp b o hb q⟩) (λb o _ q n=>by rw[B1 (nD b o q)];exact n) (λb o _ q=>?_)
  (λb xs q=>by rw[B1 (nH b _ q)];exact q) (λb o u q=>by rw[B1 (nH b _ q)];exact q) (λb ps q=>⟨#[],by rw[B1 (nH b _ q)];simpa using q⟩) (λm' hm'=>?_) (λb o q=>?_) I.bare
 ·by_cases hb:b=X.env.locals
  ·subst hb;obtain ⟨o',_,_,ho',_⟩:=hL';exact⟨o',ho'⟩
  ·exact⟨o,kp b o hb q⟩
 ·rw[hm'.eq_nsMap,<- hL.eq_nsMap];exact hL'
 ·by_cases hb:b=D
  ·subst hb;rw[B7]at q;cases q;exact⟨hz,its,c,rv,e⟩
  ·rw[B1 hb]at q;refine(I.hok b o q).stay (λc' v hc q'=>kp c' v ?_ q') (λc' q'=>by rw[B1 (nH c' _ q')];exact q') λc' xs q'=>by rw[B1 (nH c' _ q')];exact q'
   rcases hc with z | z
   ·rw[z];exact C9 q I.free
   ·exact C9 z I.free
end
def TupsV (K:PySem.W.Frag)(H:Hp):List V->List (List Int)->Prop
 | [],[]=>True
 | v::vs,t::ts=>(∃a,v=.ref a/\SqT K H a (t.map V.int)/\t≠[])/\TupsV K H vs ts
 | _,_=>False
theorem TupsV.length {K:PySem.W.Frag}{H:Hp}:∀{vs:List V} {ts:List (List Int)},TupsV K H vs ts->vs.length=ts.length
 | [],[],_=>rfl
 | _::_,_::_,r=>by simp[TupsV.length r.2]
 | [],_::_,r=>r.elim
 | _::_,[],r=>r.elim
section
variable {X:Cx}{pins:List (Addr×Obj)}{σ:L2.St}{H:Hp}{s:Shared}
theorem cL8 (I:Inv X pins σ H s){a:Addr}{xs:List V}(h:SqT X.K H a xs):a≠X.env.locals:=by
 rcases h with (h | ⟨o,h⟩) | ⟨o,its,n,hk,_⟩
 ·exact C9 h I.free
 ·exact C9 h I.free
 ·have:=Ab3 (I.mod.kin a o hk)
  exact Ab9 (Ab8 this (Nat.le_trans I.ok.bsz I.ok.above))
theorem bP1 (I:Inv X pins σ H s):∀{vs:List V} {ts:List (List Int)} {us:List Value},TupsV X.K H vs ts->Vals vs us->TupsAt s.heap us ts/\∀a,Value.ref a∈us->a≠X.env.locals
 | [],[],_,_,r=>by cases r;exact⟨trivial,λa h=>by simp at h⟩
 | v::vs,t::ts,_,⟨⟨a,e,sq,ne⟩,h⟩,r=>by
  subst e;cases r with
  | cons r1 r2=>
   cases r1
   obtain ⟨h1,h2⟩:=bP1 I h r2;obtain ⟨its,rv,p,_⟩:=I.tuple sq;refine⟨⟨⟨a,its.toArray,rfl,p,by simpa using W3 rv,ne⟩,h1⟩,λb hb=>?_⟩
   rcases Aa1.mp hb with e | hb
   ·cases e;exact cL8 I sq
   ·exact h2 b hb
 | [],_::_,_,h,_=>h.elim
 | _::_,[],_,h,_=>h.elim
theorem aW1 {vs:List V}{us:List Value}(r:Vals vs us):∀{q:List Nat},(∀i∈q,i<vs.length)->Vals (q.map λi=>vs.getD i .non) (q.map λi=>us.getD i .none)
 | [],_=>.nil
 | i::q,h=>by
  have hi:=h i (by simp)
  obtain ⟨u,h1,h2⟩:=r.get (i:=i) (x:=vs[i]) (Aa2 hi);refine .cons ?_ (aW1 r λj hj=>h j (by simp[hj]))
  have e1:vs.getD i .non=vs[i]:=by simp[List.getD,hi]
  have e2:us.getD i .none=u:=by simp[List.getD,h1]
  show RelV (vs.getD i .non) (us.getD i .none)
  rw[e1,e2];exact h2
end
section
variable {X:Cx}
theorem t5 (K:PySem.W.Frag)(h:X.K=K:=by rfl):W9 X (.builtin "sorted") (λxs H Q=>∃(p:Addr) (ys:List V) (ts:List (List Int)),xs=[.ref p]/\SqL K H p ys/\TupsV K H ys ts/\ys.length<64 /\
  ∀a (q:List Nat),H a=none->q.Perm (List.range ys.length)->(q.map λi=>ts.getD i []).Pairwise M0->Q (.ref a) (upd H a (.lst (q.map λi=>ys.getD i .non)))):=by
 subst h;intro pins s σ H xs us Q I r ⟨p,ys,ts,e,hq,ht,h64,q⟩;subst e;obtain ⟨u,rfl,rx⟩:=aE3 r;cases rx;obtain ⟨its,rv,pl,hz⟩:=I.list hq;have hlen:=rv.length;have htl:=ht.length;by_cases h2:its.length<2
 ·refine bB8 pl.isList h2 ?_;obtain ⟨e,he⟩:=sortedAll_at s.heap its its.toArray;have fin:=q (s.heap.objs.size+1) (List.range ys.length) (I.hok.fresh (Nat.le_succ _)) (.refl _) (by
   rw[hlen]
   match its.length,h2 with
   | 0,_=>simp
   | 1,_=>simp[List.range_succ])
  have el:((List.range ys.length).map λi=>ys.getD i .non)=ys:=by
   refine List.ext_getElem (by simp) λi h1 h2=>?_
   simp[List.getD,h2]
  rw[el]at fin;exact⟨.ref _,_,I.laid (t':=s.toks) (λb o e=>sortedAll_old e) (Nat.le_succ _) (show ObjOk X.prog X.w _ _ _ (.lst ys) from⟨hz,its,e,rv,he⟩),rfl,fin⟩
 ·obtain ⟨m,hm,_⟩:=I.loc;obtain ⟨ta,tl⟩:=bP1 I ht rv;refine bI0 hm pl.isList ta tl (by omega) (by omega) λh' D pp c hL' kp hD el hp hs=>?_
  have hin:∀i∈pp,i<ys.length:=λi hi=>by have:=Ab5.mp (hp.mem_iff.mp hi);omega
  have rv':=aW1 rv hin
  obtain ⟨HD,I'⟩:=bK5 I hm hL' kp hD el rv' (by rw[Aa3,hp.length_eq,List.length_range];omega)
  exact⟨.ref D,_,I',rfl,q D pp HD (by rw[hlen];exact hp) hs⟩
end
end LV
namespace LV
open PySem L2
section
variable {K:PySem.W.Frag}{ρ ρ' ρ1:List Sl}{m m':Bool}{t ta tb tc:TE}{d d':PyData}{ds es:List PyData}
abbrev lI (l:List Int):PyData:=.list (l.map .int)
abbrev tI (l:List Int):PyData:=.tuple (l.map .int)
theorem aK7:∀l:List Int,M2 (l.map .int)=true
 | []=>rfl
 | _::l=>by simp[M2,imm,aK7 l]
theorem aH3 {α:Type}{f:α->PyData}(h:∀a,imm (f a)=true):∀l:List α,M2 (l.map f)=true
 | []=>rfl
 | a::l=>by simp[M2,h a,aH3 h l]
theorem cC0 (l:List Int):imm (tI l)=true:=by simp[imm,aK7 l]
theorem aY0:∀{l:List PyData},(∀d∈l,imm d=true)->M2 l=true
 | [],_=>rfl
 | a::l,h=>by simp[M2,h a (by simp),aY0 (l:=l) λd hd=>h d (by simp[hd])]
theorem cP6 (i:Int):Fit (.int i):=⟨rfl,by simp[PyData.depth]⟩
def FitN (n:Nat)(d:PyData):Prop:=d.canLay0=true/\d.depth<=n
theorem cF3 (n:Nat)(i:Int):FitN n (.int i):=⟨rfl,by simp[PyData.depth]⟩
theorem aR8 {n:Nat}:∀{l:List PyData},(∀d∈l,FitN n d)->PyData.canLayAll0 l=true/\PyData.depthAll l<=n
 | [],_=>⟨rfl,by simp[PyData.depthAll]⟩
 | a::l,h=>by
  obtain ⟨h1,h2⟩:=h a (by simp)
  obtain ⟨h3,h4⟩:=aR8 (l:=l) λd hd=>h d (by simp[hd])
  exact⟨by simp[PyData.canLayAll0,h1,h3],by simp only[PyData.depthAll];omega⟩
theorem bX6 {n:Nat}{l:List PyData}(h:∀d∈l,FitN n d):FitN (n+1) (.tuple l):=by
 obtain ⟨a,b⟩:=aR8 h;exact⟨by simpa[PyData.canLay0]using a,by simp only[PyData.depth];omega⟩
theorem cI8 {n:Nat}{l:List PyData}(h:∀d∈l,FitN n d):FitN (n+1) (.list l):=by
 obtain ⟨a,b⟩:=aR8 h;exact⟨by simpa[PyData.canLay0]using a,by simp only[PyData.depth];omega⟩
theorem FitN.fit {n:Nat}(h:FitN n d)(hn:n<=32:=by decide):Fit d:=⟨h.1,Nat.le_trans h.2 hn⟩
theorem bZ0 (l:List Int):∀d∈l.map PyData.int,FitN 0 d:=λd hd=>by
 obtain ⟨i,_,rfl⟩:=Aa8.mp hd;exact cF3 0 i
theorem cE4 (l:List Int):FitN 1 (tI l):=bX6 (bZ0 l)
theorem cU0 (ha:E K false ta ρ d)(hb:E K false tb ρ d')(h1:Fit d)(h2:Fit d'):E K m (tOp (cB7 K false) ta tb) ρ (.bool (PyData.eqv d d')):=
 bJ6 false false ha hb λS H x y Q _ rx ry q=>⟨d,d',rx,ry,h1,h2,q _ H (L2.Same.rf _) (.bl _)⟩
theorem bT0 (ha:E K false ta ρ d)(hb:E K false tb ρ d')(h1:Fit d)(h2:Fit d'):E K m (tOp (cB7 K true) ta tb) ρ (.bool (!PyData.eqv d d')):=
 bJ6 false false ha hb λS H x y Q _ rx ry q=>⟨d,d',rx,ry,h1,h2,q _ H (L2.Same.rf _) (.bl _)⟩
theorem cS3 (ha:E K false ta ρ d)(hb:E K false tb ρ d')(hs:sq d'=some ds)(h1:Fit d)(h2:Fit d'):E K m (tOp (dC6 K false) ta tb) ρ (.bool (ds.any λz=>PyData.eqv z d)):=
 bJ6 false false ha hb λS H x y Q _ rx ry q=>⟨d,d',ds,rx,ry,hs,h1,h2,q _ H (L2.Same.rf _) (.bl _)⟩
theorem aF7 {α:Type}[DecidableEq α]{f:α->PyData}(h:∀a b,PyData.eqv (f a) (f b)=decide (a=b)):∀l l':List α,PyData.eqvAll (l.map f) (l'.map f)=decide (l=l')
 | [],[]=>by simp[PyData.eqvAll]
 | [],_::_=>by simp[PyData.eqvAll]
 | _::_,[]=>by simp[PyData.eqvAll]
 | a::l,b::l'=>by
  simp only[Ac6,PyData.eqvAll,h,aF7 h l l',List.cons.injEq];by_cases e:a=b <;> simp[e]
theorem bO9 (a b:Int):PyData.eqv (.int a) (.int b)=decide (a=b):=by
 simp only[PyData.eqv];by_cases h:a=b <;> simp[h]
theorem cX8 (l l':List Int):PyData.eqv (tI l) (tI l')=decide (l=l'):=by
 simp only[PyData.eqv];exact aF7 bO9 l l'
theorem aZ0 {H:Hp}{p:V}{l:List Int}(r:Rep K H p (lI l)):∃a,p=.ref a/\SqL K H a (l.map V.int):=by
 cases r with
 | lst s r=>rw[<- r.ints];exact⟨_,rfl,s⟩
theorem dE1 {t:TA}{l:List Int}{M:Int}(ha:A K false t ρ [lI l])(hM:M∈l/\∀a∈l,M<=a):E K m (tCB (λxs H Q=>∃(p:Addr) (l:List Int),xs=[.ref p]/\SqL K H p (l.map V.int)/\l≠[]/\∀M,M∈l->(∀a∈l,M<=a)->Q (.int M) H) t) ρ (.int M):=cM5 ha λH vs Q r q=>by
 cases r with
 | cons a b=>
  cases b
  obtain ⟨p,rfl,s⟩:=aZ0 a;refine⟨p,l,rfl,s,List.ne_nil_of_mem hM.1,λM' h1 h2=>?_⟩
  have:M'=M:=Int.le_antisymm (h2 M hM.1) (hM.2 M' h1)
  rw[this];exact q _ λ_=>.int _
abbrev lB (l:List Bool):PyData:=.list (l.map .bool)
theorem Reps.bools {H:Hp}:∀{l:List Bool} {vs:List V},Reps K H vs (l.map PyData.bool)->vs=l.map V.bl
 | [],_,r=>by cases r;rfl
 | i::l,_,r=>by
  cases r with
  | cons a b=>cases a;rw[Reps.bools b];rfl
theorem dB9 {t:TA}{l:List Bool}(ha:A K false t ρ [lB l]):E K m (tCB (λxs H Q=>∃(p:Addr) (l:List Bool),xs=[.ref p]/\SqL K H p (l.map V.bl)/\Q (.bl (l.all id)) H) t) ρ (.bool (l.all id)):=cM5 ha λH vs Q r q=>by
 cases r with
 | cons a b=>
  cases b
  cases a with
  | lst s r=>rw[r.bools]at s;exact⟨_,l,rfl,s,q _ λ_=>.bl _⟩
theorem cD4 {l:List Int}{k:Int}(ha:E K false ta ρ (lI l))(hb:E K false tb ρ (.int k))(hk:k∈l) :
  E K m (tBM K "list" (λx xs H Q=>∃(p:Addr) (l:List Int) (k:Int),x=.ref p/\xs=[.int k]/\SqL K H p (l.map V.int)/\k∈l/\Q (.int (l.idxOf k)) H) ta (N0 tb p8)) ρ (.int (l.idxOf k)):=E.bor (E.imm (m:=false) λS B σ H o I Q q=>ha S B σ H o I _ λv H1 s1 r=>by
 obtain ⟨p,rfl,s⟩:=aZ0 r;refine⟨.inl ⟨rfl,_,s⟩,?_⟩;refine hb S B σ H1 o (I.grow s1) _ λu H2 s2 r2=>?_
 cases r2
 exact⟨p,l,k,rfl,rfl,M8 s2 s,hk,q _ H2 (L2.Same.tr s1 s2) (.int _)⟩)
theorem aA8 {S:Addr->Prop}{H1:Hp}{p:Addr}{xs:List V}(hs:∀b,S b->∃u:HM,H1 b=some u.ho)(hp:H1 p=none)(r:Reps K H1 xs ds)(hi:M2 ds=true):Reps K (hid (λb=>S b\/b=p) (upd H1 p (.lst xs))) xs ds:=
 aP5 (λa ys q=>u9 (λb z=>by
  rcases z with z | z
  ·obtain ⟨zs,e⟩:=hs b z;exact⟨zs,by rw[B1 (λz'=>by rw[z',hp]at e;cases e)];exact e⟩
  ·exact⟨.l xs,by rw[z];exact B7⟩) (i5 (E6 hp) q)) ds hi r
theorem cT4 {r:List V->Hp->VK->Prop}{t:TA}(ha:A K false t ρ ds)(hi:M2 es=true)(hr:∀(H:Hp) (vs:List V) (Q:VK),Reps K H vs ds->(∀p xs,H p=none->Reps K H xs es->Q (.ref p) (upd H p (.lst xs)))->r vs H Q):EF K (tCB r t) ρ es:=λS B σ H o I Q q=>
 ha S B σ H o I _ λvs H1 s1 rs=>hr H1 vs Q rs λp xs hp rx=>q p xs _ (L2.Same.tr s1 (E6 hp)) (Y5 s1 hp) B7 (aA8 (I.grow s1).lists hp rx hi)
theorem bA3 {t:TA}(ha:A K false t ρ [d])(hs:sq d=some ds)(hi:M2 ds=true):EF K (tCB (λxs H Q=>∃p ys,xs=[.ref p]/\(SqL K H p ys\/SqT K H p ys)/\∀l,H l=none->Q (.ref l) (upd H l (.lst ys))) t) ρ ds:=cT4 ha hi λH vs Q r q=>by
 cases r with
 | cons a b=>
  cases b
  cases a with
  | lst s r=>cases hs;exact⟨_,_,rfl,.inl s,λl hl=>q l _ hl r⟩
  | tup s r=>cases hs;exact⟨_,_,rfl,.inr s,λl hl=>q l _ hl r⟩
  | _=>cases hs
theorem aD7 {t:TA}(ha:A K false t ρ [.list ds])(hi:M2 ds=true):E K m (tCB (λxs H Q=>∃p ys,xs=[.ref p]/\((SqL K H p ys/\∀l,H l=none->Q (.ref l) (upd H l (.tup ys)))\/(SqT K H p ys/\Q (.ref p) H))) t) ρ (.tuple ds):=E.bor (E.imm (m:=false) (λS B σ H o I Q q=>ha S B σ H o I _ λvs H1 s1 r=>by
 cases r with
 | cons a b=>
  cases b
  cases a with
  | lst s r=>exact⟨_,_,rfl,.inl ⟨s,λl hl=>q _ _ (L2.Same.tr s1 (E6 hl)) (.tup (SqT.of B7) (r.mono (E6 hl)))⟩⟩) (by simp[imm,hi]))
theorem dA8 {t:TA}{i j:Int}(ha:A K false t ρ [.int i,.int j])(hb : -(2^62)<=i/\i<2^62 /\ -(2^62)<=j/\j<2^62/\j-i<=1000000) :
  EF K (tCB (λxs H Q=>∃(r:Addr) (i j:Int),xs=[.ref r]/\H r=some (.rng i j)/\(-(2^62)<=i/\i<2^62 /\ -(2^62)<=j/\j<2^62/\j-i<=1000000)/\∀l,H l=none->Q (.ref l) (upd H l (.lst (aE6 i (j-i).toNat)))) (N0 (cT0 t) p8)) ρ (W4 i (j-i).toNat):=λS B σ H o I Q q=>
 ha S B σ H o I _ λvs H1 s1 r=>by
  cases r with
  | cons a b=>
   cases a
   cases b with
   | cons a b=>
    cases a;cases b
    refine⟨i,j,rfl,λp hp=>⟨p,i,j,rfl,B7,hb,λl hl=>?_⟩⟩
    have g1:=E6 (o:=.rng i j) hp
    have g2:=E6 (o:=.lst (aE6 i (j-i).toNat)) hl
    refine q l _ _ (L2.Same.tr s1 (L2.Same.tr g1 g2)) (Y5 (L2.Same.tr s1 g1) hl) B7 ?_;have e1:aE6 i (j-i).toNat=((List.range (j-i).toNat).map λ(k:Nat)=>i+(k:Int)).map V.int:=by simp[aE6]
    have e2:W4 i (j-i).toNat=((List.range (j-i).toNat).map λ(k:Nat)=>i+(k:Int)).map PyData.int:=by simp[W4]
    rw[e1,e2];exact aK0 _
theorem cH4 (ha:E K false ta ρ (.list ds))(hi:M2 ds=true):EF K (bS8 K ta) ρ ds.reverse:=λS B σ H o I Q q=>
 ha S B σ H o I _ λv H1 s1 r=>by
  cases r with
  | lst s r=>
   refine⟨_,_,rfl,s,λl hl=>q l _ _ (L2.Same.tr s1 (E6 hl)) (Y5 s1 hl) B7 (aA8 (I.grow s1).lists hl r.reverse ?_)⟩
   refine aY0 λd hd=>?_
   have:∀{l:List PyData},M2 l=true->∀d∈l,imm d=true:=λ{l}=>by
    induction l with
    | nil=>simp
    | cons a l ih=>intro h d hd;simp[M2]at h;rcases Aa1.mp hd with rfl | z;exact h.1;exact ih h.2 d z
   exact this hi d (List.mem_reverse.mp hd)
end
def OT.kids:OT->List OT
 | .leaf _ | .dic _=>[]
 | .tup ts=>ts
 | .lst ts=>ts
def OT.at:List Nat->OT->Option OT
 | [],t=>some t
 | k::π,t=>(t.kids[k]?).bind (OT.at π)
def OT.put (t:OT)(π:List Nat)(u:OT):OT:=match π with
 | []=>u
 | k::π=>match t with
  | .lst ts=>.lst (ts.modify k λt=>OT.put t π u)
  | .tup ts=>.tup (ts.modify k λt=>OT.put t π u)
  | .leaf d=>.leaf d
  | .dic d=>.dic d
theorem OT.put_nil {t u:OT}:t.put [] u=u:=by rw[OT.put]
theorem OT.put_lst {ts:List OT}{k:Nat}{π:List Nat}{u:OT}:(OT.lst ts).put (k::π) u=.lst (ts.modify k λt=>OT.put t π u):=by rw[OT.put]
theorem OT.put_tup {ts:List OT}{k:Nat}{π:List Nat}{u:OT}:(OT.tup ts).put (k::π) u=.tup (ts.modify k λt=>OT.put t π u):=by rw[OT.put]
section
variable {K:PySem.W.Frag}{Z Z' H H':Hp}
theorem U3 {α:Type}{f:α->α}:∀{l:List α} {k:Nat} {a:α},l[k]? = some a->l.modify k f=l.set k (f a)
 | [],k,a,h=>by simp at h
 | b::l,0,a,h=>by simp at h;subst h;rfl
 | b::l,k+1,a,h=>by
  have:=U3 (f:=f) (l:=l) (k:=k) (a:=a) (by simpa using h)
  simpa using this
theorem bK7:∀{ts:List OT} {xs:List V} {L:List Addr} {k:Nat} {t:OT},Dps K Z H xs ts L->ts[k]? = some t->∃v L1 L2 L3,xs[k]? = some v/\Dp K Z H v t L2/\L=L1++L2++L3 /\
  ∀(Z' H':Hp) (t':OT) (L2':List Addr),Same Z Z'->(∀a xs,Rd H a (.tup xs)->Rd H' a (.tup xs))->(∀b,b∈L1\/b∈L3->H' b=H b)->Dp K Z' H' v t' L2'->Dps K Z' H' xs (ts.set k t') (L1++L2'++L3)
 | [],_,_,_,_,r,h=>by simp at h
 | t::ts,_,_,0,_,r,h=>by
  simp at h;subst h
  cases r with
  | @cons v _ vs _ La Lb a b=>
   refine⟨v,[],La,Lb,rfl,a,rfl,λZ' H' t' L2' hz ht hl r=>?_⟩
   simpa using Dps.cons r (p7 hz ht ts (λb hb=>hl b (.inr hb)) b)
 | t::ts,_,_,k+1,t1,r,h=>by
  cases r with
  | @cons v _ vs _ La Lb a b=>
   obtain ⟨w,L1,L2,L3,h1,h2,h3,h4⟩:=bK7 (k:=k) (t:=t1) b (by simpa using h)
   refine⟨w,La++L1,L2,L3,by simpa using h1,h2,by rw[h3];simp,λZ' H' t' L2' hz ht hl r=>?_⟩
   have:=Dps.cons (aC8 hz ht t (λb hb=>hl b (.inl (by simp[hb]))) a) (h4 Z' H' t' L2' hz ht (λb hb=>hl b (by rcases hb with hb | hb <;> simp[hb])) r)
   simpa using this
theorem cK5 {t:OT}{v:V}{L:List Addr}{k:Nat}{t1:OT}(r:Dp K Z H v t L)(h:t.kids[k]? = some t1):(∃a xs ts M,v=.ref a/\t=.tup ts/\SqT K H a xs/\Dps K Z H xs ts L/\ts[k]? = some t1/\M=L)\/∃a xs ts M,v=.ref a/\t=.lst ts/\H a=some (.lst xs)/\Dps K Z H xs ts M/\ts[k]? = some t1/\L=a::M:=by
 cases r with
 | leaf r=>simp[OT.kids]at h
 | dic _ _ _ _=>simp[OT.kids]at h
 | tup s r=>exact .inl ⟨_,_,_,_,rfl,rfl,s,r,h,rfl⟩
 | lst s r=>exact .inr ⟨_,_,_,_,rfl,rfl,s,r,h,rfl⟩
def Foc (K:PySem.W.Frag)(Z H:Hp)(v0:V)(t0:OT)(L0:List Addr)(π:List Nat)(v:V)(t:OT):Prop:=
 ∃L A C,Dp K Z H v t L/\L0=A++L++C/\∀(Z' H':Hp) (t':OT) (L':List Addr),Same Z Z'->(∀a xs,Rd H a (.tup xs)->Rd H' a (.tup xs))->(∀b,b∈A\/b∈C->H' b=H b)->Dp K Z' H' v t' L'->Dp K Z' H' v0 (t0.put π t') (A++L'++C)
theorem Foc.root {v0:V}{t0:OT}{L0:List Addr}(r:Dp K Z H v0 t0 L0):Foc K Z H v0 t0 L0 [] v0 t0:=
 ⟨L0,[],[],r,by simp,λZ' H' t' L' _ _ _ r'=>by rw[OT.put_nil];simpa using r'⟩
theorem Foc.mono {v0 v:V}{t0 t:OT}{L0:List Addr}{π:List Nat}(f:Foc K Z H v0 t0 L0 π v t)(hz:Same Z Z')(ht:∀a xs,Rd H a (.tup xs)->Rd H' a (.tup xs))(hl:∀b∈L0,H' b=H b):Foc K Z' H' v0 t0 L0 π v t:=by
 obtain ⟨L,A,C,h1,h2,h3⟩:=f;refine⟨L,A,C,aC8 hz ht t (λb hb=>hl b (by rw[h2];simp[hb])) h1,h2,λZ2 H2 t' L' hz' ht' hl' r'=>h3 Z2 H2 t' L' (L2.Same.tr hz hz') (λa xs z=>ht' a xs (ht a xs z)) (λb hb=>?_) r'⟩
 rw[hl' b hb];exact hl b (by rw[h2];rcases hb with hb | hb <;> simp[hb])
theorem aH8 {u t1:OT}{k:Nat}:∀{π:List Nat} {t0 t:OT},t0.at π=some t->t0.put π (t.put [k] u)=t0.put (π++[k]) u
 | [],t0,t,h=>by cases h;rw[OT.put_nil];rfl
 | j::π,t0,t,h=>by
  unfold OT.at at h;cases hk:t0.kids[j]? with
  | none=>rw[hk]at h;cases h
  | some t1=>
   rw[hk]at h;have h:t1.at π=some t:=h;cases t0 with
   | leaf d=>simp[OT.kids]at hk
   | dic d=>simp[OT.kids]at hk
   | lst ts=>
    have hk:ts[j]? = some t1:=hk
    rw[Ab6,OT.put_lst,OT.put_lst,U3 hk,U3 hk,aH8 (t1:=t1) h]
   | tup ts=>
    have hk:ts[j]? = some t1:=hk
    rw[Ab6,OT.put_tup,OT.put_tup,U3 hk,U3 hk,aH8 (t1:=t1) h]
theorem aH4 {k:Nat}:∀{π:List Nat} {t0 t:OT},t0.at π=some t->t0.at (π++[k])=t.kids[k]?
 | [],t0,t,h=>by
  cases h
  show(t0.kids[k]?).bind (OT.at [])=_
  cases t0.kids[k]? <;> rfl
 | j::π,t0,t,h=>by
  unfold OT.at at h;rw[Ab6];show(t0.kids[j]?).bind (OT.at (π++[k]))=_;cases hk:t0.kids[j]? with
  | none=>rw[hk]at h;cases h
  | some t1=>
   rw[hk]at h;exact aH4 (π := π) (t0:=t1) h
theorem Foc.down {v0 v:V}{t0 t t1:OT}{L0:List Addr}{π:List Nat}{k:Nat}(f:Foc K Z H v0 t0 L0 π v t)(ha:t0.at π=some t)(h:t.kids[k]? = some t1) :
  ∃a xs u,v=.ref a/\(SqL K H a xs\/SqT K H a xs)/\xs[k]? = some u/\Foc K Z H v0 t0 L0 (π++[k]) u t1:=by
 obtain ⟨L,A,C,h1,h2,h3⟩:=f;rcases cK5 h1 h with ⟨a,xs,ts0,M,rfl,rfl,s,r1,e,rfl⟩ | ⟨a,xs,ts0,M,rfl,rfl,s,r1,e,rfl⟩
 ·obtain ⟨u,L1,L2,L3,g1,g2,g3,g4⟩:=bK7 r1 e;refine⟨a,xs,u,rfl,.inr s,g1,L2,A++L1,L3++C,g2,by rw[h2,g3];simp,λZ' H' t' L' hz ht hl r'=>?_⟩
  have:=h3 Z' H' _ _ hz ht (λb hb=>hl b (by rcases hb with hb | hb <;> simp[hb])) (Dp.tup (s.imp (ht _ _) id) (g4 Z' H' t' L' hz ht (λb hb=>hl b (by rcases hb with hb | hb <;> simp[hb])) r'))
  rw[<- aH8 (t1:=t1) ha,OT.put_tup,U3 e,OT.put_nil];simpa using this
 ·obtain ⟨u,L1,L2,L3,g1,g2,g3,g4⟩:=bK7 r1 e;refine⟨a,xs,u,rfl,.inl (SqL.of s),g1,L2,A++a::L1,L3++C,g2,by rw[h2,g3];simp,λZ' H' t' L' hz ht hl r'=>?_⟩
  have:=h3 Z' H' _ _ hz ht (λb hb=>hl b (by rcases hb with hb | hb <;> simp[hb])) (Dp.lst (by rw[hl a (by simp)];exact s) (g4 Z' H' t' L' hz ht (λb hb=>hl b (by rcases hb with hb | hb <;> simp[hb])) r'))
  rw[<- aH8 (t1:=t1) ha,OT.put_lst,U3 e,OT.put_nil];simpa using this
end
section
variable {K:PySem.W.Frag}{ρ ρ' ρ1:List Sl}{m m':Bool}{t ta tb tc:TE}{d d':PyData}{ds es:List PyData}{u u0 u1:OT}{us:List OT}
def EFT (K:PySem.W.Frag)(t:TE)(ρ:List Sl)(u:OT):Prop:=
 ∀(S:Addr->Prop) (B:Hp) (σ:St) (H:Hp) (o:Nat->List Addr),Env K S B H σ ρ o->∀Q:VK,
  (∀v L H',Same H H'->(∀b∈L,H b=none)->L.Nodup->Dp K (hid (λb=>C8 ρ o S b\/b∈L) H') H' v u L->Q v H')->t σ H Q
def AFT (K:PySem.W.Frag)(t:TA)(ρ:List Sl)(us:List OT):Prop:=
 ∀(S:Addr->Prop) (B:Hp) (σ:St) (H:Hp) (o:Nat->List Addr),Env K S B H σ ρ o->∀Q:List V->Hp->Prop,
  (∀vs L H',Same H H'->(∀b∈L,H b=none)->L.Nodup->Dps K (hid (λb=>C8 ρ o S b\/b∈L) H') H' vs us L->Q vs H')->t σ H Q
theorem aX6 {S:Addr->Prop}{H:Hp}:Same (hid S H) (hid (λb=>S b\/b∈([]:List Addr)) H):=D9 (L2.Same.rf _) λb z _=>z.elim id λz=>nomatch z
theorem aV8 (h:E K true t ρ d):EFT K t ρ (.leaf d):=λS B σ H o I Q q=>h S B σ H o I _ λv H' s r=>
 q v [] H' s (λ_ z=>nomatch z) .nil (.leaf (r.mono aX6))
theorem aN8 {Z H:Hp}:∀{us:List OT} {vs:List V} {L:List Addr},Dps K Z H vs us L->vs.length=us.length
 | [],_,_,r=>by cases r;rfl
 | u::us,_,_,r=>by cases r with | cons a b=>simp[aN8 b]
theorem K4:AFT K p8 ρ []:=λS B σ H o I Q q=>q [] [] H (L2.Same.rf _) (λ_ z=>nomatch z) .nil .nil
theorem Dps.mono {Z Z' H H':Hp}{vs:List V}{L:List Addr}(r:Dps K Z H vs us L)(hz:Same Z Z')(h:Same H H'):Dps K Z' H' vs us L:=
 p7 hz (λ_ _=>i5 h) us (λb hb=>by obtain ⟨xs,e⟩:=p6 us r b hb;rw[e];exact h _ _ e) r
theorem Env.hide {S:Addr->Prop}{B H H1:Hp}{σ:St}{o:Nat->List Addr}{L:List Addr}(I:Env K S B H σ ρ o)(s:Same H H1)(n:∀b∈L,H b=none)(l:∀b∈L,∃u:HM,H1 b=some u.ho) :
  Env K (λb=>S b\/b∈L) (hid (cB9 ρ o) H1) H1 σ ρ o:=by
 obtain ⟨J,sb⟩:=(I.grow s).rebase;have g:Same (hid (C8 ρ o S) H) (hid (C8 ρ o λb=>S b\/b∈L) H1):=D9 s λb z k=>by
  rcases z with (z | z) | z
  ·exact .inl z
  ·exact absurd (n b z) k
  ·exact .inr z
 refine⟨I.len,X6,λb z=>?_,J.new,I.inj,λi ds h=>?_,λi d h=>?_,λi d h=>?_,λi t h=>?_⟩
 ·rcases z with z | z
  ·exact J.sl b z
  ·obtain ⟨xs,e⟩:=l b z;refine⟨xs,hid_some.mpr ⟨λ⟨i,x,h,hx,hb⟩=>?_,e⟩⟩
   obtain ⟨ys,e'⟩:=I.lists b (.inr ⟨i,x,h,hx,hb⟩);rw[n b z]at e';cases e'
 ·obtain ⟨p,h1,h2,xs,h3,h4⟩:=I.own i ds h;exact⟨p,h1,h2,xs,s _ _ h3,h4.mono g⟩
 ·obtain ⟨v,h1,h2⟩:=I.val i d h;exact⟨v,h1,h2.mono g⟩
 ·obtain ⟨v,h1,h2⟩:=I.bor i d h;exact⟨v,h1,h2.mono s⟩
 ·obtain ⟨nd,v,h1,h2⟩:=I.tr i t h;exact⟨nd,v,h1,h2.mono g s⟩
theorem cM6 {o:Nat->List Addr}{S:Addr->Prop}{L:List Addr}{b:Addr}:C8 ρ o (λb=>S b\/b∈L) b↔C8 ρ o S b\/b∈L:=by
 constructor
 ·rintro ((z | z) | z)
  ·exact .inl (.inl z)
  ·exact .inr z
  ·exact .inl (.inr z)
 ·rintro ((z | z) | z)
  ·exact .inl (.inl z)
  ·exact .inr z
  ·exact .inl (.inr z)
theorem G1 {tr:TA}(ha:EFT K ta ρ u)(hr:AFT K tr ρ us):AFT K (N0 ta tr) ρ (u::us):=λS B σ H o I Q q=>
 ha S B σ H o I _ λx La H1 s1 n1 d1 r1=>hr _ _ σ H1 o (I.hide s1 n1 (aB4 u r1)) _ λxs Lb H2 s2 n2 d2 r2=>by
  have l1:=aB4 u r1
  refine q (x::xs) (La++Lb) H2 (L2.Same.tr s1 s2) (λb hb=>?_) ?_ (.cons (r1.mono ?_ s2) (r2.mono ?_ (L2.Same.rf _)))
  ·rcases Aa0.mp hb with hb | hb
   ·exact n1 b hb
   ·exact Y5 s1 (n2 b hb)
  ·refine Aa4.mpr ⟨d1,d2,λa ha b hb e=>?_⟩
   subst e;obtain ⟨xs,e⟩:=l1 a ha;rw[n2 a hb]at e;cases e
  ·refine D9 s2 λb z k=>?_
   rcases z with z | z
   ·exact .inl z
   ·rcases Aa0.mp z with z | z
    ·exact .inr z
    ·exact absurd (n2 b z) k
  ·refine D9 (L2.Same.rf _) λb z _=>?_
   rw[cM6];rcases z with z | z
   ·exact .inl (.inl z)
   ·rcases Aa0.mp z with z | z
    ·exact .inl (.inr z)
    ·exact .inr z
theorem aO0 {t:TA}(h:AFT K t ρ us)(hl:us.length<=sizeLine:=by first | decide | (unfold PySem.sizeLine;simp)):EFT K (bJ5 t) ρ (.tup us):=λS B σ H o I Q q=>h S B σ H o I _ λxs L H1 s1 n d r=>
 ⟨by rw[aN8 r];exact hl,λp hp=>by
  have g:=E6 (o:=.tup xs) hp
  exact q _ L _ (L2.Same.tr s1 g) n d (.tup (SqT.of B7) (r.mono (M9 g) g))⟩
theorem P0 {t:TA}(h:AFT K t ρ us)(hl:us.length<=sizeLine:=by first | decide | (unfold PySem.sizeLine;simp)):EFT K (dB7 t) ρ (.lst us):=λS B σ H o I Q q=>h S B σ H o I _ λxs L H1 s1 n d r=>
 ⟨by rw[aN8 r];exact hl,λp hp=>by
  have g:=E6 (o:=.lst xs) hp
  refine q _ (p::L) _ (L2.Same.tr s1 g) (λb hb=>?_) (Aa5.mpr ⟨λz=>?_,d⟩) (.lst B7 (r.mono ?_ g))
  ·rcases Aa1.mp hb with rfl | hb
   ·exact Y5 s1 hp
   ·exact n b hb
  ·obtain ⟨ys,e⟩:=p6 us r p z;rw[hp]at e;cases e
  ·refine D9 g λb z k=>?_
   rcases z with z | z
   ·exact .inl z
   ·rcases Aa1.mp z with rfl | z
    ·exact absurd hp k
    ·exact .inr z⟩
theorem cB0 {i:Nat}{R:AE}(h:EFT K t ρ u)(hn:R.nx (ρ.set i (.tr u)))(hi:i<ρ.length:=by first | decide | (simp;done) | (simp[LV.sl0];done)):W K (aM8 t (U1 i)) ρ R:=λS B D σ H o I s=>
 h S B σ H o I _ λv L H' s' n d r=>s.nx _ _ H' _ (I.put i hi (λ_=>False) (λ_ z=>z.elim) (λb y q _=>s' b y q) (λb z=>.inr (n b z)) (.inr ⟨u,rfl,d,r⟩) (.inl λ_ z=>z)) hn
def AtP (K:PySem.W.Frag)(t:TE)(ρ:List Sl)(i:Nat)(π:List Nat):Prop:=
 ∀(S:Addr->Prop) (B:Hp) (σ:St) (H:Hp) (o:Nat->List Addr),Env K S B H σ ρ o->∀(u0 u:OT),ρ[i]? = some (.tr u0)->u0.at π=some u->∀Q:VK,
  (∀v0 v H',Same H H'->σ[i]? = some (some v0)->Foc K (hid (C8 ρ o S) H') H' v0 u0 (o i) π v u->Q v H')->t σ H Q
theorem aF5 {i:Nat}:AtP K (Q7 i) ρ i []:=λS B σ H o I u0 u h hu Q q=>by
 cases hu
 obtain ⟨_,v,a,b⟩:=I.tr i u0 h;exact⟨v,a,q v v H (L2.Same.rf _) a (Foc.root b)⟩
theorem Foc.grow {Z Z' H H':Hp}{v0 v:V}{L0:List Addr}{π:List Nat}(f:Foc K Z H v0 u0 L0 π v u)(l:∀b∈L0,∃u:HM,H b=some u.ho)(hz:Same Z Z')(h:Same H H'):Foc K Z' H' v0 u0 L0 π v u:=
 f.mono hz (λ_ _=>i5 h) λb hb=>by obtain ⟨xs,e⟩:=l b hb;rw[e];exact h _ _ e
theorem Env.trL {S:Addr->Prop}{B H:Hp}{σ:St}{o:Nat->List Addr}{i:Nat}(I:Env K S B H σ ρ o)(h:ρ[i]? = some (.tr u0)):∀b∈o i,∃u:HM,H b=some u.ho:=λb hb=>I.lists b (.inr ⟨i,_,h,rfl,hb⟩)
theorem aJ0 {i:Nat}{π:List Nat}{k:Int}(n:Nat)(hp:AtP K ta ρ i π)(hb:E K false tb ρ (.int k))(hk:k=n)(hd:∀u0,ρ[i]? = some (.tr u0)->∃u,u0.at π=some u):AtP K (tOp (rIx K) ta tb) ρ i (π++[n]):=λS B σ H o I u0 u1 h hu Q q=>by
 obtain ⟨u,hu0⟩:=hd u0 h;rw[aH4 hu0]at hu;refine hp S B σ H o I u0 u h hu0 _ λv0 v H1 s1 a f=>?_
 refine hb S B σ H1 o (I.grow s1) _ λw H2 s2 r=>?_
 cases r
 have f2:=f.grow ((I.grow s1).trL h) (M9 s2) s2
 obtain ⟨p,xs,x,rfl,hs,hx,f3⟩:=f2.down hu0 hu;have e:=Q0 n hk hx;rcases hs with hs | hs
 ·exact .inl ⟨p,xs,k,x,rfl,rfl,hs,e,q v0 x H2 (L2.Same.tr s1 s2) a f3⟩
 ·exact .inr (.inl ⟨p,xs,k,x,rfl,rfl,hs,e,q v0 x H2 (L2.Same.tr s1 s2) a f3⟩)
end
section
variable {K:PySem.W.Frag}{ρ ρ' ρ1:List Sl}{m m':Bool}{t ta tb tc:TE}{d d':PyData}{ds es:List PyData}{u u0 u1:OT}{us us':List OT}
theorem aR4 {S:Addr->Prop}{B H H2:Hp}{σ:St}{o:Nat->List Addr}{i:Nat}{π:List Nat}{v0:V}{p:Addr}{x:V}{Lx:List Addr}(I:Env K S B H σ ρ o)(hi:ρ[i]? = some (.tr u0))(hv:σ[i]? = some (some v0))
  (f:Foc K (hid (C8 ρ o S) H) H v0 u0 (o i) π (.ref p) (.lst us)) (s:Same H H2) (hN:∀b∈Lx,H b=none) (dx:Lx.Nodup) (rx:Dp K (hid (λb=>C8 ρ o S b\/b∈Lx) H2) H2 x u Lx)
  (nb:∀(j:Nat) (d:PyData),ρ[j]?≠some (Sl.bor d)) (fx:List V->List V) (us':List OT)
  (hc:∀(xs:List V) (M:List Addr) (Z' H':Hp),Dps K Z' H' xs us M->Dp K Z' H' x u Lx->∃M',Dps K Z' H' (fx xs) us' M'/\((M++Lx).Nodup->M'.Nodup)/\∀b∈M',b∈M++Lx) :
  ∃xs,H2 p=some (.lst xs)/\xs.length=us.length/\∃o',Env K S B (upd H2 p (.lst (fx xs))) σ (ρ.set i (.tr (u0.put π (.lst us')))) o':=by
 obtain ⟨nd,v0',hv',r0⟩:=I.tr i u0 hi;obtain ⟨L,A,C,h1,h2,h3⟩:=f;cases h1 with
 | @lst _ xs _ M hp r=>
 have hlt:i<ρ.length:=(Ab0.mp hi).1
 have oi:∀b∈o i,cF6 ρ o i b:=λb hb=>⟨_,hi,rfl,hb⟩
 have os:∀b∈o i,C8 ρ o S b:=λb hb=>.inr ⟨i,_,hi,rfl,hb⟩
 have pin:p∈o i:=by rw[h2];simp
 have sub:∀b,(b∈A\/b∈M\/b∈C)->b∈o i/\b≠p:=λb hb=>by
  rw[h2]at nd ⊢;refine⟨by rcases hb with hb | hb | hb <;> simp[hb],λe=>?_⟩
  subst e;simp only[Aa4,Aa5,Ab6,Aa0,Aa1,Ad5]at nd;grind
 have lst:=I.trL hi
 have up:∀b,b∈o i->b≠p->upd H2 p (.lst (fx xs)) b=H b:=λb hb hne=>by
  rw[B1 hne];obtain ⟨ys,e⟩:=lst b hb;rw[e];exact s _ _ e
 have tk:∀a ys,Rd H2 a (.tup ys)->Rd (upd H2 p (.lst (fx xs))) a (.tup ys):=λa ys q=>by
  have n:a≠p:=λe=>by
   subst e
   have:=s _ _ hp
   rcases q with q | ⟨o,q⟩ <;> rw[this]at q <;> cases q
  rcases q with q | ⟨o,q⟩
  ·exact .inl (by rw[B1 n];exact q)
  ·exact .inr ⟨o,by rw[B1 n];exact q⟩
 have z1:Same (hid (C8 ρ o S) H) (hid (λb=>C8 ρ o S b\/b∈Lx) (upd H2 p (.lst (fx xs)))):=λb y q=>by
  obtain ⟨q1,q2⟩:=hid_some.mp q;refine hid_some.mpr ⟨λz=>z.elim q1 λz=>(by rw[hN b z]at q2;cases q2),?_⟩
  rw[B1 (λe=>q1 (os b (by rw[e];exact pin)))]
  exact s _ _ q2
 have z2:Same (hid (λb=>C8 ρ o S b\/b∈Lx) H2) (hid (λb=>C8 ρ o S b\/b∈Lx) (upd H2 p (.lst (fx xs)))):=λb y q=>by
  obtain ⟨q1,q2⟩:=hid_some.mp q;refine hid_some.mpr ⟨q1,?_⟩;rw[B1 (λe=>q1 (.inl (os b (by rw[e];exact pin))))]
  exact q2
 have pN:p∉Lx:=λz=>by rw[hN p z]at hp;cases hp
 obtain ⟨M',c1,c2,c3⟩:=hc xs M _ _ (p7 z1 (λa ys q=>tk a ys (i5 s q)) us (λb hb=>up b (sub b (.inr (.inl hb))).1 (sub b (.inr (.inl hb))).2) r)
  (aC8 z2 tk u (λb hb=>by rw[B1 (λe=>pN (by rw[<- e];exact hb))]) rx)
 have fin:=h3 _ _ (.lst us') (p::M') z1 (λa ys q=>tk a ys (i5 s q)) (λb hb=>up b (sub b (by rcases hb with hb | hb <;> simp[hb])).1 (sub b (by rcases hb with hb | hb <;> simp[hb])).2) (.lst B7 c1)
 have far:∀b∈Lx,b∉o i:=λb hb hb'=>by
  obtain ⟨ys,e⟩:=lst b hb';rw[hN b hb]at e;cases e
 have mem:∀b∈A++p::M'++C,b∈o i\/b∈Lx:=λb hb=>by
  rw[h2]
  have:=c3 b
  simp only[Aa0,Aa1]at hb this ⊢;grind
 have nodup:(A++p::M'++C).Nodup:=by
  rw[h2]at nd far;simp only[Aa4,Aa5,Ab6,Aa0,Aa1,Ad5]at nd far c2 c3 ⊢;grind
 refine⟨xs,s _ _ hp,aN8 r,bB0 o i (A++p::M'++C),?_⟩
 have:=I.put (H':=upd H2 p (.lst (fx xs))) (v:=v0) (x:=.tr (u0.put π (.lst us'))) (L:=A++p::M'++C) i hlt (λb=>b=p) (λb z=>by rw[z];exact oi p pin) (λb y q z=>by rw[B1 z];exact s _ _ q)
  (λb hb=>(mem b hb).imp (oi b) (hN b))
  (.inr ⟨_,rfl,nodup,fin.mono (D9 (L2.Same.rf _) λb z _=>z.elim .inl λz=>(mem b z).elim (λz=>.inl (os b z)) .inr) (L2.Same.rf _)⟩) (.inr nb)
 rw[bF9 hv]at this;exact this
theorem aR6 {Z H:Hp}{x:V}{Lx:List Addr}:∀{us:List OT} {xs:List V} {M:List Addr},Dps K Z H xs us M->Dp K Z H x u Lx->Dps K Z H (xs++[x]) (us++[u]) (M++Lx)
 | [],_,_,r,h=>by cases r;simpa using Dps.cons h .nil
 | a::us,_,_,r,h=>by
  cases r with
  | @cons v _ vs _ La Lb r1 r2=>
   have:=Dps.cons r1 (aR6 r2 h)
   simpa using this
theorem r9 {i:Nat}{π:List Nat}{R:AE}(hp:AtP K ta ρ i π)(hi:ρ[i]? = some (.tr u0))(hu:u0.at π=some (.lst us))(he:EFT K tb ρ u)(hl:us.length<sizeLine)(hn:R.nx (ρ.set i (.tr (u0.put π (.lst (us++[u]))))))(nb:X4 ρ=true:=by rfl) :
  W K (bE1 (tBM K "list" aG7 ta (N0 tb p8))) ρ R:=λS B D σ H o I s=>by
 refine hp S B σ H o I u0 _ hi hu _ λv0 v H1 s1 a f=>?_
 have ⟨L,A,C,f1,f2,f3⟩:=f
 cases f1 with
 | @lst p xs _ M hpp r=>
 refine⟨.inl ⟨rfl,_,SqL.of hpp⟩,?_⟩;refine he S B σ H1 o (I.grow s1) _ λx Lx H2 s2 n d rx=>?_
 obtain ⟨ys,e1,e2,o',J⟩:=aR4 (I.grow s1) hi a f s2 n d rx (O3 nb) (λxs=>xs++[x]) (us++[u]) λxs M Z' H' r1 r2=>⟨M++Lx,aR6 r1 r2,λh=>h,λb hb=>hb⟩
 exact⟨p,ys,x,rfl,rfl,e1,by rw[e2];exact hl,s.nx _ σ _ o' J hn⟩
theorem bR7 {Z H:Hp}{x:V}:∀{us:List OT} {xs:List V} {M:List Addr} {n:Nat},Dps K Z H xs us M->Dp K Z H x u []->∃M',Dps K Z H (xs.set n x) (us.set n u) M'/\(M.Nodup->M'.Nodup)/\∀b∈M',b∈M
 | [],_,_,n,r,h=>by cases r;exact⟨[],.nil,id,λ_ z=>z⟩
 | a::us,_,_,0,r,h=>by
  cases r with
  | @cons v _ vs _ La Lb r1 r2=>exact⟨Lb,by simpa using Dps.cons h r2,λz=>(Aa4.mp z).2.1,λb hb=>by simp[hb]⟩
 | a::us,_,_,n+1,r,h=>by
  cases r with
  | @cons v _ vs _ La Lb r1 r2=>
   obtain ⟨M',h1,h2,h3⟩:=bR7 (n:=n) r2 h;refine⟨La++M',Dps.cons r1 h1,λz=>?_,λb hb=>?_⟩
   ·obtain ⟨z1,z2,z3⟩:=Aa4.mp z;exact Aa4.mpr ⟨z1,h2 z2,λa ha b hb=>z3 a ha b (h3 b hb)⟩
   ·rcases Aa0.mp hb with hb | hb
    ·simp[hb]
    ·simp[h3 b hb]
theorem cU8 {i:Nat}{π:List Nat}{k:Int}{R:AE}(n:Nat)(he:E K true t ρ d)(hp:AtP K ta ρ i π)(hk:E K false tb ρ (.int k))(hkn:k=n)(hn':n<us.length)(hi:ρ[i]? = some (.tr u0))(hu:u0.at π=some (.lst us))(hn:R.nx (ρ.set i (.tr (u0.put π (.lst (us.set n (.leaf d)))))))(nb:X4 ρ=true:=by rfl) :
  W K (aM8 t (cY3 ta tb cI5)) ρ R:=λS B D σ H o I s=>by
 refine he S B σ H o I _ λx H0 s0 rx=>?_
 refine hp S B σ H0 o (I.grow s0) u0 _ hi hu _ λv0 v H1 s1 a f=>?_
 have ⟨L,A,C,f1,f2,f3⟩:=f
 cases f1 with
 | @lst p xs _ M hpp r=>
 refine hk S B σ H1 o ((I.grow s0).grow s1) _ λw H2 s2 rw_=>?_
 cases rw_
 obtain ⟨ys,e1,e2,o',J⟩:=aR4 (x:=x) (u:=.leaf d) (Lx:=[]) ((I.grow s0).grow s1) hi a f s2 (λb z=>nomatch z) .nil (.leaf (rx.mono (L2.Same.tr (M9 (L2.Same.tr s1 s2)) aX6))) (O3 nb) (λxs=>xs.set n x) (us.set n (.leaf d)) λxs M Z' H' r1 r2=>by
  obtain ⟨M',g1,g2,g3⟩:=bR7 (n:=n) r1 r2;exact⟨M',g1,λh=>g2 (by simpa using h),λb hb=>by simpa using g3 b hb⟩
 exact⟨p,ys,k,n,rfl,rfl,e1,by unfold ixN;rw[if_pos (by omega),if_pos (by omega)];simp[hkn],s.nx _ σ _ o' J hn⟩
def EX (K:PySem.W.Frag)(t:TE)(ρ:List Sl)(j:Nat)(d:PyData)(ρ':List Sl):Prop:=
 ∀(S:Addr->Prop) (B:Hp) (σ:St) (H:Hp) (o:Nat->List Addr),Env K S B H σ ρ o->∀Q:VK,(∀v H' o',Env K S B H' σ ρ' o'->(∀k,k≠j->o' k=o k)->(∀b y,H b=some y->b∉o j->H' b=some y)->(∀b∈o j,∃u:HM,H b=some u.ho) ->
  Same (hid (C8 ρ o S) H) (hid (C8 ρ' o' S) H')->Rep K (hid (C8 ρ' o' S) H') v d->Q v H')->t σ H Q
theorem bN4 {j:Nat}(hj:ρ[j]? = some (.own (ds++[d])))(nb:X4 ρ=true:=by rfl):EX K (cY9 K "list" cZ5 (Q7 j)) ρ j d (ρ.set j (.own ds)):=λS B σ H o I Q q=>by
 obtain ⟨p,hp,a,xs,b,c⟩:=I.own j _ hj;have hl:=c.length;obtain ⟨y,h1,h2⟩:=c.get' (i:=ds.length) (d:=d) (by simp)
 refine⟨_,a,.inl ⟨rfl,xs,SqL.of b⟩,_,xs,y,rfl,rfl,b,by rw[hl];simpa using h1,?_⟩
 have c':=c.dropLast
 rw[List.dropLast_concat]at c';have I':=I.upd hj hp c' (O3 nb);have g:=aX5 (S:=S) (H:=H) (xs:=xs.dropLast) (es:=ds) hj hp;exact q y _ _ I' (λk hk=>V5 (Ne.symm hk)) (λb' x e n=>by rw[B1 (λz=>n (by rw[hp,z];simp))];exact e) (λb' hb=>I.lists b' (.inr ⟨j,_,hj,rfl,hb⟩)) g (h2.mono g)
theorem cC3 {j:Nat}{k:Int}(n:Nat)(hj:ρ[j]? = some (.own ds))(hk:E K false tb ρ (.int k))(hkn:k=n)(hn:ds[n]? = some d)(hb:n<2^63)(nb:X4 ρ=true:=by rfl):EX K (tBM K "list" cD5 (Q7 j) (N0 tb p8)) ρ j d (ρ.set j (.own (ds.eraseIdx n))):=λS B σ H0 o I0 Q q=>by
 obtain ⟨p,hp,a,xs,b0,c0⟩:=I0.own j _ hj;refine⟨_,a,.inl ⟨rfl,xs,SqL.of b0⟩,?_⟩;refine hk S B σ H0 o I0 _ λw H s0 r=>?_
 cases r
 have I:=I0.grow s0
 have b:=s0 _ _ b0
 have c:=c0.mono (M9 s0)
 obtain ⟨y,h1,h2⟩:=c.get' hn;have hl:=(Ab0.mp h1).1;refine⟨_,xs,k,n,y,rfl,rfl,b,by omega,by omega,(aY2 (by unfold ixN;rw[if_pos (by omega),if_pos (by omega)];simp[hkn])).1,h1,?_⟩
 have I':=I.upd hj hp (c.eraseIdx n) (O3 nb)
 have g:=aX5 (S:=S) (H:=H) (xs:=xs.eraseIdx n) (es:=ds.eraseIdx n) hj hp
 exact q y _ _ I' (λk hk=>V5 (Ne.symm hk)) (λb' x e m=>by rw[B1 (λz=>m (by rw[hp,z];simp))];exact s0 _ _ e) (λb' hb=>I0.lists b' (.inr ⟨j,_,hj,rfl,hb⟩)) (L2.Same.tr (M9 s0) g) (h2.mono g)
theorem aK4 {i j:Nat}{R:AE}(hx:EX K t ρ j d ρ')(hi:ρ[i]? = some (.own ds))(hi':ρ'[i]? = some (.own ds))(hl:ds.length<sizeLine)(hn:R.nx (ρ'.set i (.own (ds++[d]))))(nb:X4 ρ'=true:=by rfl) :
  W K (bE1 (tBM K "list" aG7 (Q7 i) (N0 t p8))) ρ R:=λS B D σ H o I s=>by
 obtain ⟨p,hp,a,xs,b,c⟩:=I.own i ds hi;refine⟨_,a,.inl ⟨rfl,xs,SqL.of b⟩,?_⟩;refine hx S B σ H o I _ λv H' o' I' _ _ _ _ r=>?_
 obtain ⟨p',hp',a',xs',b',c'⟩:=I'.own i ds hi';rw[a]at a';cases a';refine⟨_,xs',v,rfl,rfl,b',by rw[c'.length];exact hl,?_⟩
 exact s.nx _ σ _ _ (I'.upd hi' hp' (c'.append (.cons r .nil)) (O3 nb)) hn
theorem bN6 {i j:Nat}{π:List Nat}{R:AE}(hp:AtP K ta ρ i π)(hx:EX K t ρ j d ρ')(hij:i≠j)(hj:∃x,ρ[j]? = some x/\x.os=true)(hi:ρ[i]? = some (.tr u0))(hi':ρ'[i]? = some (.tr u0))(hu:u0.at π=some (.lst us))(hl:us.length<sizeLine)(hn:R.nx (ρ'.set i (.tr (u0.put π (.lst (us++[.leaf d]))))))(nb:X4 ρ'=true:=by rfl) :
  W K (bE1 (tBM K "list" aG7 ta (N0 t p8))) ρ R:=λS B D σ H o I s=>by
 refine hp S B σ H o I u0 _ hi hu _ λv0 v H1 s1 a f=>?_
 have ⟨L,A,C,f1,f2,f3⟩:=f
 cases f1 with
 | @lst p xs _ M hpp r=>
 refine⟨.inl ⟨rfl,_,SqL.of hpp⟩,?_⟩;refine hx S B σ H1 o (I.grow s1) _ λx H2 o' I' ho hk hl2 hz rx=>?_
 obtain ⟨y,hy1,hy2⟩:=hj;have f':=f.mono hz (H':=H2) (λa ys q=>by
  have n:a∉o j:=λz=>by
   obtain ⟨zs,e⟩:=hl2 a z;rcases q with q | ⟨o,q⟩ <;> rw[e]at q <;> replace q:=Ab4 q
   ·exact HM.nt q
   ·exact HM.nf q
  rcases q with q | ⟨o,q⟩
  ·exact .inl (hk _ _ q n)
  ·exact .inr ⟨o,hk _ _ q n⟩) λb hb=>by
   obtain ⟨zs,e⟩:=(I.grow s1).trL hi b hb;rw[e];exact hk _ _ e λz=>hij (I.inj i j _ y hi hy1 rfl hy2 b hb z)
 rw[<- ho i hij]at f';obtain ⟨ys,e1,e2,o2,J⟩:=aR4 (x:=x) (u:=.leaf d) (Lx:=[]) I' hi' a f' (L2.Same.rf _) (λb z=>nomatch z) .nil (.leaf (rx.mono aX6)) (O3 nb) (λxs=>xs++[x]) (us++[.leaf d]) λxs M Z' H' r1 r2=>⟨M++[],aR6 r1 r2,λh=>h,λb hb=>hb⟩
 exact⟨p,ys,x,rfl,rfl,e1,by rw[e2];exact hl,s.nx _ σ _ o2 J hn⟩
theorem Env.frz {S:Addr->Prop}{B H:Hp}{σ:St}{o:Nat->List Addr}{i:Nat}{x:Sl}(I:Env K S B H σ ρ o)(hi:ρ[i]? = some x)(hx:x=.own ds/\d=.list ds\/∃u,x=.tr u/\d=u.data):Env K S B H σ (ρ.set i (.val d)) o:=by
 have hos:x.os=true:=by rcases hx with ⟨rfl,_⟩ | ⟨u,rfl,_⟩ <;> rfl
 have hlt:i<ρ.length:=(Ab0.mp hi).1
 have at_:∀{j:Nat} {y:Sl},y≠.val d->(ρ.set i (.val d))[j]? = some y->i≠j/\ρ[j]? = some y:=λ{j y} hy h=>by
  rw[List.getElem?_set]at h;by_cases c:i=j
  ·rw[if_pos c,if_pos (by omega)]at h
   exact absurd (Ab4 h).symm hy
  ·rw[if_neg c]at h;exact⟨c,h⟩
 have nd:∀{y:Sl},y.os=true->y≠.val d:=λ{y} h e=>by rw[e]at h;cases h
 have g:Same (hid (C8 ρ o S) H) (hid (C8 (ρ.set i (.val d)) o S) H):=D9 (L2.Same.rf _) λb z _=>aG2 rfl z
 have vis:∀b∈o i,hid (C8 (ρ.set i (.val d)) o S) H b=H b:=λb hb=>by
  obtain ⟨xs,e⟩:=I.lists b (.inr ⟨i,x,hi,hos,hb⟩);rw[e];refine hid_some.mpr ⟨λz=>?_,e⟩
  rcases z with z | ⟨j,y,h,hy,hb'⟩
  ·obtain ⟨ys,e'⟩:=I.sl b z;rw[I.new i x hi hos b hb]at e';cases e'
  ·obtain ⟨c,h⟩:=at_ (nd hy) h;exact c (I.inj i j x y hi h hos hy b hb hb')
 have lists:∀b,C8 (ρ.set i (.val d)) o S b->∃u:HM,H b=some u.ho:=λb z=>I.lists b (aG2 rfl z)
 refine⟨by simp[I.len],I.base,I.sl,λj y h hy=>I.new j y (at_ (nd hy) h).2 hy,λj k y z h h' hy hz=>I.inj j k y z (at_ (nd hy) h).2 (at_ (nd hz) h').2 hy hz,λj es h=>?_,λj d' h=>?_,λj d' h=>?_,λj t h=>?_⟩
 ·obtain ⟨c,h⟩:=at_ (nd rfl) h;obtain ⟨p,o',a,xs,b,r'⟩:=I.own j es h;exact⟨p,o',a,xs,b,r'.mono g⟩
 ·by_cases c:i=j
  ·subst c;rw[List.getElem?_set_self hlt]at h;cases h;rcases hx with ⟨rfl,rfl⟩ | ⟨u,rfl,rfl⟩
   ·obtain ⟨p,o',a,xs,b,r'⟩:=I.own i ds hi;exact⟨_,a,.lst (SqL.of (by rw[vis p (by rw[o'];simp)];exact b)) (r'.mono g)⟩
   ·obtain ⟨_,v,a,b⟩:=I.tr i u hi;exact⟨v,a,bL4 X6 (λ_ _ q=>u9 lists q) g u vis b⟩
  ·rw[Ac9 c]at h;obtain ⟨v,a,b⟩:=I.val j d' h;exact⟨v,a,b.mono g⟩
 ·obtain ⟨c,h⟩:=at_ (by simp) h
  exact I.bor j d' h
 ·obtain ⟨c,h⟩:=at_ (nd rfl) h;obtain ⟨n,v,a,b⟩:=I.tr j t h;exact⟨n,v,a,b.mono g (L2.Same.rf _)⟩
theorem aQ8 {i:Nat}{t:TS}{R:AE}(hi:ρ[i]? = some (.own ds))(h:W K t (ρ.set i (.val (.list ds))) R):W K t ρ R:=λS B D σ H o I s=>h S B D σ H o (I.frz hi (.inl ⟨rfl,rfl⟩)) s
theorem cD0 {i:Nat}{t:TS}{R:AE}(hi:ρ[i]? = some (.tr u))(h:W K t (ρ.set i (.val u.data)) R):W K t ρ R:=λS B D σ H o I s=>h S B D σ H o (I.frz (ds:=[]) hi (.inr ⟨u,rfl,rfl⟩)) s
theorem aD1 {α:Type}{f:α->OT}{g:α->PyData}(h:∀a,(f a).data=g a):∀l:List α,OT.datas (l.map f)=l.map g
 | []=>rfl
 | a::l=>by simp[OT.datas,h a,aD1 h l]
end
end LV
namespace LV
open PySem PySem.Spec PyProof.Rows L2
def bX9 (K:PySem.W.Frag):R2:=λx y H Q=>∃l b xs zs,x=.ref l/\y=.ref b/\SqL K H l xs/\SqL K H b zs/\xs.length+zs.length<=sizeLine/\∀p,H p=none->Q (.ref p) (upd H p (.lst (xs++zs)))
theorem K0 {X:Cx}(K:PySem.W.Frag)(h:X.K=K:=by rfl):OpR X (binaryOp .Add) (bX9 K):=by
 subst h;intro pins s σ H x y v u Q I rx ry h;obtain ⟨l,b,xs,zs,rfl,rfl,hH,hB,hz,q⟩:=h;cases rx;cases ry;obtain ⟨its,r,⟨⟨cls,dd,data,sl⟩,n,ho,hc,hdd,hd⟩,_⟩:=I.list hH;obtain ⟨its2,r2,⟨⟨cls2,dd2,data2,sl2⟩,n2,ho2,hc2,hdd2,hd2⟩,_⟩:=I.list hB;simp only at hc hd hc2 hd2;subst hc hd hc2 hd2;have e:its.toArray++its2.toArray=(its++its2).toArray:=by simp
 have hl:=r.length
 have hl2:=r2.length
 refine concat_meets ⟨_,ho,rfl⟩ ⟨_,ho2,rfl⟩ noFill_list_add seq_list_add PySem.F.slot_list_add PySem.F.entry_list_add (PySem.F.args_list_add_2 _ _) (list_addW l b its.toArray its2.toArray n n2 dd dd2 sl sl2 (by simp;omega)) ⟨ho,ho2,?_⟩
 rw[e];exact⟨.ref _,_,I.lnew (t':=s.toks) (r.append r2) (by rw[Ab7];omega),rfl,q _ I.fresh⟩
end LV
namespace LV
open PySem L2
section
variable {K:PySem.W.Frag}{ρ ρ' ρ1:List Sl}{m m':Bool}{t ta tb tc:TE}{d d':PyData}{ds es:List PyData}
theorem aI7:∀{l l':List PyData},M2 (l++l')=(M2 l&&M2 l')
 | [],l'=>by simp[M2]
 | a::l,l'=>by simp[M2,aI7 (l:=l),Bool.and_assoc]
theorem bG8:∀{l:List PyData},M2 l=true->∀d∈l,imm d=true
 | [],_,d,hd=>by simp at hd
 | a::l,h,d,hd=>by
  simp[M2]at h
  rcases Aa1.mp hd with rfl | z
  ·exact h.1
  ·exact bG8 h.2 d z
theorem t6 (ha:E K false ta ρ (.list ds))(hb:E K false tb ρ (.list es))(hi:M2 ds=true)(hi':M2 es=true)(hl:ds.length+es.length<=sizeLine:=by first | decide | (unfold PySem.sizeLine;simp;done)):EF K (tOp (bX9 K) ta tb) ρ (ds++es):=λS B σ H o I Q q=>
 ha S B σ H o I _ λx H1 s1 rx=>hb S B σ H1 o (I.grow s1) _ λy H2 s2 ry=>by
  cases rx with
  | @lst a xs _ sa ra=>
  cases ry with
  | @lst b ys _ sb rb=>
  have ra':=ra.mono s2
  refine⟨a,b,xs,ys,rfl,rfl,M8 s2 sa,sb,by rw[ra.length,rb.length];exact hl,λp hp=>q p _ _ (L2.Same.tr s1 (L2.Same.tr s2 (E6 hp))) (Y5 (L2.Same.tr s1 s2) hp) B7 (aA8 ((I.grow s1).grow s2).lists hp (ra'.append rb) ?_)⟩
  rw[aI7,hi,hi'];rfl
def O (K:PySem.W.Frag)(t:TO)(ρ:List Sl)(i:Option Int):Prop:=
 ∀(S:Addr->Prop) (B:Hp) (σ:St) (H:Hp) (o:Nat->List Addr),Env K S B H σ ρ o->∀Q,(∀H',Same H H'->Q i H')->t σ H Q
def aG5 (xs:List PyData)(lo hi:Option Int):List PyData:=List.take (HT.sIx xs.length xs.length hi-HT.sIx xs.length 0 lo) (List.drop (HT.sIx xs.length 0 lo) xs)
theorem Reps.cut {H:Hp}{xs:List V}(r:Reps K H xs ds)(lo hi:Option Int):Reps K H (bV8 xs lo hi) (aG5 ds lo hi):=by
 unfold bV8 aG5;rw[r.length];exact(r.drop _).take _
theorem aA6 (lo hi:Option Int)(h:M2 ds=true):M2 (aG5 ds lo hi)=true:=by
 refine aY0 λd hd=>?_
 have:d∈ds:=List.mem_of_mem_drop (List.mem_of_mem_take hd)
 exact bG8 h d this
theorem aJ9:O K aN9 ρ none:=λS B σ H o I Q q=>q H (L2.Same.rf _)
theorem aJ5 {i:Int}(h:E K false t ρ (.int i)):O K (bO5 t) ρ (some i):=λS B σ H o I Q q=>h S B σ H o I _ λv H' s r=>by
 cases r
 exact⟨i,rfl,q H' s⟩
theorem bN0 {n:Nat}(h:n<=ds.length):aG5 ds (some (n:Int)) none=ds.drop n:=by
 unfold aG5 HT.sIx;simp only[];rw[if_neg (by omega),Ac7,Nat.min_eq_left h]
 exact List.take_of_length_le (by simp)
theorem aZ1 {n:Nat}(h:n<=ds.length):aG5 ds none (some (n:Int))=ds.take n:=by
 unfold aG5 HT.sIx;simp only[];rw[if_neg (by omega),Ac7,Nat.min_eq_left h]
 simp
theorem aV6 {tl th:TO}{lo hi:Option Int}(ha:E K false ta ρ (.list ds))(hl:O K tl ρ lo)(hh:O K th ρ hi)(him:M2 ds=true):EF K (tSl (cJ2 K) ta tl th) ρ (aG5 ds lo hi):=λS B σ H o I Q q=>
 ha S B σ H o I _ λx H1 s1 rx=>hl S B σ H1 o (I.grow s1) _ λH2 s2=>hh S B σ H2 o ((I.grow s1).grow s2) _ λH3 s3=>by
  cases rx with
  | @lst a xs _ sa ra=>
  have s13:=L2.Same.tr s2 s3
  exact⟨a,xs,rfl,M8 s13 sa,λp hp=>q p _ _ (L2.Same.tr s1 (L2.Same.tr s13 (E6 hp))) (Y5 (L2.Same.tr s1 s13) hp) B7 (aA8 (I.grow (L2.Same.tr s1 s13)).lists hp ((ra.mono s13).cut lo hi) (aA6 lo hi him))⟩
end
end LV
namespace L2
open PySem
def cX5:Expr->Bool
 | .Starred ..=>false
 | _=>true
theorem aO5 {e:Expr}{es:List Expr}{env:Env}(h:cX5 e=true):starEach (e::es) env=(false,eval e env)::starEach es env:=by
 cases e <;> first | rfl | cases h
theorem A0 {X:Cx}{e:Expr}{es:List Expr}{te:TE}{t:TA}(ha:PE X e te)(hr:PA X es t)(h:cX5 e=true:=by rfl):PA X (e::es) (N0 te t):=cK0 ha hr (aO5 h)
theorem aF1 {X:Cx}(K:PySem.W.Frag){e:Expr}{te:TE}{p1 p2 pos1 pos2:Pos}(hc:X.calm=true)(hg1:Gl X "list")(hm1:X.mg "list" = none)(hg2:Gl X "reversed")(hm2:X.mg "reversed" = none)(he:PE X e te)(hK:X.K=K:=by rfl)(h:cX5 e=true:=by rfl) :
  PE X (.Call (.Name "list" p1) [.Call (.Name "reversed" p2) [e] [] pos2] [] pos1) (LV.bS8 K te):=
 LV.bI4 K hc hg1 hm1 hg2 hm2 he hK (aO5 h) (aO5 rfl)
end L2
namespace TT
def lin:List Nat->Nat->Nat->Prop
 | c::d::l,a,b=>(a=c/\b=d)\/lin (d::l) a b
 | _,_,_=>False
theorem bO0 (a b:Nat):lin [] a b↔False:=Iff.rfl
theorem aO1 (c a b:Nat):lin [c] a b↔False:=Iff.rfl
theorem D4 (c d:Nat)(l:List Nat)(a b:Nat):lin (c::d::l) a b↔(a=c/\b=d)\/lin (d::l) a b:=Iff.rfl
theorem E2 (c:Nat)(w:List Nat)(a b:Nat):∀u:List Nat,lin (u++c::w) a b↔lin (u++[c]) a b\/lin (c::w) a b
 | []=>by simp[aO1]
 | [d]=>by simp[D4,aO1]
 | d::e::u=>by
  have ih:=E2 c w a b (e::u)
  simp only[Ab6,D4]at ih ⊢;rw[ih];grind
theorem X2 {a b c:Nat}:∀{u:List Nat},lin (u++[c]) a b->a∈u
 | [],h=>h.elim
 | [d],h=>by
  rcases (D4 ..).mp h with ⟨rfl,rfl⟩ | h
  ·simp
  ·exact h.elim
 | d::e::u,h=>by
  rcases (D4 ..).mp h with ⟨rfl,rfl⟩ | h
  ·simp
  ·exact Ad3 _ (X2 (u:=e::u) h)
theorem aC4 {a b c:Nat}{u:List Nat}(h:lin (c::u) a b):b∈u:=by
 induction u generalizing c with
 | nil=>exact h.elim
 | cons d u ih=>
  rcases (D4 ..).mp h with ⟨rfl,rfl⟩ | h
  ·simp
  ·exact Ad3 _ (ih h)
theorem aC5 {l:List Nat}{a b:Nat}(h:lin l a b):a∈l/\b∈l:=by
 induction l with
 | nil=>exact h.elim
 | cons c l ih=>
  refine⟨?_,Ad3 _ (aC4 h)⟩;cases l with
  | nil=>exact h.elim
  | cons d l=>
   rcases (D4 ..).mp h with ⟨rfl,rfl⟩ | h
   ·simp
   ·exact Ad3 _ (ih h).1
def adj (l:List Nat)(a b:Nat):Prop:=lin (l++l.take 1) a b
structure Edit (row row':Nat->List Nat)(v x y:Nat)(L C R:List Nat):Prop where
 nd:∀q,(row q).Nodup
 self:∀q,q∉row q
 tri:∀q a b,adj (row q) a b->adj (row a) b q
 v2:v≠2
 fresh:∀q,v∉row q
 two:row 2=L++x::(C++y::R)
 newv:row' v=x::(C++[y,2])
 oldv:row v=[]
 new2:row' 2=L++x::v::y::R
 rx:∃u z w,row x=u++z::2::w/\row' x=u++z::v::2::w
 ry:∃u w,row y=u++2::w/\row' y=u++2::v::w
 rc:∀c∈C,∃u z w,row c=u++z::2::w/\row' c=u++z::v::w
 rest:∀q,q≠2->q≠v->q≠x->q≠y->q∉C->row' q=row q
section
variable {row row':Nat->List Nat}{v x y:Nat}{L C R:List Nat}
def EE (x y:Nat)(C:List Nat)(a b:Nat):Prop:=lin (x::(C++[y])) a b
def W (x y:Nat)(C:List Nat)(q a b:Nat):Prop:=(q=2/\EE x y C a b)\/(b=2/\EE x y C q a)\/(a=2/\EE x y C b q)
def W' (v x y:Nat)(C:List Nat)(q a b:Nat):Prop:=(q=v/\EE x y C a b)\/(b=v/\EE x y C q a)\/(a=v/\EE x y C b q) \/
 (q=2/\a=x/\b=v)\/(q=x/\a=v/\b=2)\/(q=v/\a=2/\b=x)\/(q=2/\a=v/\b=y)\/(q=v/\a=y/\b=2)\/(q=y/\a=2/\b=v)
theorem aP8 {a b:Nat}(h:EE x y C a b):(a=x\/a∈C)/\(b∈C\/b=y):=by
 have h1:=X2 (u:=x::C) h
 have h2:=aC4 h
 exact⟨by simpa using h1,by simpa using h2⟩
theorem Edit.facts (E:Edit row row' v x y L C R):(x≠y/\x≠2/\y≠2/\x≠v/\y≠v)/\(∀c∈C,c≠x/\c≠y/\c≠2/\c≠v)/\(L++x::(C++y::R)).Nodup:=by
 have h:=E.nd 2
 have h2:=E.self 2
 have hv:=E.fresh 2
 rw[E.two]at h h2 hv;refine⟨?_,?_,h⟩
 ·grind
 ·intro c hc;grind
theorem dH6 (E:Edit row row' v x y L C R)(a b:Nat):adj (row' 2) a b↔(adj (row 2) a b/\¬W x y C 2 a b)\/W' v x y C 2 a b:=by
 obtain ⟨⟨f1,f2,f3,f4,f5⟩,fc,nd⟩:=E.facts;unfold adj;rw[E.two,E.new2];have t1:(L++x::(C++y::R)).take 1=(L++[x]).take 1:=by cases L <;> simp
 have t2:(L++x::v::y::R).take 1=(L++[x]).take 1:=by cases L <;> simp
 rw[t1,t2];generalize ht:(L++[x]).take 1=t;have htm:∀c∈t,c∈L++[x]:=λc hc=>by rw[<- ht]at hc;exact List.mem_of_mem_take hc
 have e1:L++x::(C++y::R)++t=L++x::(C++y::(R++t)):=by simp
 have e2:L++x::v::y::R++t=L++x::v::y::(R++t):=by simp
 have e3:x::(C++y::(R++t))=(x::C)++y::(R++t):=by simp
 rw[e1,e2,E2 x (v::y::(R++t)) a b L,E2 x (C++y::(R++t)) a b L,e3,E2 y _ a b (x::C),D4 x v,D4 v y];have e4:lin ((x::C)++[y]) a b↔EE x y C a b:=Iff.rfl;rw[e4];have hm := @aP8 x y C;have g1:lin (L++[x]) a b->¬EE x y C a b:=λh q=>by
  have:=(aC5 h).2
  have:=(hm q).2
  grind
 have g2:lin (y::(R++t)) a b->¬EE x y C a b:=λh q=>by
  have h2:=(hm q).1
  have h3:a∈y::R:=by
   match t,ht with
   | [],_=>
    rcases Ac4 R with e | ⟨R',z,e⟩
    ·subst e;exact h.elim
    ·subst e
     have:=X2 (u:=y::R') (by simpa using h)
     simp at this ⊢;try grind
   | [z],_=>exact X2 (u:=y::R) h
   | z::z'::t',e=>
    have:=congrArg List.length e
    simp at this
  grind
 have w2:W x y C 2 a b↔EE x y C a b:=by
  unfold W;constructor
  ·rintro (⟨_,h⟩ | ⟨_,h⟩ | ⟨_,h⟩)
   ·exact h
   ·have:=(hm h).1;grind
   ·have:=(hm h).2;grind
  ·exact λh=>.inl ⟨rfl,h⟩
 have w2':W' v x y C 2 a b↔(a=x/\b=v)\/(a=v/\b=y):=by
  unfold W';have hv:=E.v2;constructor
  ·rintro (⟨h,_⟩ | ⟨_,h⟩ | ⟨_,h⟩ | h | h | h | h | h | h)
   ·exact absurd h.symm hv
   ·have:=(hm h).1;grind
   ·have:=(hm h).2;grind
   all_goals grind
  ·grind
 rw[w2,w2'];grind
theorem tk1 {l:List Nat}(h:l≠[]):∃c,l.take 1=[c]/\c∈l:=by
 cases l with
 | nil=>exact absurd rfl h
 | cons c l=>exact⟨c,by simp,by simp⟩
theorem aZ6 (E:Edit row row' v x y L C R)(a b:Nat):∃t,(∀c∈t,c∈L++[x])/\t.length=1/\(adj (row 2) a b↔lin (L++[x]) a b\/EE x y C a b\/lin (y::(R++t)) a b):=by
 refine⟨(L++[x]).take 1,λc hc=>List.mem_of_mem_take hc,by simp,?_⟩
 unfold adj;rw[E.two];have t1:(L++x::(C++y::R)).take 1=(L++[x]).take 1:=by cases L <;> simp
 rw[t1];generalize (L++[x]).take 1=t;have e1:L++x::(C++y::R)++t=L++x::(C++y::(R++t)):=by simp
 have e3:x::(C++y::(R++t))=(x::C)++y::(R++t):=by simp
 rw[e1,E2 x (C++y::(R++t)) a b L,e3,E2 y _ a b (x::C)];exact Iff.rfl
theorem aN5 (E:Edit row row' v x y L C R){a b:Nat}(h:EE x y C a b):adj (row 2) a b:=by
 obtain ⟨t,_,_,e⟩:=aZ6 E a b;exact e.mpr (.inr (.inl h))
theorem bQ0 (E:Edit row row' v x y L C R){a b:Nat}(h:adj (row 2) a b)(ha:a=x\/a∈C):EE x y C a b:=by
 obtain ⟨_,_,nd⟩:=E.facts;obtain ⟨t,ht,hl,e⟩:=aZ6 E a b;rcases e.mp h with h | h | h
 ·have:=X2 h;grind
 ·exact h
 ·obtain ⟨z,rfl⟩:∃z,t=[z]:=List.length_eq_one_iff.mp hl
  have:=X2 (u:=y::R) h
  grind
theorem bD2 (E:Edit row row' v x y L C R){a b:Nat}(h:adj (row 2) a b)(hb:b∈C\/b=y):EE x y C a b:=by
 obtain ⟨_,_,nd⟩:=E.facts;obtain ⟨t,ht,hl,e⟩:=aZ6 E a b;rcases e.mp h with h | h | h
 ·have:=(aC5 h).2;grind
 ·exact h
 ·have:=aC4 h
  grind
theorem dE3 (E:Edit row row' v x y L C R){a b:Nat}:adj (row 2) a b↔adj (row a) b 2:=⟨E.tri _ _ _,λh=>E.tri _ _ _ (E.tri _ _ _ h)⟩
theorem cN8 (E:Edit row row' v x y L C R){a b:Nat}:adj (row 2) a b↔adj (row b) 2 a:=⟨λh=>E.tri _ _ _ (E.tri _ _ _ h),λh=>E.tri _ _ _ h⟩
theorem dH8 (E:Edit row row' v x y L C R)(a b:Nat):adj (row' v) a b↔(adj (row v) a b/\¬W x y C v a b)\/W' v x y C v a b:=by
 obtain ⟨⟨f1,f2,f3,f4,f5⟩,fc,nd⟩:=E.facts;have hv:=E.v2;unfold adj;rw[E.newv,E.oldv];have e:x::(C++[y,2])++(x::(C++[y,2])).take 1=(x::C)++y::[2,x]:=by simp
 rw[e,E2 y [2,x] a b (x::C),D4,D4];have e4:lin ((x::C)++[y]) a b↔EE x y C a b:=Iff.rfl;rw[e4];have hm := @aP8 x y C;have h1:∀c,¬EE x y C v c:=λc h=>by have:=(hm h).1;grind
 have h2:∀c,¬EE x y C c v:=λc h=>by have:=(hm h).2;grind
 unfold W'
 simp[bO0,aO1,h1,h2]
 grind
theorem dH9 (E:Edit row row' v x y L C R)(a b:Nat):adj (row' x) a b↔(adj (row x) a b/\¬W x y C x a b)\/W' v x y C x a b:=by
 obtain ⟨⟨f1,f2,f3,f4,f5⟩,fc,nd⟩:=E.facts;have hv:=E.v2;obtain ⟨u,z,w,o,n⟩:=E.rx;have ndx:=E.nd x;have key:∀c,EE x y C x c↔adj (row x) c 2:=λc=>⟨λh=>E.tri _ _ _ (aN5 E h),λh=>bQ0 E ((dE3 E).mpr h) (.inl rfl)⟩
 have hm := @aP8 x y C
 have h2:∀c,¬EE x y C c x:=λc h=>by have:=(hm h).2;grind
 have w1:W x y C x a b↔(b=2/\adj (row x) a 2):=by unfold W;simp[f2,h2,key]
 have w2:W' v x y C x a b↔(b=v/\adj (row x) a 2)\/(a=v/\b=2):=by unfold W';simp[f2,f4,f1,h2,key]
 rw[w1,w2];unfold adj;rw[o]at ndx;rw[o,n];have t1:(u++z::2::w).take 1=(u++[z]).take 1:=by cases u <;> simp
 have t2:(u++z::v::2::w).take 1=(u++[z]).take 1:=by cases u <;> simp
 rw[t1,t2];have ht:∀c∈(u++[z]).take 1,c∈u++[z]:=λc hc=>List.mem_of_mem_take hc
 generalize (u++[z]).take 1=t at ht;have e1:u++z::2::w++t=u++z::2::(w++t):=by simp
 have e2:u++z::v::2::w++t=u++z::v::2::(w++t):=by simp
 rw[e1,e2,E2 z (2::(w++t)) a b u,E2 z (v::2::(w++t)) a b u,E2 z (2::(w++t)) a 2 u,D4,D4,D4,D4];have n1:¬lin (u++[z]) a 2:=λh=>by have:=(aC5 h).2;grind
 have n2:¬lin (2::(w++t)) a 2:=λh=>by have:=aC4 h;grind
 have n3:lin (u++[z]) a b->b≠2:=λh e=>n1 (e▸h)
 have n4:lin (2::(w++t)) a b->b≠2:=λh e=>n2 (e▸h)
 grind
theorem dH7 (E:Edit row row' v x y L C R)(a b:Nat):adj (row' y) a b↔(adj (row y) a b/\¬W x y C y a b)\/W' v x y C y a b:=by
 obtain ⟨⟨f1,f2,f3,f4,f5⟩,fc,nd⟩:=E.facts;have hv:=E.v2;obtain ⟨u,w,o,n⟩:=E.ry;have ndy:=E.nd y;have key:∀c,EE x y C c y↔adj (row y) 2 c:=λc=>⟨λh=>(cN8 E).mp (aN5 E h),λh=>bD2 E ((cN8 E).mpr h) (.inr rfl)⟩
 have hm := @aP8 x y C
 have h2:∀c,¬EE x y C y c:=λc h=>by have:=(hm h).1;grind
 have w1:W x y C y a b↔(a=2/\adj (row y) 2 b):=by unfold W;simp[f3,h2,key]
 have w2:W' v x y C y a b↔(a=v/\adj (row y) 2 b)\/(a=2/\b=v):=by unfold W';simp[f3,f5,Ne.symm f1,h2,key]
 rw[w1,w2];unfold adj;rw[o]at ndy;rw[o,n];have t1:(u++2::w).take 1=(u++[2]).take 1:=by cases u <;> simp
 have t2:(u++2::v::w).take 1=(u++[2]).take 1:=by cases u <;> simp
 rw[t1,t2];obtain ⟨h,ht,hh⟩:=tk1 (l:=u++[2]) (by simp)
 rw[ht];have e1:u++2::w++[h]=u++2::(w++[h]):=by simp
 have e2:u++2::v::w++[h]=u++2::v::(w++[h]):=by simp
 rw[e1,e2];obtain ⟨z,w',ez⟩:∃z w',w++[h]=z::w':=by cases w with
  | nil=>exact⟨h,[],rfl⟩
  | cons c w=>exact⟨c,w++[h],rfl⟩
 have n2:∀b,¬lin (z::w') 2 b:=λb q=>by rw[<- ez]at q;have:=X2 q;grind
 have n1:∀b,¬lin (u++[2]) 2 b:=λb q=>by have:=X2 q;grind
 rw[ez,E2 2 (z::w') a b u,E2 2 (v::z::w') a b u,E2 2 (z::w') 2 b u,D4,D4,D4,D4];have n3:lin (u++[2]) a b->a≠2:=λh e=>n1 b (e▸h)
 have n4:lin (z::w') a b->a≠2:=λh e=>n2 b (e▸h)
 have:=n1 b
 have:=n2 b
 grind
theorem dI0 (E:Edit row row' v x y L C R){c:Nat}(hc:c∈C)(a b:Nat):adj (row' c) a b↔(adj (row c) a b/\¬W x y C c a b)\/W' v x y C c a b:=by
 obtain ⟨⟨f1,f2,f3,f4,f5⟩,fc,nd⟩:=E.facts;obtain ⟨g1,g2,g3,g4⟩:=fc c hc;have hv:=E.v2;obtain ⟨u,z,w,o,n⟩:=E.rc c hc;have ndc:=E.nd c;have key1:∀d,EE x y C c d↔adj (row c) d 2:=λd=>⟨λh=>E.tri _ _ _ (aN5 E h),λh=>bQ0 E ((dE3 E).mpr h) (.inr hc)⟩
 have key2:∀d,EE x y C d c↔adj (row c) 2 d:=λd=>⟨λh=>(cN8 E).mp (aN5 E h),λh=>bD2 E ((cN8 E).mpr h) (.inl hc)⟩
 have w1:W x y C c a b↔(b=2/\adj (row c) a 2)\/(a=2/\adj (row c) 2 b):=by unfold W;simp[g3,key1,key2]
 have w2:W' v x y C c a b↔(b=v/\adj (row c) a 2)\/(a=v/\adj (row c) 2 b):=by unfold W';simp[g1,g2,g3,g4,key1,key2]
 rw[w1,w2];have fr:v∉row c:=E.fresh c;unfold adj;rw[o]at ndc fr;rw[o,n];have t1:(u++z::2::w).take 1=(u++[z]).take 1:=by cases u <;> simp
 have t2:(u++z::v::w).take 1=(u++[z]).take 1:=by cases u <;> simp
 rw[t1,t2];obtain ⟨h,ht,hh⟩:=tk1 (l:=u++[z]) (by simp)
 rw[ht];have e1:u++z::2::w++[h]=u++z::2::(w++[h]):=by simp
 have e2:u++z::v::w++[h]=u++z::v::(w++[h]):=by simp
 rw[e1,e2];obtain ⟨k,w',ez⟩:∃k w',w++[h]=k::w':=by cases w with
  | nil=>exact⟨h,[],rfl⟩
  | cons c w=>exact⟨c,w++[h],rfl⟩
 have no2:2∉w++[h]:=by grind
 rw[ez]at no2 ⊢;have n1:∀p q,lin (u++[z]) p q->p≠2/\q≠2:=λp q h=>by have:=aC5 h;grind
 have n2:∀p q,lin (k::w') p q->p≠2/\q≠2:=λp q h=>by have:=aC5 h;grind
 have fl:∀p q r,lin (u++z::r::k::w') p q↔lin (u++[z]) p q\/(p=z/\q=r)\/(p=r/\q=k)\/lin (k::w') p q:=λp q r=>by
  rw[E2 z (r::k::w') p q u,D4,D4]
 rw[fl,fl,fl,fl]
 have:=n1 a b
 have:=n2 a b
 have:=n1 a 2
 have:=n2 a 2
 have:=n1 2 b
 have:=n2 2 b
 grind
theorem dH4 (E:Edit row row' v x y L C R){q:Nat}(h2:q≠2)(hv:q≠v)(hx:q≠x)(hy:q≠y)(hc:q∉C)(a b:Nat):adj (row' q) a b↔(adj (row q) a b/\¬W x y C q a b)\/W' v x y C q a b:=by
 rw[E.rest q h2 hv hx hy hc];have hm := @aP8 x y C;have g1:∀c,¬EE x y C q c:=λc h=>by have:=(hm h).1;grind
 have g2:∀c,¬EE x y C c q:=λc h=>by have:=(hm h).2;grind
 unfold W W'
 simp[h2,hv,hx,hy,g1,g2]
theorem cC5 (E:Edit row row' v x y L C R)(q a b:Nat):adj (row' q) a b↔(adj (row q) a b/\¬W x y C q a b)\/W' v x y C q a b:=by
 by_cases h2:q=2
 ·subst h2;exact dH6 E a b
 by_cases hv:q=v
 ·subst hv;exact dH8 E a b
 by_cases hx:q=x
 ·subst hx;exact dH9 E a b
 by_cases hy:q=y
 ·subst hy;exact dH7 E a b
 by_cases hc:q∈C
 ·exact dI0 E hc a b
 ·exact dH4 E h2 hv hx hy hc a b
theorem Edit.tri' (E:Edit row row' v x y L C R)(q a b:Nat)(h:adj (row' q) a b):adj (row' a) b q:=by
 rw[cC5 E]at h ⊢;rcases h with ⟨h,n⟩ | h
 ·refine .inl ⟨E.tri _ _ _ h,?_⟩;unfold W at n ⊢;grind
 ·right
  unfold W' at h ⊢;rcases h with h | h | h | h | h | h | h | h | h
  all_goals obtain ⟨e,h⟩:=h
  all_goals simp[e,h]
theorem Edit.nd' (E:Edit row row' v x y L C R)(q:Nat):(row' q).Nodup:=by
 obtain ⟨⟨f1,f2,f3,f4,f5⟩,fc,nd⟩:=E.facts;have hv:=E.v2;by_cases h2:q=2
 ·subst h2;rw[E.new2]
  have:=E.fresh 2
  rw[E.two]at this;grind
 by_cases hq:q=v
 ·subst hq;rw[E.newv];grind
 by_cases hx:q=x
 ·subst hx;obtain ⟨u,z,w,o,n⟩:=E.rx;have h1:=E.nd q;have h3:=E.fresh q;rw[o]at h1 h3;rw[n];grind
 by_cases hy:q=y
 ·subst hy;obtain ⟨u,w,o,n⟩:=E.ry;have h1:=E.nd q;have h3:=E.fresh q;rw[o]at h1 h3;rw[n];grind
 by_cases hc:q∈C
 ·obtain ⟨u,z,w,o,n⟩:=E.rc q hc;have h1:=E.nd q;have h3:=E.fresh q;rw[o]at h1 h3;rw[n];grind
 ·rw[E.rest q h2 hq hx hy hc];exact E.nd q
theorem Edit.self' (E:Edit row row' v x y L C R)(q:Nat):q∉row' q:=by
 obtain ⟨⟨f1,f2,f3,f4,f5⟩,fc,nd⟩:=E.facts;have hv:=E.v2;have hs:=E.self q;by_cases h2:q=2
 ·subst h2;rw[E.two]at hs;rw[E.new2];grind
 by_cases hq:q=v
 ·subst hq;rw[E.newv];grind
 by_cases hx:q=x
 ·subst hx;obtain ⟨u,z,w,o,n⟩:=E.rx;rw[o]at hs;rw[n];grind
 by_cases hy:q=y
 ·subst hy;obtain ⟨u,w,o,n⟩:=E.ry;rw[o]at hs;rw[n];grind
 by_cases hc:q∈C
 ·obtain ⟨u,z,w,o,n⟩:=E.rc q hc;rw[o]at hs;rw[n];grind
 ·rw[E.rest q h2 hq hx hy hc];exact hs
end
end TT
namespace TT
structure S where
 k:Nat
 path:List Nat
 heap:List Nat
 i0:Nat->List Nat
 i1:Nat->List Nat
 i2:Nat->List Nat
 o0:Nat->Nat
 o1:Nat->Nat
 o2:Nat->Nat
def put {α:Type}(f:Nat->α)(a:Nat)(x:α):Nat->α:=λb=>if b=a then x else f b
theorem B5 {α:Type}{f:Nat->α}{a:Nat}{x:α}:put f a x a=x:=by simp[put]
theorem B6 {α:Type}{f:Nat->α}{a b:Nat}{x:α}(h:b≠a):put f a x b=f b:=by simp[put,h]
def S.row (s:S)(q:Nat):List Nat:=
 if q=0 then 1::(s.i0 0++[2]) else if q=1 then 2::((s.i1 1).reverse++[0]) else if q=2 then s.path.reverse++s.heap
 else if q<s.k+3 then s.o0 q::(s.i2 q++s.o1 q::(s.i0 q++s.o2 q::(s.i1 q).reverse)) else []
def S.first:S:={k:=0,path:=[0],heap:=[1],i0:=λ_=>[],i1:=λ_=>[],i2:=λ_=>[],o0:=λ_=>2,o1:=λ_=>2,o2:=λ_=>2}
def S.h1 (s:S)(a:Nat):List Nat:=(s.path.take a).reverse++s.heap
def S.step (s:S)(a b:Nat):S where
 k:=s.k+1
 path:=(s.k+3)::s.path.drop a
 heap:=(s.h1 a).drop b
 i0:=put s.i0 ((s.path.drop a).headD 0) (s.i0 ((s.path.drop a).headD 0)++[s.k+3])
 i1:=put s.i1 (((s.h1 a).drop b).headD 0) (s.i1 (((s.h1 a).drop b).headD 0)++[s.k+3])
 i2:=put s.i2 (s.k+3) ((s.h1 a).take b)
 o0:=put s.o0 (s.k+3) ((s.path.drop a).headD 0)
 o1:=put s.o1 (s.k+3) (((s.h1 a).drop b).headD 0)
 o2:=λq=>if q=s.k+3 then 2 else if q∈(s.h1 a).take b then s.k+3 else s.o2 q
structure aY3 (s:S):Prop where
 nd:∀q,(s.row q).Nodup
 self:∀q,q∉s.row q
 tri:∀q a b,adj (s.row q) a b->adj (s.row a) b q
 lt:∀q,∀p∈s.row q,p<s.k+3
 pe:∃p,s.path=p++[0]
 he:∃h,s.heap=h++[1]
 bd:∀q,(q∈s.path\/q∈s.heap)->q≠2/\(3<=q->s.o2 q=2)
 emp:∀q,s.k+3<=q->s.i0 q=[]/\s.i1 q=[]
theorem aX7 {s:S}{q:Nat}(h:s.k+3<=q):s.row q=[]:=by
 unfold S.row;rw[if_neg (by omega),if_neg (by omega),if_neg (by omega),if_neg (by omega)]
theorem Q4 {s:S}{q:Nat}(h:3<=q)(h':q<s.k+3):s.row q=s.o0 q::(s.i2 q++s.o1 q::(s.i0 q++s.o2 q::(s.i1 q).reverse)):=by
 unfold S.row;rw[if_neg (by omega),if_neg (by omega),if_neg (by omega),if_pos h']
theorem aH2 {s:S}:s.row 2=s.path.reverse++s.heap:=by simp[S.row]
theorem aH6 {s:S}:s.row 0=1::(s.i0 0++[2]):=by simp[S.row]
theorem aR0 {s:S}:s.row 1=2::((s.i1 1).reverse++[0]):=by simp[S.row]
theorem bK4:aY3 S.first where
 nd:=λq=>by
  unfold S.row S.first;dsimp only
  repeat' split
  all_goals simp
  omega
 self:=λq=>by
  unfold S.row S.first;dsimp only
  repeat' split
  all_goals simp
  all_goals omega
 tri:=λq a b h=>by
  have e:∀q a b,adj (S.first.row q) a b↔(q=0/\((a=1/\b=2)\/(a=2/\b=1)))\/(q=1/\((a=2/\b=0)\/(a=0/\b=2)))\/(q=2/\((a=0/\b=1)\/(a=1/\b=0))):=λq a b=>by
   unfold S.row S.first adj;dsimp only
   repeat' split
   all_goals (simp_all[lin])
   all_goals omega
  rw[e]at h ⊢;rcases h with ⟨rfl,⟨rfl,rfl⟩ | ⟨rfl,rfl⟩⟩ | ⟨rfl,⟨rfl,rfl⟩ | ⟨rfl,rfl⟩⟩ | ⟨rfl,⟨rfl,rfl⟩ | ⟨rfl,rfl⟩⟩ <;> decide
 lt:=λq p=>by
  unfold S.row S.first;dsimp only
  repeat' split
  all_goals (simp <;> omega)
 pe:=⟨[],rfl⟩
 he:=⟨[],rfl⟩
 bd:=λq h=>by
  simp only[S.first,Ad6]at h;omega
 emp:=λq _=>⟨rfl,rfl⟩
theorem bR2 {s:S}(I:aY3 s){a b:Nat}(ha:a<s.path.length)(hb:b<a+s.heap.length) :
  ∃x px y hy,s.path.drop a=x::px/\(s.h1 a).drop b=y::hy/\Edit s.row (s.step a b).row (s.k+3) x y px.reverse ((s.h1 a).take b) hy/\aY3 (s.step a b):=by
 obtain ⟨p0,hp0⟩:=I.pe;obtain ⟨h0,hh0⟩:=I.he;obtain ⟨x,px,ex⟩:∃x px,s.path.drop a=x::px:=by
  cases e:s.path.drop a with
  | nil=>have:=List.drop_eq_nil_iff.mp e;omega
  | cons x px=>exact⟨x,px,rfl⟩
 have hl:(s.h1 a).length=a+s.heap.length:=by
  unfold S.h1;simp;omega
 obtain ⟨y,hy,ey⟩:∃y hy,(s.h1 a).drop b=y::hy:=by
  cases e:(s.h1 a).drop b with
  | nil=>have:=List.drop_eq_nil_iff.mp e;omega
  | cons y hy=>exact⟨y,hy,rfl⟩
 have two:s.row 2=px.reverse++x::((s.h1 a).take b++y::hy):=by
  rw[aH2,<- ey,Ad2]
  have:s.path=s.path.take a++x::px:=by rw[<- ex,Ad2]
  conv=>lhs;rw[this]
  unfold S.h1
  simp
 have nd2:=I.nd 2
 have self2:=I.self 2
 have lt2:=I.lt 2
 rw[two]at nd2 self2 lt2;have pl:∃p1,x::px=p1++[0]:=by
  rw[<- ex,hp0];rw[hp0]at ha;simp at ha;rw[List.drop_append_of_le_length (by omega)]
  exact⟨_,rfl⟩
 have hyl:∃h1,y::hy=h1++[1]:=by
  rw[<- ey];unfold S.h1;rw[hh0,<- Ad5]
  have:(p0.length:Nat)+1=s.path.length:=by rw[hp0];simp
  have l1:((s.path.take a).reverse++h0).length=a+h0.length:=by simp;omega
  have l2:s.heap.length=h0.length+1:=by rw[hh0];simp
  rw[List.drop_append_of_le_length (by omega)]
  exact⟨_,rfl⟩
 have one_mem:1∈y::hy:=by obtain ⟨h1,e⟩:=hyl;rw[e];simp
 have zero_mem:0∈x::px:=by obtain ⟨h1,e⟩:=pl;rw[e];simp
 generalize hC:(s.h1 a).take b=C at *;have hCm:∀c∈C,c≠0/\c≠1/\c≠2/\c<s.k+3:=by
  intro c hc;refine⟨?_,?_,?_,lt2 c (by simp[hc])⟩
  ·rintro rfl;grind
  ·rintro rfl;grind
  ·rintro rfl;grind
 have hx:x≠1/\x≠2/\x<s.k+3:=⟨by rintro rfl;grind,by rintro rfl;grind,lt2 x (by simp)⟩
 have hyy:y≠0/\y≠2/\y<s.k+3:=⟨by rintro rfl;grind,by rintro rfl;grind,lt2 y (by simp)⟩
 have bd2:∀q,q∈s.row 2->3<=q->s.o2 q=2:=λq hq h3=>by
  rw[aH2]at hq;simp at hq;exact(I.bd q hq).2 h3
 have o2x:3<=x->s.o2 x=2:=bd2 x (by rw[two];simp)
 have o2y:3<=y->s.o2 y=2:=bd2 y (by rw[two];simp)
 have o2c:∀c∈C,s.o2 c=2:=λc hc=>by
  have:=hCm c hc
  exact bd2 c (by rw[two];simp[hc]) (by omega)
 have xy:x≠y:=by rintro rfl;grind
 have xC:x∉C:=by grind
 have yC:y∉C:=by grind
 have E:Edit s.row (s.step a b).row (s.k+3) x y px.reverse C hy:=by
  refine⟨I.nd,I.self,I.tri,by omega,λq hq=>?_,two,?_,aX7 (Aa7 _),?_,?_,?_,?_,?_⟩
  ·have:=I.lt q _ hq;omega
  ·rw[Q4 (by omega) (by simp[S.step])]
   have e1:=I.emp (s.k+3) (Aa7 _)
   simp only[S.step,ex,ey,hC,List.headD_cons,B5,if_true];rw[B6 (by omega),B6 (by omega),e1.1,e1.2]
   simp
  ·rw[aH2];simp only[S.step,ex,ey]
   simp
  ·by_cases x0:x=0
   ·subst x0;rcases Ac4 (1::s.i0 0) with e | ⟨u,z,e⟩
    ·cases e
    ·refine⟨u,z,[],?_,?_⟩
     ·rw[aH6,<- Ab6,e];simp
     ·rw[aH6];simp only[S.step,ex,List.headD_cons,B5];rw[Ad5,<- Ab6,e];simp
   ·have x3:3<=x:=by omega
    rcases Ac4 (s.o0 x::(s.i2 x++s.o1 x::s.i0 x)) with e | ⟨u,z,e⟩
    ·cases e
    ·refine⟨u,z,(s.i1 x).reverse,?_,?_⟩
     ·rw[Q4 x3 hx.2.2,o2x x3]
      have:s.o0 x::(s.i2 x++s.o1 x::(s.i0 x++2::(s.i1 x).reverse))=(s.o0 x::(s.i2 x++s.o1 x::s.i0 x))++2::(s.i1 x).reverse:=by simp
      rw[this,e];simp
     ·rw[Q4 x3 (by simp[S.step];omega)]
      simp only[S.step,ex,ey,hC,List.headD_cons,B5];rw[B6 (by omega),B6 (by omega),B6 (by omega),B6 xy,if_neg (by omega),if_neg xC,o2x x3]
      have:s.o0 x::(s.i2 x++s.o1 x::(s.i0 x++[s.k+3]++2::(s.i1 x).reverse))=(s.o0 x::(s.i2 x++s.o1 x::s.i0 x))++(s.k+3)::2::(s.i1 x).reverse:=by simp
      rw[this,e];simp
  ·by_cases y1:y=1
   ·subst y1;refine⟨[],(s.i1 1).reverse++[0],?_,?_⟩
    ·rw[aR0];simp
    ·rw[aR0];simp only[S.step,ey,List.headD_cons,B5]
     simp
   ·have y3:3<=y:=by omega
    refine⟨s.o0 y::(s.i2 y++s.o1 y::s.i0 y),(s.i1 y).reverse,?_,?_⟩
    ·rw[Q4 y3 hyy.2.2,o2y y3];simp
    ·rw[Q4 y3 (by simp[S.step];omega)]
     simp only[S.step,ex,ey,hC,List.headD_cons,B5];rw[B6 (by omega),B6 (by omega),B6 (by omega),B6 (Ne.symm xy),if_neg (by omega),if_neg yC,o2y y3]
     simp
  ·intro c hc;obtain ⟨c0,c1,c2,ck⟩:=hCm c hc;have c3:3<=c:=by omega
   have cx:c≠x:=λe=>xC (e▸hc)
   have cy:c≠y:=λe=>yC (e▸hc)
   rcases Ac4 (s.o0 c::(s.i2 c++s.o1 c::s.i0 c)) with e | ⟨u,z,e⟩
   ·cases e
   ·refine⟨u,z,(s.i1 c).reverse,?_,?_⟩
    ·rw[Q4 c3 ck,o2c c hc]
     have:s.o0 c::(s.i2 c++s.o1 c::(s.i0 c++2::(s.i1 c).reverse))=(s.o0 c::(s.i2 c++s.o1 c::s.i0 c))++2::(s.i1 c).reverse:=by simp
     rw[this,e];simp
    ·rw[Q4 c3 (by simp[S.step];omega)]
     simp only[S.step,ex,ey,hC,List.headD_cons];rw[B6 (by omega),B6 (by omega),B6 (by omega),B6 cx,B6 cy,if_neg (by omega),if_pos hc]
     have:s.o0 c::(s.i2 c++s.o1 c::(s.i0 c++(s.k+3)::(s.i1 c).reverse))=(s.o0 c::(s.i2 c++s.o1 c::s.i0 c))++(s.k+3)::(s.i1 c).reverse:=by simp
     rw[this,e];simp
  ·intro q q2 qv qx qy qC;by_cases q0:q=0
   ·subst q0;rw[aH6,aH6];simp only[S.step,ex,List.headD_cons];rw[B6 qx]
   by_cases q1:q=1
   ·subst q1;rw[aR0,aR0];simp only[S.step,ey,List.headD_cons];rw[B6 qy]
   by_cases qk:q<s.k+3
   ·rw[Q4 (by omega) qk,Q4 (by omega) (by simp[S.step];omega)]
    simp only[S.step,ex,ey,hC,List.headD_cons];rw[B6 qv,B6 qv,B6 qv,B6 qx,B6 qy,if_neg qv,if_neg qC]
   ·rw[aX7 (s:=s.step a b) (by show s.k+1+3<=q;omega),aX7 (s:=s) (by omega)]
 refine⟨x,px,y,hy,ex,ey,E,⟨E.nd',E.self',E.tri',λq p hp=>?_,?_,?_,λq hq=>?_,λq hq=>?_⟩⟩
 ·show p<s.k+1+3
  by_cases h2:q=2
  ·subst h2;rw[E.new2]at hp
   have:=lt2 p
   grind
  by_cases hv:q=s.k+3
  ·subst hv;rw[E.newv]at hp
   have:=lt2 p
   grind
  by_cases qx:q=x
  ·subst qx;obtain ⟨u,z,w,o,n⟩:=E.rx
   have:=I.lt q p
   rw[o]at this;rw[n]at hp;grind
  by_cases qy:q=y
  ·subst qy;obtain ⟨u,w,o,n⟩:=E.ry
   have:=I.lt q p
   rw[o]at this;rw[n]at hp;grind
  by_cases qC:q∈C
  ·obtain ⟨u,z,w,o,n⟩:=E.rc q qC
   have:=I.lt q p
   rw[o]at this;rw[n]at hp;grind
  ·rw[E.rest q h2 hv qx qy qC]at hp
   have:=I.lt q p hp
   omega
 ·obtain ⟨p1,e⟩:=pl;exact⟨(s.k+3)::p1,by simp only[S.step,ex,e];simp⟩
 ·obtain ⟨h1,e⟩:=hyl;exact⟨h1,by simp only[S.step,ey,e]⟩
 ·have hq':q=s.k+3\/q∈x::px\/q∈y::hy:=by
   simp only[S.step,ex,ey]at hq;simp at hq ⊢;grind
  rcases hq' with rfl | hq'
  ·exact⟨by omega,λ_=>by simp[S.step]⟩
  ·have hm:q∈s.row 2:=by rw[two];grind
   have hnC:q∉C:=by grind
   refine⟨by rintro rfl;exact I.self 2 hm,λh3=>?_⟩
   simp only[S.step,hC];rw[if_neg (by have:=I.lt 2 q hm;omega),if_neg hnC]
   exact bd2 q hm h3
 ·have hq:s.k+1+3<=q:=hq
  have:=I.emp q (by omega)
  simp only[S.step,ex,ey,List.headD_cons];rw[B6 (by omega),B6 (by omega)]
  exact this
end TT
namespace TT
theorem bE5 {f:Nat->Nat}(l:List Nat)(x y:Nat):lin (l.map f) x y↔∃a b,x=f a/\y=f b/\lin l a b:=by
 induction l with
 | nil=>simp[bO0]
 | cons c l ih=>
  cases l with
  | nil=>simp[aO1]
  | cons d l=>
   simp only[Ac6,D4];simp only[Ac6]at ih;rw[ih];constructor
   ·rintro (⟨rfl,rfl⟩ | ⟨a,b,e1,e2,h⟩)
    ·exact⟨c,d,rfl,rfl,.inl ⟨rfl,rfl⟩⟩
    ·exact⟨a,b,e1,e2,.inr h⟩
   ·rintro ⟨a,b,rfl,rfl,⟨rfl,rfl⟩ | h⟩
    ·exact .inl ⟨rfl,rfl⟩
    ·exact .inr ⟨a,b,rfl,rfl,h⟩
theorem cN5 {f:Nat->Nat}(l:List Nat)(x y:Nat):adj (l.map f) x y↔∃a b,x=f a/\y=f b/\adj l a b:=by
 unfold adj;rw[<- bE5]
 simp
theorem cP0 (u w:List Nat)(x y:Nat):adj (w++u) x y↔adj (u++w) x y:=by
 cases u with
 | nil=>simp
 | cons a u=>
  cases w with
  | nil=>simp
  | cons b w=>
   unfold adj;have e1:b::w++a::u++(b::w++a::u).take 1=(b::w)++a::(u++[b]):=by simp
   have e2:a::u++b::w++(a::u++b::w).take 1=(a::u)++b::(w++[a]):=by simp
   rw[e1,e2,E2 a (u++[b]) x y (b::w),E2 b (w++[a]) x y (a::u)];simp only[Ab6];exact Or.comm
theorem bQ2 {l:List Nat}{a b:Nat}(h:adj l a b):a∈l/\b∈l:=by
 have:=aC5 h
 simp only[Aa0]at this;exact⟨this.1.elim id List.mem_of_mem_take,this.2.elim id List.mem_of_mem_take⟩
theorem cH8 {l:List Nat}{a:Nat}(h:a∈l):∃b,adj l a b:=by
 obtain ⟨u,w,rfl⟩:=List.append_of_mem h;obtain ⟨b,r,e⟩:∃b r,(w++(u++[a]).take 1)=b::r:=by
  cases w with
  | nil=>cases u with
   | nil=>exact⟨a,[],rfl⟩
   | cons c u=>exact⟨c,[],rfl⟩
  | cons c w=>exact⟨c,_,rfl⟩
 refine⟨b,?_⟩;unfold adj;have t:(u++a::w).take 1=(u++[a]).take 1:=by cases u <;> simp
 rw[t,Ad5,Ab6,e,E2,D4];exact .inr (.inl ⟨rfl,rfl⟩)
end TT
namespace TT
def mn (l:List Nat):Nat:=l.min?.getD 0
theorem cQ4 {l:List Nat}(h:l≠[]):mn l∈l/\∀a∈l,mn l<=a:=by
 unfold mn;cases e:l.min? with
 | none=>exact absurd (List.min?_eq_none_iff.mp e) h
 | some m=>exact List.min?_eq_some_iff.mp e
def Z3 (l:List Nat):List Nat:=l.drop (l.idxOf (mn l))++l.take (l.idxOf (mn l))
theorem aF0 (l:List Nat):(Z3 l).Perm l:=by
 unfold Z3;exact(List.perm_append_comm).trans (by rw[Ad2])
theorem bV3 (l:List Nat)(a b:Nat):adj (Z3 l) a b↔adj l a b:=by
 unfold Z3;rw[cP0,Ad2]
theorem bB1 (l:List Nat):(Z3 l).length=l.length:=(aF0 l).length_eq
theorem begun_mem {l:List Nat}{a:Nat}:a∈Z3 l↔a∈l:=(aF0 l).mem_iff
theorem bI5 {l:List Nat}:(Z3 l).Nodup↔l.Nodup:=(aF0 l).nodup_iff
structure Good (n:Nat)(r:Nat->List Nat):Prop where
 nd:∀q,(r q).Nodup
 self:∀q,q∉r q
 tri:∀q a b,adj (r q) a b->adj (r a) b q
 lt:∀q,∀p∈r q,p<n
 hi:∀q,n<=q->r q=[]
 two:∀q,q<n->2<=(r q).length
 out:adj (r 2) 1 0
 conn:∀R:Nat->Prop,R 0->(∀a b,R a->b∈r a->R b)->∀q,q<n->R q
 sum:((List.range n).map λq=>(r q).length).sum+12=6*n
 three:3<=n
structure bF3 (s:S):Prop where
 two:∀q,q<s.k+3->2<=(s.row q).length
 o0:∀q,3<=q->q<s.k+3->s.o0 q<q/\s.o0 q∈s.row q
 sum:((List.range (s.k+3)).map λq=>(s.row q).length).sum+12=6*(s.k+3)
theorem bM4:bF3 S.first where
 two:=λq h=>by
  have h:q<3:=h
  match q,h with
  | 0,_=>decide
  | 1,_=>decide
  | 2,_=>decide
 o0:=λq h h'=>by
  have h':q<3:=h'
  omega
 sum:=by decide
theorem bM8 {n:Nat}{f g:Nat->Nat}{l:List Nat}(nd:l.Nodup)(hl:∀q∈l,q<n)(h:∀q,q<n->q∉l->f q=g q) :
  ((List.range n).map f).sum+(l.map g).sum=((List.range n).map g).sum+(l.map f).sum:=by
 induction l generalizing f with
 | nil=>
  have:(List.range n).map f=(List.range n).map g:=List.map_congr_left λq hq=>h q (Ab5.mp hq) (by simp)
  simp[this]
 | cons c l ih=>
  have hc:=hl c (by simp)
  have nd':=Aa5.mp nd
  have key:∀(f:Nat->Nat) (x:Nat),((List.range n).map λq=>if q=c then x else f q).sum+f c=((List.range n).map f).sum+x:=by
   intro f x
   clear h ih hl nd nd'
   induction n with
   | zero=>omega
   | succ n ihn=>
    rw[List.range_succ,Ad1,Ad1,List.sum_append,List.sum_append];by_cases e:c=n
    ·subst e
     have:(List.range c).map (λq=>if q=c then x else f q)=(List.range c).map f:=List.map_congr_left λq hq=>by
      have:=Ab5.mp hq
      rw[if_neg (by omega)]
     rw[this]
     simp
     omega
    ·have:=ihn (by omega)
     simp only[Ac6,List.map_nil,List.sum_cons,List.sum_nil];rw[if_neg (Ne.symm e)];omega
  have k1:=key f (g c)
  have:=ih (f:=λq=>if q=c then g c else f q) nd'.2 (λq hq=>hl q (by simp[hq])) (λq hq hn=>by
   by_cases e:q=c
   ·subst e;simp
   ·simp only[if_neg e];exact h q hq (by simp[e,hn]))
  have e2:(l.map λq=>if q=c then g c else f q)=l.map f:=List.map_congr_left λq hq=>by
   rw[if_neg (by rintro rfl;exact nd'.1 hq)]
  rw[e2]at this;simp only[Ac6,List.sum_cons];omega
end TT
namespace TT
theorem bU7 {s:S}(I:aY3 s)(M:bF3 s){a b:Nat}(ha:a<s.path.length)(hb:b<a+s.heap.length):bF3 (s.step a b):=by
 obtain ⟨x,px,y,hy,ex,ey,E,I'⟩:=bR2 I ha hb;obtain ⟨⟨f1,f2,f3,f4,f5⟩,fc,nd⟩:=E.facts;have hx:x<s.k+3:=I.lt 2 x (by rw[E.two];simp)
 have hyl:y<s.k+3:=I.lt 2 y (by rw[E.two];simp)
 have lx:((s.step a b).row x).length=(s.row x).length+1:=by
  obtain ⟨u,z,w,o,n⟩:=E.rx;rw[o,n];simp;omega
 have ly:((s.step a b).row y).length=(s.row y).length+1:=by
  obtain ⟨u,w,o,n⟩:=E.ry;rw[o,n];simp;omega
 have lc:∀q,q≠2->q≠s.k+3->q≠x->q≠y->((s.step a b).row q).length=(s.row q).length:=λq h2 hv qx qy=>by
  by_cases hc:q∈(s.h1 a).take b
  ·obtain ⟨u,z,w,o,n⟩:=E.rc q hc;rw[o,n];simp
  ·rw[E.rest q h2 hv qx qy hc]
 have l2:((s.step a b).row 2).length=px.length+3+hy.length:=by rw[E.new2];simp;omega
 have g2:(s.row 2).length=px.length+2+((s.h1 a).take b).length+hy.length:=by rw[E.two];simp only[Ab7,List.length_cons,Ad9];omega
 have lv:((s.step a b).row (s.k+3)).length=((s.h1 a).take b).length+3:=by rw[E.newv];simp only[Ab7,List.length_cons,List.length_nil]
 have gv:(s.row (s.k+3)).length=0:=by rw[E.oldv];rfl
 refine⟨λq hq=>?_,λq h3 hq=>?_,?_⟩
 ·have hq:q<s.k+1+3:=hq
  by_cases h2:q=2
  ·rw[h2,l2];omega
  by_cases hv:q=s.k+3
  ·rw[hv,lv];omega
  have:=M.two q (by omega)
  by_cases qx:q=x
  ·rw[qx,lx];rw[qx]at this;omega
  by_cases qy:q=y
  ·rw[qy,ly];rw[qy]at this;omega
  rw[lc q h2 hv qx qy];exact this
 ·have hq':q<s.k+1+3:=hq
  refine⟨?_,by rw[Q4 h3 hq];simp⟩
  by_cases hv:q=s.k+3
  ·subst hv;simp only[S.step,ex,List.headD_cons,B5];exact hx
  ·simp only[S.step];rw[B6 hv];exact(M.o0 q h3 (by omega)).1
 ·show((List.range (s.k+1+3)).map λq=>((s.step a b).row q).length).sum+12=6*(s.k+1+3)
  have sc:=bM8 (n:=s.k+1+3) (f:=λq=>((s.step a b).row q).length) (g:=λq=>(s.row q).length) (l:=[2,s.k+3,x,y]) (by
   have:=E.v2
   simp only[Aa5,Aa1,Ac2,or_false,not_or,List.nodup_nil,not_false_eq_true,and_true];exact⟨⟨by omega,Ne.symm f2,Ne.symm f3⟩,⟨Ne.symm f4,Ne.symm f5⟩,f1⟩) (by
   intro q hq;simp only[Aa1,Ac2,or_false]at hq;omega) (by
   intro q hq hn;simp only[Aa1,Ac2,or_false,not_or]at hn;exact lc q hn.1 hn.2.1 hn.2.2.1 hn.2.2.2)
  simp only[Ac6,List.map_nil,List.sum_cons,List.sum_nil]at sc;have e:((List.range (s.k+1+3)).map λq=>(s.row q).length).sum=((List.range (s.k+3)).map λq=>(s.row q).length).sum:=by
   rw[show s.k+1+3=(s.k+3)+1 by omega,List.range_succ,Ad1,List.sum_append]
   simp only[Ac6,List.map_nil,List.sum_cons,List.sum_nil,gv];omega
  have:=M.sum
  rw[l2,lv,lx,ly,g2,gv,e]at sc;omega
theorem cE8 {s:S}(I:aY3 s)(M:bF3 s):Good (s.k+3) s.row where
 nd:=I.nd
 self:=I.self
 tri:=I.tri
 lt:=I.lt
 hi:=λq h=>aX7 h
 two:=M.two
 out:=by
  obtain ⟨p,ep⟩:=I.pe;obtain ⟨h,eh⟩:=I.he;rw[aH2,ep,eh];unfold adj
  have:(p++[0]).reverse++(h++[1])++((p++[0]).reverse++(h++[1])).take 1=(0::p.reverse++h)++1::[0]:=by simp
  rw[this,E2,D4];exact .inr (.inl ⟨rfl,rfl⟩)
 conn:=λR h0 hR q hq=>by
  have r0:∀b∈s.row 0,R b:=λb hb=>hR 0 b h0 hb
  have m1:(1:Nat)∈s.row 0:=by rw[aH6];simp
  have m2:(2:Nat)∈s.row 0:=by rw[aH6];simp
  have sym:∀p q,q∈s.row p->p∈s.row q:=λp q h=>by
   obtain ⟨b,hb⟩:=cH8 h;exact(bQ2 (I.tri _ _ _ hb)).2
  induction q using Nat.strongRecOn with
  | _ q ih=>
   by_cases h3:3<=q
   ·obtain ⟨h1,h2⟩:=M.o0 q h3 hq;exact hR _ _ (ih _ h1 (by omega)) (sym _ _ h2)
   ·have:q=0\/q=1\/q=2:=by omega
    rcases this with rfl | rfl | rfl
    ·exact h0
    ·exact r0 1 m1
    ·exact r0 2 m2
 sum:=M.sum
 three:=by omega
structure Nm (n:Nat)(f:Nat->Nat):Prop where
 lt:∀v,v<n->f v<n
 inj:∀v w,v<n->w<n->f v=f w->v=w
 c0:f 0=0
 c1:f 1=1
 c2:f 2=2
theorem aW6 {l:List Nat}(nd:l.Nodup):∀{m:List Nat},(∀x∈l,x∈m)->l.length<=m.length:=by
 induction l with
 | nil=>intro m _;simp
 | cons a l ih=>
  intro m h;have nd':=Aa5.mp nd;have hm:a∈m:=h a (by simp)
  have:=ih nd'.2 (m:=m.erase a) λx hx=>(List.mem_erase_of_ne (by rintro rfl;exact nd'.1 hx)).mpr (h x (by simp[hx]))
  have hl:=List.length_erase_of_mem hm
  have:=List.length_pos_of_mem hm
  simp only[List.length_cons];omega
theorem Nm.surj {n:Nat}{f:Nat->Nat}(h:Nm n f)(q:Nat)(hq:q<n):∃v,v<n/\f v=q:=by
 have nd:((List.range n).map f).Nodup:=by
  rw[Ac5,Ad8];refine List.Pairwise.imp_of_mem ?_ (Ac5.mp List.nodup_range);intro a b ha hb hne e;exact hne (h.inj a b (Ab5.mp ha) (Ab5.mp hb) e)
 have sub:(List.range n).map f ⊆ List.range n:=λx hx=>by
  obtain ⟨v,hv,rfl⟩:=Aa8.mp hx;exact Ab5.mpr (h.lt v (Ab5.mp hv))
 have:q∈(List.range n).map f:=Classical.byContradiction λhn=>by
  have hq':=Ab5.mpr hq
  have:=aW6 nd (m:=(List.range n).erase q) λx hx=>(List.mem_erase_of_ne (by rintro rfl;exact hn hx)).mpr (sub hx)
  have hl:=List.length_erase_of_mem hq'
  have:=List.length_pos_of_mem hq'
  simp only[Aa3,List.length_range]at *;omega
 obtain ⟨v,hv,e⟩:=Aa8.mp this;exact⟨v,Ab5.mp hv,e⟩
theorem Good.named {n:Nat}{r r':Nat->List Nat}{f:Nat->Nat}(G:Good n r)(F:Nm n f)(h:∀v,v<n->r' (f v)=Z3 ((r v).map f))(hh:∀q,n<=q->r' q=[]):Good n r':=by
 have cC5:∀v,v<n->∀x y,adj (r' (f v)) x y↔∃a b,x=f a/\y=f b/\adj (r v) a b:=λv hv x y=>by rw[h v hv,bV3,cN5]
 have mem':∀v,v<n->∀x,x∈r' (f v)↔∃a,a∈r v/\x=f a:=λv hv x=>by
  rw[h v hv,begun_mem,Aa8];exact⟨λ⟨a,h1,h2⟩=>⟨a,h1,h2.symm⟩,λ⟨a,h1,h2⟩=>⟨a,h1,h2.symm⟩⟩
 have up:∀q,n<=q\/∃v,v<n/\f v=q:=λq=>by
  by_cases hq:n<=q
  ·exact .inl hq
  ·exact .inr (F.surj q (by omega))
 have len:∀v,v<n->(r' (f v)).length=(r v).length:=λv hv=>by rw[h v hv,bB1,Aa3]
 refine⟨λq=>?_,λq=>?_,λq a b hab=>?_,λq p hp=>?_,hh,λq hq=>?_,?_,λR h0 hR q hq=>?_,?_,G.three⟩
 ·rcases up q with hq | ⟨v,hv,rfl⟩
  ·rw[hh q hq];simp
  ·rw[h v hv,bI5,Ac5,Ad8];refine List.Pairwise.imp_of_mem ?_ (Ac5.mp (G.nd v));intro a b ha hb hne e;exact hne (F.inj a b (G.lt v a ha) (G.lt v b hb) e)
 ·rcases up q with hq | ⟨v,hv,rfl⟩
  ·rw[hh q hq];simp
  ·intro hm;obtain ⟨a,ha,e⟩:=(mem' v hv _).mp hm;exact G.self v (F.inj v a hv (G.lt v a ha) e▸ha)
 ·rcases up q with hq | ⟨v,hv,rfl⟩
  ·rw[hh q hq]at hab;exact hab.elim
  ·obtain ⟨c,d,rfl,rfl,hcd⟩:=(cC5 v hv _ _).mp hab;exact(cC5 c (G.lt v c (bQ2 hcd).1) _ _).mpr ⟨d,v,rfl,rfl,G.tri _ _ _ hcd⟩
 ·rcases up q with hq | ⟨v,hv,rfl⟩
  ·rw[hh q hq]at hp;exact absurd hp (by simp)
  ·obtain ⟨a,ha,rfl⟩:=(mem' v hv _).mp hp;exact F.lt a (G.lt v a ha)
 ·obtain ⟨v,hv,rfl⟩:=F.surj q hq;rw[len v hv];exact G.two v hv
 ·have:=G.three
  have:=(cC5 2 (by omega) 1 0).mpr ⟨1,0,F.c1.symm,F.c0.symm,G.out⟩
  rwa [F.c2]at this
 ·obtain ⟨v,hv,rfl⟩:=F.surj q hq
  have:=G.three
  refine G.conn (λv=>v<n->R (f v)) (λ_=>by rw[F.c0];exact h0) (λa b ha hb hbn=>?_) v hv hv
  by_cases han:a<n
  ·exact hR _ _ (ha han) ((mem' a han _).mpr ⟨b,hb,rfl⟩)
  ·rw[G.hi a (by omega)]at hb;exact absurd hb (by simp)
 ·have p:((List.range n).map f).Perm (List.range n):=by
   refine(List.perm_ext_iff_of_nodup ?_ List.nodup_range).mpr λq=>?_
   ·rw[Ac5,Ad8];refine List.Pairwise.imp_of_mem ?_ (Ac5.mp List.nodup_range);intro a b ha hb hne e;exact hne (F.inj a b (Ab5.mp ha) (Ab5.mp hb) e)
   ·constructor
    ·intro hq;obtain ⟨v,hv,rfl⟩:=Aa8.mp hq;exact Ab5.mpr (F.lt v (Ab5.mp hv))
    ·intro hq;obtain ⟨v,hv,rfl⟩:=F.surj q (Ab5.mp hq);exact Aa8.mpr ⟨v,Ab5.mpr hv,rfl⟩
  have e1:=(p.map λq=>(r' q).length).sum_nat
  have e2:((List.range n).map f).map (λq=>(r' q).length)=(List.range n).map λv=>(r v).length:=by
   rw[Ae0];exact List.map_congr_left λv hv=>len v (Ab5.mp hv)
  rw[e2]at e1;rw[<- e1];exact G.sum
end TT
namespace TT
def pv (F:Nat->Nat):Nat->Nat
 | 0=>0
 | i+1=>F i
def gst (F G:Nat->Nat):Nat->S
 | 0=>S.first
 | i+1=>(gst F G i).step (F i-pv F i) (G i-pv G i)
structure Rws (F G:Nat->Nat)(m:Nat):Prop where
 f1:∀i,i<m->pv F i<=F i
 f2:∀i,i<m->F i<=i
 g1:∀i,i<m->pv G i<=G i
 g2:∀i,i<m->G i<=F i
structure dI2 (F G:Nat->Nat)(i:Nat):Prop where
 inv:aY3 (gst F G i)
 more:bF3 (gst F G i)
 k:(gst F G i).k=i
 p:(gst F G i).path.length+pv F i=1+i
 h:(gst F G i).heap.length+pv G i=1+pv F i
 le:pv F i<=i
 le2:pv G i<=pv F i
theorem T1 {F G:Nat->Nat}{m:Nat}(R:Rws F G m):∀i,i<=m->dI2 F G i
 | 0,_=>⟨bK4,bM4,rfl,rfl,rfl,Aa7 _,Aa7 _⟩
 | i+1,hi=>by
  have I:=T1 R i (by omega)
  have f1:=R.f1 i (by omega)
  have f2:=R.f2 i (by omega)
  have g1:=R.g1 i (by omega)
  have g2:=R.g2 i (by omega)
  have h1:=I.p
  have h2:=I.h
  have ha:F i-pv F i<(gst F G i).path.length:=by omega
  have hb:G i-pv G i<(F i-pv F i)+(gst F G i).heap.length:=by omega
  obtain ⟨x,px,y,hy,ex,ey,E,I'⟩:=bR2 I.inv ha hb;refine⟨I',bU7 I.inv I.more ha hb,?_,?_,?_,?_,g2⟩
  ·show(gst F G i).k+1=i+1
   rw[I.k]
  ·show(((gst F G i).k+3)::(gst F G i).path.drop (F i-pv F i)).length+F i=1+(i+1)
   rw[List.length_cons,List.length_drop];omega
  ·show(((gst F G i).h1 (F i-pv F i)).drop (G i-pv G i)).length+G i=1+F i
   rw[List.length_drop];unfold S.h1;rw[Ab7,Ad9,Ad0];omega
  ·show F i<=i+1
   omega
theorem cH9 {F G:Nat->Nat}{m:Nat}(R:Rws F G m):Good (m+3) (gst F G m).row:=by
 have I:=T1 R m (Aa7 _)
 have:=cE8 I.inv I.more
 rwa [I.k]at this
end TT
namespace TT
theorem cD7 (F G:Nat->Nat):∀i,(gst F G i).k=i
 | 0=>rfl
 | i+1=>by show(gst F G i).k+1=i+1;rw[cD7 F G i]
def pa (F G:Nat->Nat)(v:Nat):List Nat:=(gst F G (v-2)).path.tail
def hp (F G:Nat->Nat)(v:Nat):List Nat:=(gst F G (v-2)).heap
theorem aD5 (F G:Nat->Nat)(i:Nat):(gst F G (i+1)).path=(i+3)::pa F G (i+3):=by
 show((gst F G i).k+3)::(gst F G i).path.drop (F i-pv F i)=_
 rw[cD7];rfl
section
variable {F G:Nat->Nat}{m:Nat}
structure At (F G:Nat->Nat)(i:Nat):Prop where
 pe:∃p,pa F G (i+3)=p++[0]
 he:∃h,hp F G (i+3)=h++[1]
 nd:((i+3)::(pa F G (i+3)++hp F G (i+3))).Nodup
 lt:∀x,x∈pa F G (i+3)\/x∈hp F G (i+3)->x<i+3/\x≠2
theorem dD0 (R:Rws F G m){i:Nat}(hi:i<m):At F G i:=by
 have I:=T1 R (i+1) (by omega)
 have nd:=I.inv.nd 2
 rw[aH2,aD5]at nd;have lt:=I.inv.lt 2;rw[aH2,aD5,I.k]at lt;have bd:=I.inv.bd;obtain ⟨p,hp'⟩:=I.inv.pe;obtain ⟨h,hh⟩:=I.inv.he;rw[aD5]at hp';have nd':((i+3)::(pa F G (i+3)++hp F G (i+3))).Nodup:=by
  have hpm:(((i+3)::pa F G (i+3)).reverse++(gst F G (i+1)).heap).Perm ((i+3)::(pa F G (i+3)++hp F G (i+3))):=by
   show(((i+3)::pa F G (i+3)).reverse++(gst F G (i+1)).heap).Perm (((i+3)::pa F G (i+3))++(gst F G (i+1)).heap)
   exact(List.reverse_perm _).append_right _
  exact hpm.nodup_iff.mp nd
 refine⟨?_,⟨h,hh⟩,nd',λx hx=>?_⟩
 ·cases p with
  | nil=>simp at hp'
  | cons y p=>simp only[Ab6,List.cons.injEq]at hp';exact⟨p,hp'.2⟩
 ·have h1:=lt x (by
   rcases hx with hx | hx
   ·simp[hx]
   ·exact Ac1 _ hx)
  have h2:=(bd x (by
   rcases hx with hx | hx
   ·left;rw[aD5];simp[hx]
   ·right;exact hx)).1
  have h3:x≠i+3:=by
   rintro rfl
   have:=(Aa5.mp nd').1
   exact this (Aa0.mpr hx)
  omega
end
end TT
namespace TT
structure Bt (F G:Nat->Nat)(m:Nat)(f:Nat->Nat)(d t:List (List Nat)):Prop where
 R:Rws F G m
 N:Nm (m+3) f
 dl:d.length=m+3
 dr:∀v,v<m+3->d[f v]? = some (Z3 (((gst F G m).row v).map f))
 tl:t.length=m
 tr:∀v,3<=v->v<m+3->t[f v-3]? = some [f ((gst F G m).o0 v),f ((gst F G m).o1 v),f ((gst F G m).o2 v)]
def og (t:List (List Nat))(c q:Nat):Nat:=((t[q-3]?.getD []))[c]?.getD 0
theorem Nm.lo {n:Nat}{f:Nat->Nat}(N:Nm n f)(h:3<=n){q:Nat}(hq:q<n):f q<3↔q<3:=by
 constructor
 ·intro hl;have a0:=N.c0;have a1:=N.c1;have a2:=N.c2;rcases (show f q=0\/f q=1\/f q=2 by omega) with e | e | e
  ·have:=N.inj q 0 hq (by omega) (by omega);omega
  ·have:=N.inj q 1 hq (by omega) (by omega);omega
  ·have:=N.inj q 2 hq (by omega) (by omega);omega
 ·intro hl;have a0:=N.c0;have a1:=N.c1;have a2:=N.c2;rcases (show q=0\/q=1\/q=2 by omega) with e | e | e <;> subst e <;> omega
theorem bA5 {f:Nat->Nat}{n:Nat}(inj:∀v w,v<n->w<n->f v=f w->v=w){l:List Nat}(nd:l.Nodup)(hl:∀x∈l,x<n):(l.map f).Nodup:=by
 rw[Ac5,Ad8];exact List.Pairwise.imp_of_mem (λ{a b} ha hb hne e=>hne (inj a b (hl a ha) (hl b hb) e)) (Ac5.mp nd)
end TT
namespace TT
section
variable {F G:Nat->Nat}{m:Nat}{f:Nat->Nat}{d t:List (List Nat)}
def trn (d:List (List Nat))(q:Nat):List Nat:=d[q]?.getD []
theorem Bt.good (B:Bt F G m f d t):Good (m+3) (trn d):=by
 refine Good.named (cH9 B.R) B.N (λv hv=>?_) λq hq=>?_
 ·unfold trn;rw[B.dr v hv];rfl
 ·unfold trn;rw[Ad4 (by rw[B.dl];exact hq)];rfl
def oc (s:S):Nat->Nat->Nat
 | 0=>s.o0
 | 1=>s.o1
 | _=>s.o2
theorem Bt.og (B:Bt F G m f d t){c v:Nat}(hc:c<3)(h3:3<=v)(hv:v<m+3):og t c (f v)=f (oc (gst F G m) c v):=by
 unfold TT.og;rw[B.tr v h3 hv];rcases (show c=0\/c=1\/c=2 by omega) with e | e | e <;> subst e <;> rfl
theorem bC7 {s:S}{c v:Nat}(hc:c<3)(h3:3<=v)(hv:v<s.k+3):oc s c v∈s.row v:=by
 rw[Q4 h3 hv];rcases (show c=0\/c=1\/c=2 by omega) with e | e | e <;> subst e <;> simp[oc]
theorem Bt.out_mem (B:Bt F G m f d t){c q:Nat}(hc:c<3)(h3:3<=q)(hq:q<m+3):TT.og t c q∈trn d q/\TT.og t c q<m+3:=by
 obtain ⟨v,hv,rfl⟩:=B.N.surj q hq;have v3:3<=v:=by have:=B.N.lo (by omega) hv;omega
 have hk:(gst F G m).k=m:=cD7 F G m
 have hm:TT.og t c (f v)∈trn d (f v):=by
  unfold trn;rw[B.dr v hv,B.og hc v3 hv];exact begun_mem.mpr (Aa8.mpr ⟨_,bC7 hc v3 (by rw[hk];exact hv),rfl⟩)
 exact⟨hm,B.good.lt _ _ hm⟩
end
end TT
namespace TT
end TT
namespace TT
variable {F G:Nat->Nat}{m:Nat}
theorem W1 {a b:List Nat}(h:(a++b).Nodup):∀x,x∈a->x∈b->False:=λx h1 h2=>(Aa4.mp h).2.2 x h1 x h2 rfl
structure dE9 (F G:Nat->Nat)(i:Nat):Prop where
 k:(gst F G i).k=i
 a:F i-pv F i<(gst F G i).path.length
 b:G i-pv G i<((gst F G i).h1 (F i-pv F i)).length
 pl:(gst F G i).path.length<=i+1
 hl:((gst F G i).h1 (F i-pv F i)).length<=i+2
 lo:∀x∈((gst F G i).h1 (F i-pv F i)).take (G i-pv G i),3<=x/\x<i+3
 px:∃x r,(gst F G i).path.drop (F i-pv F i)=x::r/\x<i+3/\((gst F G i).i0 x).length<=i+3
 hy:∃y r,((gst F G i).h1 (F i-pv F i)).drop (G i-pv G i)=y::r/\y<i+3/\((gst F G i).i1 y).length<=i+3
 e0:(gst F G i).i0 (i+3)=[]
 e1:(gst F G i).i1 (i+3)=[]
theorem dA7 {l:List Nat}{n:Nat}(nd:l.Nodup)(h:∀x∈l,x<n):l.length<=n:=by
 have:=aW6 nd (m:=List.range n) λx hx=>Ab5.mpr (h x hx)
 simpa using this
theorem aN7 {s:S}(I:aY3 s)(q:Nat):(s.row q).length<=s.k+3:=dA7 (I.nd q) (I.lt q)
theorem dA1 {s:S}(I:aY3 s){q:Nat}(h:q<s.k+3)(h2:q≠2)(h1:q≠1):(s.i0 q).length<=s.k+3:=by
 have:=aN7 I q
 by_cases h0:q=0
 ·subst h0;rw[aH6]at this;simp at this;omega
 ·rw[Q4 (by omega) h]at this;simp at this;omega
theorem cW9 {s:S}(I:aY3 s){q:Nat}(h:q<s.k+3)(h2:q≠2)(h0:q≠0):(s.i1 q).length<=s.k+3:=by
 have:=aN7 I q
 by_cases h1:q=1
 ·subst h1;rw[aR0]at this;simp at this;omega
 ·rw[Q4 (by omega) h]at this;simp at this;omega
theorem aX9 (R:Rws F G m){i:Nat}(hi:i<m):dE9 F G i:=by
 have I:=T1 R i (by omega)
 have A:=dD0 R hi
 have f1:=R.f1 i hi
 have f2:=R.f2 i hi
 have g1:=R.g1 i hi
 have g2:=R.g2 i hi
 have h1:=I.p
 have h2:=I.h
 have nd:=I.inv.nd 2
 have lt:=I.inv.lt 2
 rw[aH2]at nd lt;rw[I.k]at lt;have hx1:((gst F G i).h1 (F i-pv F i)).length=(F i-pv F i)+(gst F G i).heap.length:=by
  unfold S.h1;rw[Ab7,Ad9,Ad0];omega
 obtain ⟨p,hp⟩:=A.pe;obtain ⟨h,hh⟩:=A.he;have e1:(gst F G i).path.drop (F i-pv F i)=p++[0]:=by rw[<- hp];rfl
 have e2:((gst F G i).h1 (F i-pv F i)).drop (G i-pv G i)=h++[1]:=by rw[<- hh];rfl
 have memp:∀x,x∈(gst F G i).path\/x∈(gst F G i).heap->x<i+3/\x≠2:=λx hx=>⟨lt x (by rcases hx with hx | hx <;> simp[hx]),(I.inv.bd x hx).1⟩
 have memh:∀x∈(gst F G i).h1 (F i-pv F i),x∈(gst F G i).path.take (F i-pv F i)\/x∈(gst F G i).heap:=λx hx=>by
  unfold S.h1 at hx;simpa using hx
 have memh':∀x∈(gst F G i).h1 (F i-pv F i),x∈(gst F G i).path\/x∈(gst F G i).heap:=λx hx=>(memh x hx).imp List.mem_of_mem_take id
 have ndp:((gst F G i).path.take (F i-pv F i)++(gst F G i).path.drop (F i-pv F i)).Nodup:=by
  rw[Ad2]
  have:=(Aa4.mp nd).1
  exact(List.reverse_perm _).nodup_iff.mp this
 have ndh:((gst F G i).h1 (F i-pv F i)).Nodup:=by
  unfold S.h1;refine Aa4.mpr ⟨?_,(Aa4.mp nd).2.1,λx hx y hy e=>?_⟩
  ·exact(List.reverse_perm _).nodup_iff.mpr (Aa4.mp ndp).1
  ·subst e;exact W1 nd x (by simpa using List.mem_of_mem_take (List.mem_reverse.mp hx)) hy
 refine⟨I.k,by omega,by omega,by omega,by omega,λx hx=>?_,?_,?_,?_,?_⟩
 ·have hxm:=List.mem_of_mem_take hx
  obtain ⟨l1,l2⟩:=memp x (memh' x hxm);refine⟨?_,l1⟩;have n1:x≠1:=λe=>by
   subst e;have nd':=ndh;rw[<- Ad2 (G i-pv G i) ((gst F G i).h1 (F i-pv F i))]at nd';exact W1 nd' 1 hx (by rw[e2];simp)
  have n0:x≠0:=λe=>by
   subst e;have z:0∈(gst F G i).path.drop (F i-pv F i):=by rw[e1];simp
   rcases memh 0 hxm with w | w
   ·exact W1 ndp 0 w z
   ·exact W1 nd 0 (by simpa using List.mem_of_mem_drop z) w
  omega
 ·cases hd:(gst F G i).path.drop (F i-pv F i) with
  | nil=>rw[e1]at hd;simp at hd
  | cons x r=>
   have hm:x∈(gst F G i).path:=List.mem_of_mem_drop (by rw[hd];simp:x∈(gst F G i).path.drop (F i-pv F i))
   obtain ⟨l1,l2⟩:=memp x (.inl hm);refine⟨x,r,rfl,l1,?_⟩;have n1:x≠1:=λe=>by
    subst e;obtain ⟨h',hh'⟩:=I.inv.he;exact W1 nd 1 (by simpa using hm) (by rw[hh'];simp)
   have:=dA1 I.inv (q:=x) (by rw[I.k];exact l1) l2 n1
   rwa [I.k]at this
 ·cases hd:((gst F G i).h1 (F i-pv F i)).drop (G i-pv G i) with
  | nil=>rw[e2]at hd;simp at hd
  | cons y r=>
   have hm:y∈(gst F G i).h1 (F i-pv F i):=List.mem_of_mem_drop (by rw[hd];simp:y∈((gst F G i).h1 (F i-pv F i)).drop (G i-pv G i))
   obtain ⟨l1,l2⟩:=memp y (memh' y hm);refine⟨y,r,rfl,l1,?_⟩;have n0:y≠0:=λe=>by
    subst e;have z:0∈(gst F G i).path.drop (F i-pv F i):=by rw[e1];simp
    rcases memh 0 hm with w | w
    ·exact W1 ndp 0 w z
    ·exact W1 nd 0 (by simpa using List.mem_of_mem_drop z) w
   have:=cW9 I.inv (q:=y) (by rw[I.k];exact l1) l2 n0
   rwa [I.k]at this
 ·exact(I.inv.emp (i+3) (by rw[I.k];omega)).1
 ·exact(I.inv.emp (i+3) (by rw[I.k];omega)).2
theorem cB3 (R:Rws F G m):∀i,i<=m->(gst F G i).i2 2=[]
 | 0,_=>rfl
 | i+1,h=>by
  show put (gst F G i).i2 ((gst F G i).k+3) (((gst F G i).h1 (F i-pv F i)).take (G i-pv G i)) 2=[]
  rw[B6 (by omega)]
  exact cB3 R i (by omega)
end TT
namespace LV
open PySem L2
theorem cR2 {K:PySem.W.Frag}{ρ:List Sl}(ρJ:List Sl){c:TT}{t u:TS}{b:Bool}{R:AE}(h:T K c ρ b)(h1:b=true->W K t ρ {R with nx:=λr=>r=ρJ})(h2:b=false->W K u ρ {R with nx:=λr=>r=ρJ})(hn:R.nx ρJ):W K (cF2 c t u) ρ R:=
 aC3 h (λe=>(h1 e).weak (λr z=>by rw[z];exact hn) (λ_ z=>z) (λ_ z=>z) (λ_ z=>z) (λ_ z=>z)) (λe=>(h2 e).weak (λr z=>by rw[z];exact hn) (λ_ z=>z) (λ_ z=>z) (λ_ z=>z) (λ_ z=>z))
def Sl.nb:Sl->Bool
 | .bor _=>false
 | _=>true
theorem v7 {x:Sl}{r:List Sl}:X4 (x::r)=(x.nb&&X4 r):=by cases x <;> rfl
theorem W6 {n i:Nat}{d:PyData}(h:(W4 0 n)[i]? = some d):d=.int (i:Int)/\i<n:=by
 unfold W4 at h;have hn:=(Ab0.mp h).1;have hn:i<n:=by simpa using hn
 rw[Aa9,List.getElem?_range hn]at h;refine⟨?_,hn⟩
 have:=(Ab4 h).symm
 simpa using this
theorem Q1 {n:Nat}{lo:Int}:(W4 lo n).length=n:=by simp[W4]
def nI (l:List Nat):List PyData:=l.map λ(x:Nat)=>PyData.int (x:Int)
def lN (l:List Nat):PyData:=.list (nI l)
def oN (l:List Nat):OT:=.lst (l.map λ(x:Nat)=>OT.leaf (.int (x:Int)))
def fl (F:Nat->Nat)(m:Nat):List Int:=(List.range m).map λi=>(F i:Int)
def O1 (k:Nat)(o0 o1 o2:Nat->Nat):OT:=.lst ((List.range k).map λj=>oN [o0 (j+3),o1 (j+3),o2 (j+3)])
def G0 (n:Nat)(i0 i1 i2:Nat->List Nat):OT:=.lst ((List.range n).map λq=>.tup [oN (i0 q),oN (i1 q),oN (i2 q)])
theorem N9 (l:List Nat):(nI l).length=l.length:=by simp[nI]
theorem S5 (l:List Nat):M2 (nI l)=true:=aH3 (λ_=>rfl) l
theorem aO7 (l l':List Nat):nI (l++l')=nI l++nI l':=by simp[nI]
theorem cY6 (l:List Nat):nI l.reverse=(nI l).reverse:=by simp[nI]
theorem bQ3 (l:List Nat):(oN l).data=lN l:=by
 unfold oN lN nI;simp only[OT.data];rw[aD1 (g:=λx:Nat=>PyData.int (x:Int)) (λ_=>rfl)]
theorem bU4 (k:Nat)(o0 o1 o2:Nat->Nat):(O1 k o0 o1 o2).data=.list ((List.range k).map λj=>lN [o0 (j+3),o1 (j+3),o2 (j+3)]):=by
 unfold O1;simp only[OT.data];rw[aD1 (λj=>bQ3 _)]
theorem bU6 (n:Nat)(i0 i1 i2:Nat->List Nat):(G0 n i0 i1 i2).data=.list ((List.range n).map λq=>.tuple [lN (i0 q),lN (i1 q),lN (i2 q)]):=by
 unfold G0;simp only[OT.data];rw[aD1 (g:=λq=>PyData.tuple [lN (i0 q),lN (i1 q),lN (i2 q)]) (λq=>by simp only[OT.data,OT.datas,bQ3])]
theorem bQ7 {F:Nat->Nat}{m i:Nat}(h:i<m):atI ((fl F m).map PyData.int) (i:Int)=some (.int (F i:Int)):=Q0 i rfl (by simp[fl,h])
theorem U7 {α:Type}{n q:Nat}{f:Nat->α}(h:q<n):((List.range n).map f)[q]? = some (f q):=by simp[h]
theorem i7 {α:Type}{n q:Nat}{f g:Nat->α}{h:α->α}(hq:q<n)(h1:h (f q)=g q)(h2:∀j,j≠q->f j=g j):((List.range n).map f).modify q h=(List.range n).map g:=by
 rw[U3 (U7 hq),h1];refine List.ext_getElem? λj=>?_
 rw[List.getElem?_set];by_cases e:q=j
 ·subst e;simp[hq]
 ·rw[if_neg e];by_cases hj:j<n
  ·rw[U7 hj,U7 hj,h2 j (λz=>e z.symm)]
  ·rw[Ad4 (by simp;omega),Ad4 (by simp;omega)]
section
variable {n q k j:Nat}{i0 i1 i2:Nat->List Nat}{o0 o1 o2:Nat->Nat}
theorem aE9 (h:q<n):(G0 n i0 i1 i2).at [q]=some (.tup [oN (i0 q),oN (i1 q),oN (i2 q)]):=by
 show((G0 n i0 i1 i2).kids[q]?).bind _=_
 unfold G0;simp only[OT.kids];rw[U7 h];rfl
theorem cK7 (h:q<n):(G0 n i0 i1 i2).at ([q]++[0])=some (oN (i0 q)):=by rw[aH4 (aE9 h)];rfl
theorem cQ3 (h:q<n):(G0 n i0 i1 i2).at ([q]++[1])=some (oN (i1 q)):=by rw[aH4 (aE9 h)];rfl
theorem bR6 (h:q<n):(G0 n i0 i1 i2).at ([q]++[2])=some (oN (i2 q)):=by rw[aH4 (aE9 h)];rfl
theorem cX0 (h:j<k):(O1 k o0 o1 o2).at [j]=some (oN [o0 (j+3),o1 (j+3),o2 (j+3)]):=by
 show((O1 k o0 o1 o2).kids[j]?).bind _=_
 unfold O1;simp only[OT.kids];rw[U7 h];rfl
theorem bY2 (h:q<n)(l:List Nat):(G0 n i0 i1 i2).put ([q]++[0]) (oN l)=G0 n (TT.put i0 q l) i1 i2:=by
 unfold G0;rw[List.singleton_append,OT.put_lst]
 congr 1
 refine i7 h ?_ λj hj=>by simp only[TT.B6 hj]
 rw[OT.put_tup,TT.B5];rfl
theorem cC1 (h:q<n)(l:List Nat):(G0 n i0 i1 i2).put ([q]++[1]) (oN l)=G0 n i0 (TT.put i1 q l) i2:=by
 unfold G0;rw[List.singleton_append,OT.put_lst]
 congr 1
 refine i7 h ?_ λj hj=>by simp only[TT.B6 hj]
 rw[OT.put_tup,TT.B5];rfl
theorem cB1 (h:q<n)(l:List Nat):(G0 n i0 i1 i2).put ([q]++[2]) (oN l)=G0 n i0 i1 (TT.put i2 q l):=by
 unfold G0;rw[List.singleton_append,OT.put_lst]
 congr 1
 refine i7 h ?_ λj hj=>by simp only[TT.B6 hj]
 rw[OT.put_tup,TT.B5];rfl
theorem cN7 (h:j<k)(c:Nat):(O1 k o0 o1 o2).put [j] (oN [o0 (j+3),o1 (j+3),c])=O1 k o0 o1 (TT.put o2 (j+3) c):=by
 unfold O1;rw[OT.put_lst]
 congr 1
 refine i7 h ?_ λi hi=>by simp only[TT.B6 (show i+3≠j+3 by omega)]
 rw[OT.put_nil,TT.B5]
theorem aY5 (l:List Nat)(x:Nat):OT.lst ((l.map λ(x:Nat)=>OT.leaf (.int (x:Int)))++[.leaf (.int (x:Int))])=oN (l++[x]):=by simp[oN]
theorem cG5 (h:q<n)(x:Nat):(G0 n i0 i1 i2).put ([]++[q]++[0]) (.lst (((i0 q).map λ(x:Nat)=>OT.leaf (.int (x:Int)))++[.leaf (.int (x:Int))]))=G0 n (TT.put i0 q (i0 q++[x])) i1 i2:=by
 rw[aY5];exact bY2 h _
theorem bY8 (h:q<n)(x:Nat):(G0 n i0 i1 i2).put ([]++[q]++[1]) (.lst (((i1 q).map λ(x:Nat)=>OT.leaf (.int (x:Int)))++[.leaf (.int (x:Int))]))=G0 n i0 (TT.put i1 q (i1 q++[x])) i2:=by
 rw[aY5];exact cC1 h _
theorem bG1 (h:q<n)(x:Nat):(G0 n i0 i1 i2).put ([]++[q]++[2]) (.lst (((i2 q).map λ(x:Nat)=>OT.leaf (.int (x:Int)))++[.leaf (.int (x:Int))]))=G0 n i0 i1 (TT.put i2 q (i2 q++[x])):=by
 rw[aY5];exact cB1 h _
theorem bS6 {α:Type}{f:Nat->α}{q:Nat}{a b:α}:TT.put (TT.put f q a) q b=TT.put f q b:=by
 funext x;by_cases e:x=q
 ·rw[e,TT.B5,TT.B5]
 ·rw[TT.B6 e,TT.B6 e,TT.B6 e]
theorem cK4:OT.lst (((List.range n).map λq=>OT.tup [oN (i0 q),oN (i1 q),oN (i2 q)])++[.tup [.lst [],.lst [],.lst []]])=G0 (n+1) (TT.put i0 n []) (TT.put i1 n []) (TT.put i2 n []):=by
 unfold G0;rw[List.range_succ,Ad1]
 congr 2
 ·refine List.map_congr_left λa ha=>?_
  have:=Ab5.mp ha
  rw[TT.B6 (by omega),TT.B6 (by omega),TT.B6 (by omega)]
 ·simp[TT.B5,oN]
theorem cO3 (a b c:Nat):OT.lst (((List.range k).map λj=>oN [o0 (j+3),o1 (j+3),o2 (j+3)])++[.lst [.leaf (.int (a:Int)),.leaf (.int (b:Int)),.leaf (.int (c:Int))]])=O1 (k+1) (TT.put o0 (k+3) a) (TT.put o1 (k+3) b) (TT.put o2 (k+3) c):=by
 unfold O1;rw[List.range_succ,Ad1]
 congr 2
 ·refine List.map_congr_left λx ha=>?_
  have:=Ab5.mp ha
  rw[TT.B6 (by omega),TT.B6 (by omega),TT.B6 (by omega)]
 ·simp[TT.B5,oN]
end
theorem aH9 {n q:Nat}{f:Nat->PyData}(h:q<n):atI ((List.range n).map f) (q:Int)=some (f q):=Q0 q rfl (U7 h)
theorem cK6 {p h:List Nat}{s:TT.S}(e1:s.path=p++[0])(e2:s.heap=h++[1]):s.row 2=0::(p.reverse++h)++[1]:=by
 rw[TT.aH2,e1,e2];simp
section
variable {K:PySem.W.Frag}{ρ:List Sl}{m:Bool}{t ta tb:TE}{l l':List Nat}{ds es:List PyData}
theorem V3 (ha:E K false ta ρ (lN l))(hb:E K false tb ρ (lN l'))(hl:l.length+l'.length<=100000):EF K (tOp (bX9 K) ta tb) ρ (nI (l++l')):=by
 rw[aO7];exact t6 ha hb (S5 l) (S5 l') (by rw[N9,N9];unfold PySem.sizeLine;omega)
theorem bR4 (ha:E K false ta ρ (lN l)):EF K (bS8 K ta) ρ (nI l.reverse):=by
 rw[cY6];exact cH4 ha (S5 l)
theorem EF.toN {t:TE}(h:EF K t ρ (nI l))(e:l=l'):E K m t ρ (lN l'):=by subst e;exact EF.e' h
end
end LV
namespace LV
open PySem PySem.Spec PyProof.Rows L2
end LV
namespace L2
open PySem PySem.Spec PyProof.Rows
section
variable {X:Cx}{pins:List (Addr×Obj)}{σ:St}{H:Hp}{s:Shared}{h':Heap}
theorem Inv.turnedL {t':Nat}{fp:List Addr}(I:Inv X pins σ H s)(k:∀b o,b∉fp->s.heap.get? b=some o->h'.get? b=some o)(hf:∀b∈fp,aQ3 X pins H b):Inv X pins σ H {s with heap:=h',toks:=t'}:=by
 have nit:∀b u,H b=some u->b∉fp:=λb u e z=>by rw[(hf b z).1]at e;cases e
 refine I.step (g':=s.gens) (d':=s.drawn) (ch:=fp) (λb hb=>?_) (λb o _ _ hc e _=>k b o hc e) (λb o _ _ hc e _=>⟨o.slots,k b o hc e⟩) (λ_ _ _ _ n=>n)
  (λb o hc e=>⟨o,k b o hc e⟩) (λ_ _ e=>e) (λ_ _ _ e=>e) (λb ps e=>⟨#[],by rw[e];simp⟩) (λm hm=>?_) (λb u e=>?_) I.bare
 ·obtain ⟨_,f1,_,f3,f4,f5⟩:=hf b hb;exact⟨f3,f1,f4,f5⟩
 ·obtain ⟨o,es,ep,ho,r⟩:=hm;exact⟨o,es,ep,k _ o (λz=>(hf _ z).2.1 rfl) ho,r⟩
 ·refine(I.hok b u e).stay (λc v hc q=>k c v ?_ q) (λ_ q=>q) λ_ _ q=>q
  rcases hc with z | z
  ·rw[z];exact nit b u e
  ·exact nit c _ z
theorem Inv.turnedLaid {t':Nat}{fp:List Addr}{T:Addr}{ob:HO}(I:Inv X pins σ H s)(k:∀b o,b∉fp->s.heap.get? b=some o->h'.get? b=some o)(hf:∀b∈fp,aQ3 X pins H b)(hT:s.heap.objs.size<=T)
  (new:ObjOk X.prog X.w (upd H T ob) h' T ob):Inv X pins σ (upd H T ob) {s with heap:=h',toks:=t'}:=by
 have nit:∀b u,H b=some u->b∉fp:=λb u e z=>by rw[(hf b z).1]at e;cases e
 have HT:H T=none:=I.hok.fresh hT
 have nT:∀b o,s.heap.get? b=some o->b≠T:=λb o e z=>by have h1:b<s.heap.objs.size:=Ab3 e;rw[z]at h1;exact absurd (Ab8 h1 hT) (Ad7 _)
 have nH:∀b u,H b=some u->b≠T:=λb u e z=>by rw[z,HT]at e;cases e
 refine I.step (g':=s.gens) (d':=s.drawn) (ch:=fp) (λb hb=>?_) (λb o _ _ hc e _=>k b o hc e) (λb o _ _ hc e _=>⟨o.slots,k b o hc e⟩) (λb o _ e n=>by rw[B1 (nT b o e)];exact n)
  (λb o hc e=>⟨o,k b o hc e⟩) (λb _ e=>by rw[B1 (nH b _ e)];exact e) (λb _ _ e=>by rw[B1 (nH b _ e)];exact e) (λb ps e=>⟨#[],by rw[B1 (nH b _ e),e];simp⟩) (λm hm=>?_) (λb u e=>?_) I.bare
 ·obtain ⟨_,f1,_,f3,f4,f5⟩:=hf b hb;exact⟨f3,f1,f4,f5⟩
 ·obtain ⟨o,es,ep,ho,r⟩:=hm;exact⟨o,es,ep,k _ o (λz=>(hf _ z).2.1 rfl) ho,r⟩
 ·by_cases hb:b=T
  ·subst hb;rw[B7]at e;cases e;exact new
  rw[B1 hb]at e;refine(I.hok b u e).stay (λc v hc q=>k c v ?_ q) (λc q=>by rw[B1 (nH c _ q)];exact q) λc _ q=>by rw[B1 (nH c _ q)];exact q
  rcases hc with z | z
  ·rw[z];exact nit b u e
  ·exact nit c _ z
end
def Iel (K:PySem.W.Frag)(a:Addr):It:=
 ⟨λi H=>∃xs x,SqL K H a xs/\xs[i]? = some x,λi H x H'=>∃T y,x=.ref T/\H T=none/\H'=upd H T (.tup [.int (i:Int),y])/\∀xs,SqL K H a xs->xs[i]? = some y,λi H=>∃xs,SqL K H a xs/\xs.length<=i⟩
theorem bJ8 {P:Program}{w:World}{K:PySem.W.Frag}{elts:List Expr}{k:_}{pos:Pos}(a e it:Addr)(hne:e≠it):bE3 P w K (.Tuple elts k pos) (Iel K a) [e,it] e (λi h=>(∃old,IsEnum h e it (i:Int) old)/\h.IsListIter it a i) where
 mem:=by simp
 obj:=λi h st b hb=>by
  obtain ⟨⟨old,he⟩,o,e1,c,d⟩:=st;rcases Aa1.mp hb with rfl | hb
  ·exact⟨_,he,λv z=>by cases z⟩
  ·have eb:b=it:=by simpa using hb
   subst eb;exact⟨o,e1,λv z=>by rw[d]at z;cases z⟩
 keep:=λi h h' st k=>⟨⟨st.1.choose,k e (by simp) _ st.1.choose_spec⟩,st.2.at λo q=>k it (by simp) o q⟩
 item:=by
  intro X hP hw hK hc i pins s σ H E I hf st hg;subst hP hw hK;obtain ⟨⟨old,he⟩,hi⟩:=st;obtain ⟨xs,x,hq,hx⟩:=hg;obtain ⟨its,rv,p,hz⟩:=I.list hq;obtain ⟨u,hu,ru⟩:=rv.get hx;refine wpAny_pyNext_enum_item he hi p.isList (x:=u) (by simpa using hu) hne λh' ho hi' hT hs kp=>?_
  refine⟨_,rfl,?_⟩;have ea:a≠e:=λz=>by
   obtain ⟨o,n,q,c,_⟩:=p;rw[z]at q;rw[show s.heap.get? e=_ from he]at q
   cases q
   injection c with c
   exact absurd c (by decide)
  have eit:a≠it:=λz=>by
   obtain ⟨o,n,q,c,_⟩:=p;obtain ⟨o',q',c',_⟩:=hi;rw[z,q']at q;cases q;rw[c']at c
   injection c with c
   exact absurd c (by decide)
  have Te:s.heap.objs.size≠e:=λz=>by have h1:=Ab3 he;rw[z]at h1;exact Ad7 _ h1
  have Ti:s.heap.objs.size≠it:=λz=>by
   obtain ⟨o',q',_⟩:=hi;have h1:=Ab3 q';rw[z]at h1;exact Ad7 _ h1
  have pl':h'.IsList a its.toArray:=by
   obtain ⟨o,n,q,c,dd,d⟩:=p;exact⟨o,kp a o ea eit q,c,n,d⟩
  refine(WalksT.enumerate (prog:=X.prog) (w:=X.w) (A:=X.A) (I.ok.hd hc) e it a hne ea eit its.toArray).go elts k pos i s.heap.objs.size {s with heap:=h',toks:=s.toks+1} _ _ ⟨⟨u,ho⟩,hi',pl',Te,Ti⟩ λh2 ⟨⟨old2,he2⟩,hi2,_⟩ kp2=>?_
  have hT2:=kp2 s.heap.objs.size _ (by simp[Te,Ti]) hT
  refine⟨.ref s.heap.objs.size,upd H s.heap.objs.size (.tup [.int (i:Int),x]),?_,rfl,⟨_,x,rfl,I.hok.fresh (Aa7 _),rfl,λys hy=>by rw[I.list_inj hy hq];exact hx⟩,⟨⟨old2,by simpa using he2⟩,hi2⟩,λb hb=>?_⟩
  ·refine I.turnedLaid (t':=s.toks+1) (fp:=[e,it]) (λb o hb q=>kp2 b o hb (kp b o (λz=>hb (by simp[z])) (λz=>hb (by simp[z])) q)) hf (Aa7 _) ?_
   exact⟨by show 2<=sizeLine;decide,[.int (i:Int) s.toks,u],.cons ⟨_,rfl⟩ (.cons ru .nil),⟨_,hT2,rfl,⟨_,rfl⟩,rfl⟩⟩
  ·rw[B1]
   ·exact(hf b hb).1
   ·rcases Aa1.mp hb with rfl | hb
    ·exact Ne.symm Te
    ·have eb:b=it:=by simpa using hb
     subst eb;exact Ne.symm Ti
 done:=by
  intro X hP hw hK hc i pins s σ H E I hf st hg;subst hP hw hK;obtain ⟨⟨old,he⟩,hi⟩:=st;obtain ⟨xs,hq,hx⟩:=hg;obtain ⟨its,rv,p,hz⟩:=I.list hq;have hl:=rv.length;exact wpAny_pyNext_enum_end (I.ok.hd hc) he hi p.isList (by simp;omega) λh' eb=>⟨rfl,I.turnedL (t':=s.toks) (λb o hb q=>eb b o (λz=>hb (by simp[z])) q) hf⟩
 self:=λ_ _ _ _ _ st h=>wpAny_pyIter_enum st.1.choose_spec h
section
variable {X:Cx}{elts:List Expr}{k:Nat}{ps:Pos}
def bZ5 (K:PySem.W.Frag)(ta:TA):TI:=λσ H R=>ta σ H λvs H1=>∃a xs,vs=[.ref a]/\SqL K H1 a xs/\R (Iel K a) H1
theorem bY5 {l:Expr}{ta:TA}{p pos:Pos}(K:PySem.W.Frag)(hg:Gl X "enumerate")(hm:X.mg "enumerate" = none)(ha:PA X [l] ta)(hK:X.K=K:=by rfl)(hs:starEach [l] X.env=[(false,eval l X.env)]:=by rfl):PI X (.Tuple elts k ps) (.Call (.Name "enumerate" p) [l] [] pos) (bZ5 K ta):=by
 subst hK;refine⟨?_⟩;intro pins s σ H R I h;refine Call_ (o7 I hg hm boot_enumerate (PyProof.Rows.callWith_type1 (thn (ha pos pins s σ H _ I h) λus s1 ⟨vs,H1,I1,r1,q1⟩=>?_) hs rfl))
 obtain ⟨a,xs,e,hq,q⟩:=q1;subst e;obtain ⟨u,rfl,rx⟩:=aE3 r1;cases rx;obtain ⟨its,rv,pl,hz⟩:=I1.list hq;refine call_enumerate_list pl.isList λh' he hi hs kp=>?_
 refine wpAny_pyIter_enum he ?_;refine⟨s1.heap.objs.size+1,[s1.heap.objs.size+1,s1.heap.objs.size],_,_,H1,rfl,I1.kept (t':=s1.toks) kp,bJ8 a _ _ (by simp),⟨⟨_,he⟩,hi⟩,λb hb=>?_,q⟩
 rcases Aa1.mp hb with rfl | hb
 ·exact I1.fpOk (Nat.le_succ _) (I1.hok.fresh (Nat.le_succ _))
 ·have e:b=s1.heap.objs.size:=by simpa using hb
  subst e;exact I1.fpOk (Aa7 _) (I1.hok.fresh (Aa7 _))
end
end L2
namespace LV
open PySem PySem.Spec PyProof.Rows L2
section
variable {K:PySem.W.Frag}{ρ:List Sl}{m:Bool}{t ta tb:TE}{d d':PyData}{ds es:List PyData}
def enD (ds:List PyData):List PyData:=ds.mapIdx λi d=>.tuple [.int (i:Int),d]
theorem bT6:(enD ds).length=ds.length:=by simp[enD]
theorem bM2 {i:Nat}{d:PyData}(h:(enD ds)[i]? = some d):∃y,ds[i]? = some y/\d=.tuple [.int (i:Int),y]:=by
 unfold enD at h;rw[List.getElem?_mapIdx]at h;obtain ⟨y,h1,h2⟩:=Option.map_eq_some_iff.mp h;exact⟨y,h1,h2.symm⟩
theorem cI9 {Z:Hp}{a:Addr}{xs:List V}(s:SqL K Z a xs)(r:Reps K Z xs ds):Wk K Z (Iel K a) (enD ds) where
 stop:=λi H h l=>⟨xs,M8 h s,by rw[r.length,<- bT6];exact l⟩
 go:=λi H d h e=>by
  obtain ⟨y,e,_⟩:=bM2 e;obtain ⟨v,h1,_⟩:=r.get' e;exact⟨xs,v,M8 h s,h1⟩
 yld:=λi H d x H' h e y=>by
  obtain ⟨z,e',rfl⟩:=bM2 e;obtain ⟨T,v,rfl,hT,rfl,y⟩:=y
  have:=y xs (M8 h s)
  obtain ⟨d',h1,h2⟩:=r.get this;rw[e']at h1;cases h1;have g:=E6 (o:=.tup [.int (i:Int),v]) hT;refine⟨g,λS hS=>?_⟩
  have hm:Same Z (hid S (upd H T (.tup [.int (i:Int),v]))):=λb o q=>hid_some.mpr ⟨(λz=>by rw[(hS b z).1]at q;cases q),g b o (h b o q)⟩
  exact .tup (SqT.of (hid_some.mpr ⟨λz=>(hS T z).2 hT,B7⟩)) (.cons (.int _) (.cons (h2.mono hm) .nil))
theorem cO6 {t:TA}(h:A K m t ρ [.list ds]):I K m (bZ5 K t) ρ (enD ds):=λS B σ H o J R q=>h S B σ H o J _ λvs H1 s1 r=>by
 cases r with
 | cons a b=>
  cases b
  cases a with
  | lst s r=>exact⟨_,_,rfl,M8 aE7 s,q _ H1 s1 (cI9 s r)⟩
theorem cY0 {t:TA}{i j:Int}(ha:A K false t ρ [.int i,.int j]):E K m (tCB (λxs H Q=>∃i j,xs=[.int i,.int j]/\Q (.int (if j>i then j else i)) H) t) ρ (.int (max i j)):=cM5 ha λH vs Q r q=>by
 cases r with
 | cons a b=>cases b with
  | cons b c=>
   cases a;cases b;cases c
   refine⟨i,j,rfl,q _ λ_=>?_⟩
   have:(if j>i then j else i)=max i j:=by split <;> omega
   rw[this];exact .int _
end
section
variable {X:Cx}
theorem bX2 (K:PySem.W.Frag)(h:X.K=K:=by rfl):MtR X "list.count" (λx xs H Q=>∃(p:Addr) (l:List Int) (k:Int),x=.ref p/\xs=[.int k]/\SqL K H p (l.map V.int)/\Q (.int (l.count k)) H):=by
 subst h;intro pins s σ H x xs v us Q I rx rv ⟨p,l,k,e1,e2,hq,q⟩;subst e1;subst e2;cases rx;obtain ⟨u,rfl,t,rfl⟩:=aE3 rv;obtain ⟨its,r,⟨o,n,e,c,dd,d⟩,hz⟩:=I.list hq;obtain ⟨oc,od,odata,osl⟩:=o;dsimp only at c dd d;subst c;subst dd;subst d;have hi:∀y∈its,∃i t,y=Value.int i t:=λy hy=>by
  obtain ⟨j,hj,rfl⟩:=List.mem_iff_getElem.mp hy;have hl:=r.length;rw[Aa3]at hl;obtain ⟨u,h1,t,rfl⟩:=r.get (i:=j) (x:=.int (l[j]'(by omega))) (by rw[Aa9,Aa2 (by omega)];rfl)
  rw[Aa2 hj]at h1;exact⟨_,_,Ab4 h1⟩
 have hcnt:its.countP (λy=>match y with | .int i _=>i==k | _=>false)=l.count k:=by
  have ri:=W3 r
  clear hq hz e r hi q
  induction ri with
  | nil=>rfl
  | cons n t _ ih=>rw[List.countP_cons,List.count_cons,ih]
 refine call_meets F.slot_list_count ⟨_,e,rfl⟩ F.entry_list_count (F.args_list_count_2 _ _) (SeqAt.list_countAt p its.toArray n none osl (.int k t) (λy=>match y with | .int i _=>i==k | _=>false)) ⟨e,λy hy=>?_,?_⟩
 ·obtain ⟨i,t',rfl⟩:=hi y (by simpa using hy)
  exact SeqAt.EqAt.int_int _ _ _ _
 ·rw[show List.countP _ its.toArray.toList=l.count k from hcnt]
  exact⟨.int _,H,I.tok _,⟨_,rfl⟩,q⟩
end
section
variable {K:PySem.W.Frag}{ρ:List Sl}{m:Bool}{t ta tb:TE}{d d':PyData}{ds es:List PyData}
theorem cJ6 {l:List Int}{k:Int}(ha:E K false ta ρ (lI l))(hb:E K false tb ρ (.int k)) :
  E K m (tBM K "list" (λx xs H Q=>∃(p:Addr) (l:List Int) (k:Int),x=.ref p/\xs=[.int k]/\SqL K H p (l.map V.int)/\Q (.int (l.count k)) H) ta (N0 tb p8)) ρ (.int (l.count k)):=E.bor (E.imm (m:=false) λS B σ H o I Q q=>ha S B σ H o I _ λv H1 s1 r=>by
 obtain ⟨p,rfl,s⟩:=aZ0 r;refine⟨.inl ⟨rfl,_,s⟩,?_⟩;refine hb S B σ H1 o (I.grow s1) _ λu H2 s2 r2=>?_
 cases r2
 exact⟨p,l,k,rfl,rfl,M8 s2 s,q _ H2 (L2.Same.tr s1 s2) (.int _)⟩)
end
end LV
namespace L2
open PySem PySem.Spec PyProof.Rows
section
variable {prog:Program}{w:World}{A:Around}{E:Value->Shared->Prop}{s:Shared}
theorem aU9 {a:Addr}{o:Obj}{items:Array Value}{n:Nat}{M:Model}{Q:Option (Array Value)->Shared->Prop}(e:s.heap.get? a=some o)(d:o.data=.seq items n)(h:Q (some items) s):wpAny M A (seqItems? (.ref a)) Q E s:=by
 unfold seqItems?;refine wpAny_bind (wpAny_load e ?_);rw[d];exact wpAny_pure h
theorem j6 {it t:Addr}{i:Nat}{items:Array Value}{x:Value}{Q:Value->Shared->Prop}(st:s.heap.IsTupleIter it t i)(ht:s.heap.IsTuple t items)(hx:items[i]? = some x)
  (h:∀h':Heap,h'.IsTupleIter it t (i+1)->Heap.SameBut it s.heap h'->Q x {s with heap:=h'}):wpAny (model prog w) A (Builtin.SmallTypes.nextOf (.ref it)) Q E s:=by
 unfold Builtin.SmallTypes.nextOf;refine wpAny_bind (wpAny_callSpecial?_slot st.typeIs slot_tupleiter_next (wpAny_call_entry slot_tupleiter_next st.typeIs entry_tupleiter_next ?_ (args_tupleiter_next _)));obtain ⟨o,e,c,d⟩:=id st;obtain ⟨ot,et,ct,n,dt⟩:=ht;have e0:slotArgs "__next__" 0 {pos:=[.ref it]}=pure (.ref it,[]):=rfl;refine wpAny_bind (m:=slotArgs "__next__" 0 {pos:=[.ref it]}) ?_;rw[e0];refine wpAny_pure ?_;refine wpAny_bind (m:=field (.ref it) 0) (wpAny_field e d rfl ?_);refine wpAny_bind (m:=field (.ref it) 1) (wpAny_field e d rfl ?_);refine wpAny_bind (m:=seqItems? (.ref t)) (aU9 et dt ?_);show wpAny _ _ (match items[(i:Int).toNat]? with | some x=>_ | none=>_) _ _ _
 rw[Ac7,hx];refine wpAny_bind (m:=setField (.ref it) 1 (rawInt ((i:Int)+1))) (wpAny_setField e d (by simp) ?_)
 obtain ⟨oc,od,odata,osl⟩:=o;dsimp only at c d;subst c;subst d;exact wpAny_pure ⟨x,rfl,wpAny_pure (h _ ⟨_,Heap.get?_update_self _ e rfl,rfl,rfl⟩ (Heap.SameBut.update _ _ _))⟩
theorem dC3 {α:Type}{M:Model}{Q:α->Shared->Prop}(hh:A.handled=none)(h:∀(h':Heap) (e:Addr),(∀b o,s.heap.get? b=some o->h'.get? b=some o)->(∃o,h'.get? e=some o/\o.cls=.type "StopIteration")->E (.ref e) {s with heap:=h'}) :
  wpAny M A (Builtin.SmallTypes.stopIteration (α := α)) Q E s:=by
 unfold Builtin.SmallTypes.stopIteration newExc;refine wpAny_bind ?_;refine wpAny_bind (wpAny_newTuple ?_ (by show 0<=sizeLine;exact Nat.zero_le _))
 have e1:firstArgMember (.type "StopIteration") []=pure .none:=by
  unfold firstArgMember;show(pure _ >>= λhas=>pure (if has=true then _ else _))=_
  cases (Manifest.find? "StopIteration").elim false λt=>t.mro.contains "StopIteration" || t.mro.contains "SystemExit" <;> rfl
 rw[e1];refine wpAny_bind (wpAny_pure ?_);refine wpAny_newObj_type ?_ (by show(6:Nat)<=sizeLine+2;decide)
 refine wpAny_raiseNew_none hh (h _ _ (λb o q=>Aa6 _ (Aa6 _ q)) ⟨_,Ac3 _ rfl,rfl⟩)
theorem aK2 {it t:Addr}{i:Nat}{items:Array Value}{Q:Value->Shared->Prop}(hh:A.handled=none)(st:s.heap.IsTupleIter it t i)(ht:s.heap.IsTuple t items)(hx:items[i]? = none)
  (h:∀(h':Heap) (e:Addr),Heap.ExtBut it s.heap h'->(∃o,h'.get? e=some o/\o.cls=.type "StopIteration")->E (.ref e) {s with heap:=h'}):wpAny (model prog w) A (Builtin.SmallTypes.nextOf (.ref it)) Q E s:=by
 unfold Builtin.SmallTypes.nextOf;refine wpAny_bind (wpAny_callSpecial?_slot st.typeIs slot_tupleiter_next (wpAny_call_entry slot_tupleiter_next st.typeIs entry_tupleiter_next ?_ (args_tupleiter_next _)));obtain ⟨o,e,c,d⟩:=id st;obtain ⟨ot,et,ct,n,dt⟩:=ht;have e0:slotArgs "__next__" 0 {pos:=[.ref it]}=pure (.ref it,[]):=rfl;refine wpAny_bind (m:=slotArgs "__next__" 0 {pos:=[.ref it]}) ?_;rw[e0];refine wpAny_pure ?_;refine wpAny_bind (m:=field (.ref it) 0) (wpAny_field e d rfl ?_);refine wpAny_bind (m:=field (.ref it) 1) (wpAny_field e d rfl ?_);refine wpAny_bind (m:=seqItems? (.ref t)) (aU9 et dt ?_);show wpAny _ _ (match items[(i:Int).toNat]? with | some x=>_ | none=>_) _ _ _
 rw[Ac7,hx];refine wpAny_bind (wpAny_rule ?_);refine wpAny_bind (m:=setField (.ref it) 0 .none) (wpAny_setField e d (by simp) ?_)
 exact dC3 hh λh' ex kp N=>h h' ex (λb o hb q=>kp b o (by rw[Heap.get?_update_ne _ _ _ _ hb];exact q)) N
end
theorem tuple_inj {X:Cx}{pins:List (Addr×Obj)}{σ:St}{H:Hp}{s:Shared}{a:Addr}{xs ys:List V}(I:Inv X pins σ H s)(h:SqT X.K H a xs)(h':SqT X.K H a ys):xs=ys:=by
 obtain ⟨its,r,⟨o,e,_,n,d⟩,_⟩:=I.tuple h;obtain ⟨its',r',⟨o',e',_,n',d'⟩,_⟩:=I.tuple h';rw[e]at e';cases e';rw[d]at d'
 injection d' with d1 _
 have:its=its':=by simpa using congrArg Array.toList d1
 subst this;exact r.inj r'
end L2
namespace LV
open PySem PySem.Spec PyProof.Rows L2
section
variable {K:PySem.W.Frag}{ρ ρ':List Sl}{m:Bool}{t ta tb:TE}{d d':PyData}{ds es:List PyData}
theorem dF1 {K:PySem.W.Frag}{ρ:List Sl}(PJ:List Sl->Prop){c:TT}{t u:TS}{b:Bool}{R:AE}(h:LV.T K c ρ b)(h1:b=true->W K t ρ {R with nx:=PJ})(h2:b=false->W K u ρ {R with nx:=PJ})(hn:∀ρ',PJ ρ'->R.nx ρ'):W K (cF2 c t u) ρ R:=
 aC3 h (λe=>(h1 e).weak hn (λ_ z=>z) (λ_ z=>z) (λ_ z=>z) (λ_ z=>z)) (λe=>(h2 e).weak hn (λ_ z=>z) (λ_ z=>z) (λ_ z=>z) (λ_ z=>z))
end
end LV
namespace L2
open PySem PySem.Spec PyProof.Rows
open PySem.Builtin PySem.Builtin.Str
end L2
namespace LV
open PySem PySem.Spec PyProof.Rows L2
end LV
namespace L2
open PySem PySem.Spec PyProof.Rows
def Fly (h0:Heap)(H:Hp)(x:Addr)(cls:Value)(h:Heap):Prop:=
 ∃a0 oe vs T oT ts,h0.get? x=none/\h0.get? T=none/\H x=none/\H T=none/\h.get? x=some oe/\(oe.cls=cls/\vs[0]? = some a0)/\oe.data=.fields vs/\vs[1]? = some (.ref T)/\T≠x/\h.get? T=some oT/\oT.data=.fields ts/\ts[3]? = some .none
section
variable {P:Program}{w:World}{H H':Hp}{h h1 h2:Heap}{fs B:List Addr}
theorem cH7 (u:Un fs [] H H' h h1)(hB:∀b∈B,h.get? b=none)(k:∀b o,h1.get? b=some o->b∉fs->b∉B->h2.get? b=some o)(ks:∀b o,h1.get? b=some o->b∈fs->∃sl,h2.get? b=some {o with slots:=sl}):Un fs [] H H' h h2 where
 keep:=λb o e n hb hx=>k b o (u.keep b o e n hb hx) hb λz=>by rw[hB b z]at e;cases e
 slot:=λb o e n hb hx=>by
  obtain ⟨sl,e1⟩:=u.slot b o e n hb hx;obtain ⟨sl',e2⟩:=ks b _ e1 hb;exact⟨sl',e2⟩
 free:=u.free
 there:=λb o e hx=>by
  obtain ⟨o',e1⟩:=u.there b o e hx;by_cases hb:b∈fs
  ·obtain ⟨sl,e2⟩:=ks b o' e1 hb;exact⟨_,e2⟩
  ·exact⟨o',k b o' e1 hb λz=>by rw[hB b z]at e;cases e⟩
 tups:=u.tups
 frzs:=u.frzs
 tbls:=u.tbls
theorem bJ7 (hok:HOk P w H h1)(hfs:∀b∈fs,H b=none)(hB:∀b∈B,H b=none)(k:∀b o,h1.get? b=some o->b∉fs->b∉B->h2.get? b=some o):HOk P w H h2:=λa o e=>
 (hok a o e).stay (λb u hb q=>by
  have ht:∃y,H b=some y:=by
   rcases hb with rfl | hb
   ·exact⟨_,e⟩
   ·exact⟨_,hb⟩
  obtain ⟨y,hy⟩:=ht;refine k b u q (λz=>?_) λz=>?_
  ·rw[hfs b z]at hy;cases hy
  ·rw[hB b z]at hy;cases hy) (λ_ q=>q) λ_ _ q=>q
theorem j4 {a:Addr}{o:HO}(x:ObjOk P w H h a o):∃ob,h.get? a=some ob:=by
 cases o with
 | lst xs=>obtain ⟨_,_,_,_,e⟩:=x;exact⟨_,e⟩
 | tup xs=>obtain ⟨_,_,_,o,e,_⟩:=x;exact⟨_,e⟩
 | dK kvs=>obtain ⟨_,_,_,_,o,_,_,e,_⟩:=x;exact⟨_,e⟩
 | dT kvs=>obtain ⟨_,_,_,_,o,_,_,e,_⟩:=x;exact⟨_,e⟩
 | set S n=>obtain ⟨o,_,_,_,e,_⟩:=x;exact⟨_,e⟩
 | ins C dx fs=>obtain ⟨_,_,_,e,_⟩:=x;exact⟨_,e⟩
 | own y=>obtain ⟨_,e⟩:=x;exact⟨_,e⟩
 | xd fs=>obtain ⟨_,⟨_,_,_,e,_⟩,_⟩:=x;exact⟨_,e⟩
 | rng lo hi=>obtain ⟨_,_,_,e⟩:=x;exact⟨_,e⟩
 | frz ob u=>obtain ⟨e,_⟩:=x;exact⟨_,e⟩
 | tbl ps=>exact⟨_,show h.get? a=some _ from x⟩
 | met f y=>exact⟨_,show h.get? a=some _ from x⟩
 | ext φ=>obtain ⟨_,e,_⟩:=x;exact e
theorem s9 {base:Heap}{D:List Addr}:∀{l:List Env},h.FunFrames base l->(∀b∈frs l,b∈D)->h.FunFrames (PySem.W.hideAll h1 D) l
 | [],_,_=>trivial
 | env::rest,⟨hk,⟨L,o,hf,hn,ho,hd⟩,hr⟩,hD=>by
  have hL:L∈frs (env::rest):=by unfold frs;rw[List.filterMap_cons,hf];exact List.mem_cons_self ..
  refine⟨hk,⟨L,o,hf,PySem.W.hideAll_none _ (hD L hL),ho,hd⟩,s9 hr λb hb=>hD b ?_⟩
  unfold frs at hb ⊢;rw[List.filterMap_cons,hf];exact Ad3 _ hb
end
section
variable {P:Program}{w:World}{K:PySem.W.Frag}{mg:Str->Option Value}{base:Heap}{N:List Str}{qual:Str}{scope:Scope}{f:Addr}{cd:Value}{A:Around}{outer:List Env}{s:Shared}{H:Hp}{E:XK}
theorem cA6 {env:Env}{L:Addr}(h:env.frame=some L):frs (env::outer)=L::frs outer:=by unfold frs;rw[List.filterMap_cons,h]
end
abbrev bmV:List Value:=[.type "ValueError",.type "Exception",.type "BaseException",.type "object"]
theorem aW0 {K:PySem.W.Frag}{h:Heap}{C:Addr}{bmB:List Value}{newId:String}(X:K.In h)(q:PySem.W.excIn K C bmB newId=true) :
  ∃bm N nm qn bs hdct sn sub ab col dd k0 k1 k2 k3 k5 mN,h.get? C=some (excClassObj nm qn C N bs bm hdct sn sub ab col dd k0 k1 k2 k3 k5 newId)/\h.Ns N mN/\mN "__init__" = none/\OwnTail h bmB bm:=by
 unfold PySem.W.excIn at q;split at q
 ·rename_i dd cd sl ho;split at q
  ·rename_i C' bm k0 k1 k2 k3 n k5 hm hs;simp only[Bool.and_eq_true,beq_iff_eq,Bool.not_eq_true']at q;obtain ⟨⟨⟨⟨⟨rfl,rfl⟩,hdel⟩,ht⟩,hok⟩,hni⟩:=q;obtain ⟨nm,bs,mro,ns,qn,hd,sn,sub,ab,col,del⟩:=cd;dsimp only at hm hdel hok hni;subst hm hdel;have hsl:sl = #[k0,k1,k2,k3,some (.builtin n),k5]:=by
    obtain ⟨l⟩:=sl;simp only at hs;rw[hs]
   subst hsl;exact⟨bm,ns,nm,qn,bs,hd,sn,sub,ab,col,dd,k0,k1,k2,k3,k5,_,X _ _ ho,.of_isNs (PySem.W.isNs_of_in X hok),PySem.W.nsMap_none_of_in X hok hni,PySem.W.tail_of_in X ht⟩
  ·cases q
 ·cases q
section
variable {prog:Program}{w:World}{A:Around}{E:Value->Shared->Prop}{s:Shared}{K:PySem.W.Frag}{x C:Addr}{cd:ClassData}{vs:Array Value}{sl:Array (Option Value)}{name:Str}{v:Value}
structure cV0 (K:PySem.W.Frag)(C:Addr)(cd:ClassData):Prop where
 cls:PySem.W.clsIn K C=some cd
 mro:∀self:Value,refuseLoop self "__setattr__" cd.mro=pure ()
 obj:PySem.W.mroIn K C (.type "object")=some true
 dict:cd.hasDict=true
 sa:PySem.W.findIn K (.ref C) "__setattr__" = some (some (.builtin "object.__setattr__"))
theorem cI6 {Q:Unit->Shared->Prop}(X:K.In s.heap)(c:cV0 K C cd)(hx:s.heap.get? x=some ⟨.ref C,none,.fields vs,sl⟩)(ha:PySem.W.findIn K (.ref C) name=some none)
  (h:∀h',h'.get? x=some ⟨.ref C,some s.heap.objs.size,.fields vs,sl⟩->h'.Ns1 s.heap.objs.size (λy=>if y=name then some v else none)->(∀b o,b≠x->s.heap.get? b=some o->h'.get? b=some o)->Q () {s with heap:=h',toks:=s.toks+2}) :
  wpAny (model prog w) A (setAttr (.ref x) name v) Q E s:=by
 have J:PySem.W.InstAt s.heap x ⟨.ref C,none,.fields vs,sl⟩ C none:=⟨hx,rfl,rfl,trivial⟩
 refine PySem.W.set_plain X J c.sa ?_;have ty:PySem.W.Looks (model prog w) s.heap (isInstance (.ref x) (.type "object")) true:=J.type.andThen (PySem.W.looks_mroIn X c.obj);have tw:PySem.W.Looks (model prog w) s.heap (mroOf (.ref C)) cd.mro:=(PySem.W.looks_clsIn X c.cls).andThen .now;have sf:=PySem.F.store_object;refine codeAny_call_builtin sf.slot.plain sf.entry ?_;refine @PySem.W.check_slot _ _ _ {s with toks:=s.toks+1} "object.__setattr__" "object" "__setattr__" (.ref x) [.str name s.toks,v] [] _ sf.kind sf.split ty (sf.args _ _ _) ?_
 rw[PySem.W.osa_eq,refuse_eq];refine wpAny_bind (wpAny_bind (J.type.here (s:={s with toks:=s.toks+1}) (wpAny_bind (tw.here (s:={s with toks:=s.toks+1}) ?_))))
 rw[c.mro];refine wpAny_pure (wpAny_bind (J.type.here (s:={s with toks:=s.toks+1}) (wpAny_bind ((PySem.W.looks_findIn X ha).here (s:={s with toks:=s.toks+1}) (wpAny_bind (wpAny_pure ?_))))))
 refine wpAny_bind (wpAny_pure (wpAny_bind (wpAny_bind (wpAny_loadPart hx (wpAny_bind ((PySem.W.looks_clsIn X c.cls).here (s:={s with toks:=s.toks+1}) ?_))))))
 rw[c.dict];show wpAny _ _ (alloc {cls:=.type "dict",data:=.dict #[]} >>= λdn=>update x (λo=>{o with dict:=some dn}) >>= λ_=>dictMade (.ref C) x dn) _ _ _
 have xs:x≠s.heap.objs.size:=Ab9 (Ab3 hx)
 obtain ⟨hp,eh⟩:∃hp,hp=s.heap.push {cls:=.type "dict",data:=.dict #[]}:=⟨_,rfl⟩;have p1:hp.get? x=some ⟨.ref C,none,.fields vs,sl⟩:=by rw[eh];exact Aa6 _ hx
 have p2:hp.get? s.heap.objs.size=some {cls:=.type "dict",data:=.dict #[]}:=by rw[eh];exact Heap.get?_push_at rfl rfl
 have p3:∀b o,s.heap.get? b=some o->hp.get? b=some o:=λb o e=>by rw[eh];exact Aa6 _ e
 refine wpAny_bind (wpAny_alloc' ?_);rw[<- eh];refine wpAny_bind (wpAny_update' p1 ?_);obtain ⟨hu,eu⟩:∃hu,hu=hp.update x (λo=>{o with dict:=some s.heap.objs.size}):=⟨_,rfl⟩
 have u1:hu.get? x=some ⟨.ref C,some s.heap.objs.size,.fields vs,sl⟩:=by rw[eu];exact Heap.get?_update_self _ p1 rfl
 have u2:hu.get? s.heap.objs.size=some {cls:=.type "dict",data:=.dict #[]}:=by rw[eu];exact(Heap.get?_update_other _ _ xs).trans p2
 have u3:∀b o,b≠x->s.heap.get? b=some o->hu.get? b=some o:=λb o hb e=>by rw[eu];exact(Heap.get?_update_other _ _ (Ne.symm hb)).trans (p3 b o e)
 rw[<- eu];refine wpAny_pure ?_;have emp:hu.Ns s.heap.objs.size (λ_=>none):=⟨_,#[],_,u2,rfl,λe he=>absurd he (by simp),λ_=>rfl⟩
 show wpAny _ _ (Builtin.ObjectAttr.storeInDict s.heap.objs.size (.str name s.toks) name v) _ _ _
 unfold Builtin.ObjectAttr.storeInDict Builtin.ObjectAttr.newKeyGuard;refine wpAny_bind (wpAny_pure (wpAny_bind (wpAny_nsSet1 (Heap.Ns1.of_empty emp) λhn ns1 sb=>?_)))
 obtain ⟨oD,es,ep,g1,g2,g3⟩:=ns1.count (PySem.Within.cons name v PySem.Within.nil);refine wpAny_bind (wpAny_lookBehind g1 (by rw[g2];exact pastItsLine_dict (Nat.le_trans g3 (by simp[sizeLine_eq]))) ?_)
 exact wpAny_pure (h hn ((sb.2 x xs).trans u1) ns1 λb o hb e=>(sb.2 b (Ab9 (Ab3 e))).trans (u3 b o hb e))
end
section
variable {prog:Program}{w:World}{A:Around}{E:Value->Shared->Prop}{s:Shared}{K:PySem.W.Frag}{x C:Addr}{ox:Obj}{od:Option Obj}{name:Str}{v:Value}{expr:Bool}
structure bV7 (K:PySem.W.Frag)(C:Addr):Prop where
 ga:PySem.W.findIn K (.ref C) "__getattribute__" = some (some (.builtin "BaseException.__getattribute__"))
 gt:PySem.W.findIn K (.ref C) "__getattr__" = some none
 up:PySem.W.mroIn K C (.type "BaseException")=some true
theorem bR8 {Q:Value->Shared->Prop}(X:K.In s.heap)(J:PySem.W.InstAt s.heap x ox C od)(c:bV7 K C)(hf:PySem.W.findObj K C od name=some (.value v))(hh:PySem.W.handedIn v=true)(h:Q v {s with toks:=s.toks+1}) :
  wpAny (model prog w) A (getAttr (.ref x) name expr) Q E s:=by
 have gaF:=PySem.F.attr_ValueError.ga
 unfold getAttr getAttrBy;refine wpAny_bind (wpAny_mkText (wpAny_holding (wpAny_bind (J.type.here (s:={s with toks:=s.toks+1}) (wpAny_bind ((PySem.W.looks_findIn X c.ga).here (s:={s with toks:=s.toks+1}) ?_))))))
 dsimp only
 rw[show(Value.builtin "BaseException.__getattribute__" == Value.builtin "object.__getattribute__")=false from by decide +kernel,Bool.and_false,if_neg Bool.false_ne_true]
 unfold getAttrByItsOwn;refine wpAny_bind ((PySem.W.looks_hook (mc:=.ref C) X (r:=none) (by rw[show onTheHeap (Value.ref C)=true from rfl];exact c.gt)).here (s:={s with toks:=s.toks+1}) (wpAny_bind (wpAny_attempt (wpAny_holding ?_))))
 unfold callGetattribute;rw[show(expr&&onTheHeap (Value.builtin "BaseException.__getattribute__"))=false from Bool.and_false _,if_neg Bool.false_ne_true]
 unfold boundAndCalled;rw[gaF.bind];refine wpAny_bind (wpAny_pure ?_);have ty:PySem.W.Looks (model prog w) s.heap (isInstance (.ref x) (.type "BaseException")) true:=J.type.andThen (PySem.W.looks_mroIn X c.up);show wpAny _ _ (call (.builtin "BaseException.__getattribute__") [.ref x,.str name s.toks]) _ _ _;refine wpAny_call (codeAny_call_builtin gaF.plain PySem.F.entry_bexc_ga ?_);refine @PySem.W.check_slot _ _ _ {s with toks:=s.toks+1} "BaseException.__getattribute__" "BaseException" "__getattribute__" (.ref x) [.str name s.toks] [] _ (by decide +kernel) (by decide +kernel) ty (PySem.F.args_bexc_ga _ _) ?_
 unfold Builtin.«object.__getattribute__»;refine wpAny_bind (wpAny_pure (wpAny_bind (wpAny_pure (wpAny_bind (J.type.here (s:={s with toks:=s.toks+1}) (wpAny_bind ((PySem.W.looks_find X J hf).here (s:={s with toks:=s.toks+1}) ?_)))))))
 refine wpAny_pure ?_;show wpAny _ _ (handedOut v) _ _ _;exact PySem.W.handed_on hh h
end
def cO9 (C T:Addr):Obj:={cls:=.ref C,data:=.fields #[.ref T,.none,.none,.none,.bool false,.none]}
section
variable {prog:Program}{w:World}{A:Around}{E:Value->Shared->Prop}{h:Heap}{g:Array GenState}{d:Drawn}{t:Nat}{os:OsState}
variable {nm q:Str}{C N fI:Addr}{bs bm bmB:List Value}{hdct:Bool}{sn:List Str}{sub:List Value}{ab:Bool}{col:Option Bool}{dd:Option Addr}{k0 k1 k2 k3 k5:Option Value}{B Bn newId nid initId inN:String}{bmN:List Value}{mN:Str->Option Value}{oI:Obj}{rest:List Value}
theorem aV1 {Q:Value->Shared->Prop}(Fn:ExcBaseFacts Bn newId inN bmN)(hBn:bmB.contains (.type Bn)=true)(F:ExcBaseFacts B nid initId bmB)(T:OwnTail h bmB bm)
  (hC:h.get? C=some (excClassObj nm q C N bs bm hdct sn sub ab col dd k0 k1 k2 k3 k5 newId)) (hn:h.Ns N mN) (hi:mN "__init__" = some (.ref fI)) (hf:h.get? fI=some oI) (hfc:oI.cls=.type "function") (hl:rest.length<=sizeLine)
  (hq:∀h':Heap,(∀b o,h.get? b=some o->h'.get? b=some o)->h'.get? h.objs.size=some {cls:=.type "tuple",data:=.seq rest.toArray}->h'.get? (h.objs.size+1)=some (cO9 C h.objs.size)->h'.objs.size=h.objs.size+2 ->
   wpAny (model prog w) (A.under (.builtin "type.__call__" ⟨.ref C::rest,[]⟩)) (call (.ref fI) (.ref (h.objs.size+1)::rest)) (λr s'=>r=.none/\Q (.ref (h.objs.size+1)) s') E ⟨h',g,d,t,os⟩) :
  wpAny (model prog w) A (call (.ref C) rest) Q E ⟨h,g,d,t,os⟩:=by
 obtain ⟨h2,e2⟩:∃h2,h2=(h.push {cls:=.type "tuple",data:=.seq rest.toArray}).push (cO9 C h.objs.size):=⟨_,rfl⟩;have up:∀b o,h.get? b=some o->h2.get? b=some o:=λb o e=>by rw[e2];exact Aa6 _ (Aa6 _ e)
 have at1:h2.get? h.objs.size=some {cls:=.type "tuple",data:=.seq rest.toArray}:=by rw[e2];exact Aa6 _ (Heap.get?_push_at rfl rfl)
 have at2:h2.get? (h.objs.size+1)=some (cO9 C h.objs.size):=by rw[e2];exact Heap.get?_push_at (Heap.size_push _ _).symm rfl
 have sz:h2.objs.size=h.objs.size+2:=by rw[e2,Heap.size_push,Heap.size_push]
 have n2:h2.Ns N mN:=by obtain ⟨o,es,ep,e,z⟩:=hn;exact⟨o,es,ep,up _ _ e,z⟩
 have C2:=up _ _ hC
 have T2:=T.keeps up
 have own:(Value.ref C::bm).contains (.ref C)=true:=by simp
 have l1:=tc_lookup
 have l2:=tc_bind (.ref C)
 have ty:(⟨h,g,d,t,os⟩:Shared).TypeIs (.ref C) "type" := ⟨_,hC,rfl⟩
 refine wpAny_call (codeAny_of_tree ?_);show wpAny _ _ (callAny (.ref C) _) _ _ _
 repeat (any_goals (first | assumption | wp_step | with_reducible refine wpAny_loadPart_at hC ?_))
 refine⟨rfl,codeAny_call_builtin_at (Code.quiet_builtin _ (by decide +kernel)) entry_typeCall (wpAny_check_type_call_sub hC ?_)⟩
 repeat (first | wp_step | with_reducible refine wpAny_madeBy_exc hC ?_ | with_reducible refine wpAny_loadPart_at hC ?_)
 refine codeAny_call_builtin_code (Code.quiet_builtin _ Fn.quiet) (wpAny_check_new_subU Fn hBn T hC (codeAny_exc_new_subU Fn hBn F T hC ?_ hl));show wpAny _ _ _ _ _ ⟨(h.push {cls:=.type "tuple",data:=.seq rest.toArray}).push (cO9 C h.objs.size),g,d,t,os⟩;rw[<- e2];unfold isInstance
 repeat (first | wp_step | with_reducible refine wpAny_loadPart_at at2 ?_)
 show wpAny _ _ (isSubtype (.ref C) (.ref C)) _ _ _
 refine wpAny_isSubtype_exc C2 ?_;rw[own]
 repeat wp_step
 show wpAny _ _ (typeLookup (.ref C) "__init__") _ _ _
 refine wpAny_typeLookup_tail C2 n2 T2 F.mroIs F.init.lookup ?_;rw[hi];refine wpAny_holding (wpAny_bind ?_);unfold bindSpecial;refine wpAny_bind (wpAny_typeOf (T := "function") ⟨_,up _ _ hf,hfc⟩ ?_);rw[if_pos (by decide)]
 refine wpAny_pure (wpAny_bind (wpAny_mono (hq h2 up at1 at2 sz) (λr s' z=>?_) λ_ _ z=>z))
 obtain ⟨rfl,z⟩:=z
 wp_walk
 exact z
end
section
variable {prog:Program}{w:World}{A:Around}{E:Value->Shared->Prop}{h:Heap}{g:Array GenState}{d:Drawn}{t:Nat}{os:OsState}
variable {nm q:Str}{C N:Addr}{bs bm bmB:List Value}{hdct:Bool}{sn:List Str}{sub:List Value}{ab:Bool}{col:Option Bool}{dd:Option Addr}{k0 k1 k2 k3 k5:Option Value}{B newId nid initId:String}{rest:List Value}
theorem cD2 (F:ExcBaseFacts B nid initId bmB)(T:OwnTail h bmB bm){e t0:Addr}{od:Option Addr}{sl:Array (Option Value)}{v1 v2 v3 v4 v5:Value}{Q:Value->Shared->Prop}
  (hC:h.get? C=some (excClassObj nm q C N bs bm hdct sn sub ab col dd k0 k1 k2 k3 k5 newId)) (he:h.get? e=some ⟨.ref C,od,.fields #[.ref t0,v1,v2,v3,v4,v5],sl⟩) (hl:rest.length<=sizeLine)
  (hq:∀h':Heap,(∀b o,b≠e->h.get? b=some o->h'.get? b=some o)->h'.get? e=some ⟨.ref C,od,.fields #[.ref h.objs.size,v1,v2,v3,v4,v5],sl⟩->h'.get? h.objs.size=some {cls:=.type "tuple",data:=.seq rest.toArray}->h'.objs.size=h.objs.size+1->Q .none ⟨h',g,d,t,os⟩) :
  wpAny (model prog w) A (call (.builtin initId) (.ref e::rest)) Q E ⟨h,g,d,t,os⟩:=by
 refine wpAny_call (codeAny_call_builtin F.init.plain F.initEntry (wpAny_check_init_subU F T hC he rfl ?_))
 wp_walk
 have ne:e≠h.objs.size:=Ab9 (Ab3 he)
 refine hq _ (λb o hb eb=>?_) ?_ ?_ ?_
 ·exact(Heap.get?_update_other _ _ (Ne.symm hb)).trans (Aa6 _ eb)
 ·exact(Heap.get?_update_self _ (Aa6 _ he) rfl).trans rfl
 ·exact(Heap.get?_update_other _ _ ne).trans (Heap.get?_push_at rfl rfl)
 ·rw[Heap.size_update,Heap.size_push]
end
section
variable {prog:Program}{w:World}{A:Around}{E:Value->Shared->Prop}{s:Shared}{K:PySem.W.Frag}{C:Addr}{initId:String}{pl:Sem Bool}
structure cG1 (K:PySem.W.Frag)(C:Addr)(initId:String):Prop where
 sp:PySem.W.specialIn K (.ref C) "__getattribute__" = some (some (.builtin "type.__getattribute__"))
 rd:PySem.W.readsIn K C (.type "type")=true
 fc:PySem.W.findCls K (.ref C) (.type "type") "__init__" = some (.val (.builtin initId))
 hd:PySem.W.handedIn (.builtin initId)=true
theorem cJ4 {Q:Value×List Value->Shared->Prop}(X:K.In s.heap)(c:cG1 K C initId)(h:Q (.builtin initId,[]) {s with toks:=s.toks+1}):wpAny (model prog w) A (getMethod (.ref C) "__init__" pl) Q E s:=
 PySem.W.method_cls X c.sp (PySem.W.cls_value X c.rd c.fc c.hd h)
end
open Sem (wp)
def Tame {α:Type}:Sem α->Prop
 | .pure _=>True
 | .raise _=>True
 | .unsupported _=>True
 | .finish _=>True
 | .rule _ k=>Tame (k ())
 | .at _ k=>Tame (k ())
 | .load _ _ k=>∀o,Tame (k o)
 | .update _ _ f k=>(∀o:Obj,(f o).dict=o.dict)/\Tame (k ())
 | .alloc _ k=>∀a,Tame (k a)
 | .loadIfAlive _ k=>∀o,Tame (k o)
 | .point _ k=>Tame (k ())
 | .fresh k=>∀t,Tame (k t)
 | .ask k=>∀x,Tame (k x)
 | .handled _ k=>∀x,Tame (k x)
 | .stack k=>∀x,Tame (k x)
 | .thread k=>∀x,Tame (k x)
 | .genState _ k=>∀x,Tame (k x)
 | _=>False
def Kd (h h':Heap):Prop:=∀(b:Nat) (o:Obj),h.objs[b]? = some o->∃o':Obj,h'.objs[b]? = some o'/\o'.dict=o.dict
theorem Kd.rf (h:Heap):Kd h h:=λb o e=>⟨o,e,rfl⟩
theorem Kd.tr {h h1 h2:Heap}(a:Kd h h1)(b:Kd h1 h2):Kd h h2:=λc o e=>by
 obtain ⟨o1,e1,d1⟩:=a c o e;obtain ⟨o2,e2,d2⟩:=b c o1 e1;exact⟨o2,e2,d2.trans d1⟩
theorem bT5 (h:Heap)(o:Obj):Kd h (h.push o):=λb o' e=>⟨o',by
 have hb:=(Array.getElem?_eq_some_iff.mp e).1
 show(h.objs.push o)[b]? = some o'
 rw[Array.getElem?_push_lt hb];rw[Array.getElem?_eq_getElem hb]at e;exact e,rfl⟩
theorem aW2 (h:Heap)(a:Addr)(f:Obj->Obj)(hf:∀o,(f o).dict=o.dict):Kd h (h.update a f):=λb o e=>by
 by_cases c:b=a
 ·subst c;refine⟨f o,?_,hf o⟩;show(h.objs.modify b f)[b]? = _;rw[Array.getElem?_modify,if_pos rfl,e];rfl
 ·refine⟨o,?_,rfl⟩;show(h.objs.modify a f)[b]? = _;rw[Array.getElem?_modify,if_neg (λz=>c z.symm),e]
section
variable {α β:Type}{M:Model}{Γ : PySem.Ctx}
theorem cL3:∀(t:Sem α) (Q:α->Pos->Shared->Prop) (E:Value->Pos->Shared->Prop) (p:Pos) (s:Shared),Tame t->wp M Γ t Q E p s->wp M Γ t (λa p' s'=>Q a p' s'/\Kd s.heap s'.heap) (λe p' s'=>E e p' s'/\Kd s.heap s'.heap) p s:=by
 intro t;induction t with
 | pure a=>intro Q E p s _ h;rw[wp]at h ⊢;exact⟨h,Kd.rf _⟩
 | raise e=>intro Q E p s _ h;rw[wp]at h ⊢;exact⟨h,Kd.rf _⟩
 | unsupported w=>intro Q E p s _ h;rw[wp]at h;exact h.elim
 | finish e=>intro Q E p s _ h;rw[wp]at h;exact h.elim
 | rule tag k ih=>intro Q E p s c h;rw[wp]at h ⊢;exact ih () Q E p s c h
 | «at» pos k ih=>intro Q E p s c h;rw[wp]at h ⊢;exact ih () Q E pos s c h
 | load a part k ih=>intro Q E p s c h;rw[wp]at h ⊢;obtain ⟨o,e,h⟩:=h;exact⟨o,e,ih o Q E p s (c o) h⟩
 | update a part f k ih=>
  intro Q E p s c h;rw[wp]at h ⊢;refine⟨h.1,Sem.wp_mono M Γ _ (λ_ p' s' z=>⟨z.1,(aW2 s.heap a f c.1).tr z.2⟩) (λ_ p' s' z=>⟨z.1,(aW2 s.heap a f c.1).tr z.2⟩) _ _ (ih () Q E p _ c.2 h.2)⟩
 | alloc o k ih=>
  intro Q E p s c h;rw[wp]at h ⊢;exact Sem.wp_mono M Γ _ (λa p' s' z=>⟨z.1,(bT5 s.heap o).tr z.2⟩) (λe p' s' z=>⟨z.1,(bT5 s.heap o).tr z.2⟩) _ _ (ih _ Q E p _ (c _) h)
 | loadIfAlive a k ih=>intro Q E p s c h;rw[wp]at h ⊢;exact ih _ Q E p s (c _) h
 | point l k ih=>intro Q E p s c h;rw[wp]at h ⊢;exact ih () Q E p s c h
 | register a k ih=>intro Q E p s c h;exact c.elim
 | fresh k ih=>intro Q E p s c h;rw[wp]at h ⊢;exact ih _ Q E p _ (c _) h
 | ask k ih=>intro Q E p s c h;rw[wp]at h ⊢;exact ih _ Q E p s (c _) h
 | choose src n k ih=>intro Q E p s c h;exact c.elim
 | os q l k ih=>intro Q E p s c h;exact c.elim
 | call c' h' g l k ih=>intro Q E p s c h;exact c.elim
 | handled own k ih=>intro Q E p s c h;rw[wp]at h ⊢;exact ih _ Q E p s (c _) h
 | newGen c' k ih=>intro Q E p s c h;exact c.elim
 | genState g k ih=>intro Q E p s c h;rw[wp]at h ⊢;obtain ⟨st,e,h⟩:=h;exact⟨st,e,ih _ Q E p s (c _) h⟩
 | resume g r l k ih=>intro Q E p s c h;exact c.elim
 | yield v g l k ih=>intro Q E p s c h;exact c.elim
 | stack k ih=>intro Q E p s c h;rw[wp]at h ⊢;exact ih _ Q E p s (c _) h
 | fork c' k ih=>intro Q E p s c h;exact c.elim
 | thread k ih=>intro Q E p s c h;rw[wp]at h ⊢;exact ih _ Q E p s (c _) h
 | await a tk ti l k ih=>intro Q E p s c h;exact c.elim
theorem aH5 {A:Around}{t:Sem α}{Q:α->Shared->Prop}{E:Value->Shared->Prop}{s:Shared}(c:Tame t)(h:wpAny M A t Q E s):wpAny M A t (λa s'=>Q a s'/\Kd s.heap s'.heap) (λe s'=>E e s'/\Kd s.heap s'.heap) s:=λ Γ p hΓ=>cL3 t _ _ p s c (h Γ p hΓ)
theorem Tame.bind {t:Sem α}{f:α->Sem β}(h:Tame t)(hf:∀a,Tame (f a)):Tame (t >>= f):=by
 show Tame (t.bind f)
 induction t with
 | pure a=>exact hf a
 | raise e=>trivial
 | unsupported w=>trivial
 | finish e=>trivial
 | rule tag k ih=>exact ih () h
 | «at» pos k ih=>exact ih () h
 | load a part k ih=>exact λo=>ih o (h o)
 | update a part g k ih=>exact⟨h.1,ih () h.2⟩
 | alloc o k ih=>exact λa=>ih a (h a)
 | loadIfAlive a k ih=>exact λo=>ih o (h o)
 | point l k ih=>exact ih () h
 | fresh k ih=>exact λa=>ih a (h a)
 | ask k ih=>exact λa=>ih a (h a)
 | handled own k ih=>exact λa=>ih a (h a)
 | stack k ih=>exact λa=>ih a (h a)
 | thread k ih=>exact λa=>ih a (h a)
 | genState g k ih=>exact λa=>ih a (h a)
 | register a k ih=>exact h.elim
 | choose src n k ih=>exact h.elim
 | os q l k ih=>exact h.elim
 | call c' h' g l k ih=>exact h.elim
 | newGen c' k ih=>exact h.elim
 | resume g r l k ih=>exact h.elim
 | yield v g l k ih=>exact h.elim
 | fork c' k ih=>exact h.elim
 | await a tk ti l k ih=>exact h.elim
end
end L2
namespace L2
open PySem PySem.Spec PyProof.Rows
theorem aT2 (v:Value):Tame (fieldsOf v):=by
 unfold fieldsOf;split
 ·refine Tame.bind (λo=>trivial) λo=>?_
  split <;> trivial
 ·trivial
theorem v6 (v:Value)(i:Nat):Tame (field v i):=by
 unfold field;refine Tame.bind (aT2 v) λvs=>?_
 split <;> trivial
theorem o9 (v:Value)(i:Nat)(x:Value):Tame (setField v i x):=by
 unfold setField;split
 ·unfold updateField;refine Tame.bind (λo=>trivial) λo=>?_
  split
  ·split
   ·exact⟨λo=>by unfold Obj.mapFields;split <;> rfl,trivial⟩
   ·trivial
  ·trivial
 ·trivial
theorem d9 (e:Value)(f:Option Addr):Tame (setFlight e f):=by
 unfold setFlight;refine Tame.bind (v6 e 1) λtb=>?_
 split
 ·exact o9 _ _ _
 ·trivial
theorem aP6 (ty:String)(vs:List Value):Tame (newFields ty vs):=by
 have h:Tame (newObjAsIs (.type ty) (.fields vs.toArray)):=by
  unfold newObjAsIs;exact Tame.bind (λa=>trivial) λa=>trivial
 unfold newFields newObj;dsimp only;split
 ·exact Tame.bind trivial λ_=>h
 ·exact h
theorem aT7 (a b c d e:Value)(p:List Value):Tame (EntryCells.newEntry a b c d e p):=aP6 _ _
theorem aE8:Tame stack:=λ_=>trivial
theorem bL9 (f:Addr)(b:Bool):Tame (entryPlaceOf f b):=by
 unfold entryPlaceOf;refine Tame.bind aE8 λacts=>?_
 split <;> trivial
theorem aQ9:Tame frameEnvs:=by
 unfold frameEnvs;exact Tame.bind aE8 λ_=>trivial
theorem aT8 (env:Env)(b:Bool)(l:List Env):Tame (keptBack env b l):=by
 unfold keptBack;split
 ·split
  ·trivial
  ·unfold underTheClaimsCaller;exact Tame.bind (Tame.bind aE8 λ_=>trivial) λ_=>trivial
 ·trivial
theorem bG7 (env:Env)(l:List Env):Tame (behindIsImport env l):=by
 unfold behindIsImport;split
 ·trivial
 ·split
  ·trivial
  ·exact Tame.bind (v6 _ _) λ_=>trivial
theorem aS1:∀l:List Env,Tame (readyFrames l)
 | []=>trivial
 | env::outer=>by
  unfold readyFrames;split
  ·refine Tame.bind (λo=>trivial) λo=>?_
   split
   ·trivial
   ·exact Tame.bind (bG7 env outer) λi=>Tame.bind (aT8 env i outer) λb=>Tame.bind ⟨λo=>rfl,trivial⟩ λ_=>aS1 outer
  ·trivial
theorem aJ6 (l:List Env):Tame (frameObject l):=by
 unfold frameObject;split
 ·trivial
 ·exact Tame.bind (aS1 _) λ_=>trivial
theorem bD0 (env:Env):Tame (PySem.frameOf env):=by
 unfold PySem.frameOf;refine Tame.bind aQ9 λl=>Tame.bind (aJ6 _) λo=>?_
 split <;> trivial
theorem aU5 (env:Env)(e:Value):Tame (noteFrame e env):=by
 unfold noteFrame;split
 ·refine Tame.bind (v6 e 1) λhead=>?_
  have last:∀f:Addr,Tame (do setField e 1 (<- EntryCells.newEntry head (<- PySem.frameOf env) .none (rawInt f) .none (<- entryPlaceOf f (head != .none)))):=λf=>Tame.bind (bD0 env) λa=>Tame.bind (bL9 f _) λp=>Tame.bind (aT7 _ _ _ _ _ _) λb=>o9 _ _ _
  dsimp only
  split
  ·refine Tame.bind (v6 head 3) λz=>?_
   split
   ·trivial
   ·exact Tame.bind (o9 _ _ _) λ_=>last _
  ·exact last _
 ·trivial
theorem bC4 (env:Env)(e:Value):Tame (leaving env e):=Tame.bind (aU5 env e) λ_=>d9 e none
structure Mv (fs B:List Addr)(h h':Heap):Prop where
 k:∀b o,h.get? b=some o->b∉fs->b∉B->h'.get? b=some o
 s:∀b o,h.get? b=some o->b∈fs->∃sl,h'.get? b=some {o with slots:=sl}
section
variable {P:Program}{w:World}{H:Hp}{h h0 h2 base:Heap}{l:List Env}{x T:Addr}{cls a0:Value}
theorem bD5 (hl:h.FunFrames base l)(hth:∀b o,h0.get? b=some o->∃o',h.get? b=some o')(hok:HOk P w H h)(n1:h0.get? x=none)(n2:h0.get? T=none)(n3:H x=none)(n4:H T=none)
  (k1:(PySem.W.hideAll h (x::T::frs l)).StaysIn h2) (tr:h2.TracedW (PySem.W.hideAll h (x::T::frs l)) x cls a0) (hup:h.UpToSlots h2):Mv (frs l) [x,T] h h2/\Fly h0 H x cls h2:=by
 obtain ⟨oe',vs',T',oT',ts',e1,e2,e3,e4,e5,e6,e7,e8,e9⟩:=tr;have hfields:∀b∈frs l,∃o,h.get? b=some o/\∀vs,o.data≠.fields vs:=λb hb=>(hl.mem hb).2
 have ks:∀b o,h.get? b=some o->b∈frs l->∃sl,h2.get? b=some {o with slots:=sl}:=λb o e hb=>by
  obtain ⟨o',e',hnf⟩:=hfields b hb;rw[e]at e';cases e';exact hup b o e hnf
 refine⟨⟨λb o e hb hB=>k1 b o (PySem.W.hideAll_get _ e ?_),ks⟩,a0,oe',vs',T',oT',ts',n1,?_,n3,?_,e1,e2,e3,e4,e6,e7,e8,e9⟩
 ·intro z;rcases Aa1.mp z with z | z
  ·exact hB (z▸List.mem_cons_self ..)
  ·rcases Aa1.mp z with z | z
   ·exact hB (z▸Ad3 _ (List.mem_cons_self ..))
   ·exact hb z
 all_goals
  by_cases hb:T'∈x::T::frs l
  ·rcases Aa1.mp hb with z | z
   ·exact absurd z e6
   ·rcases Aa1.mp z with z | z
    ·first | exact z▸n2 | exact z▸n4
    ·exfalso
     obtain ⟨o',e',hnf⟩:=hfields T' z;obtain ⟨sl,q⟩:=ks T' o' e' z;rw[e7]at q;have q:=Ab4 q;subst q;exact hnf ts' e8
  ·first
    | (cases q:h0.get? T' with
     | none=>rfl
     | some o=>
      obtain ⟨o',q'⟩:=hth T' o q;rw[PySem.W.hideAll_get _ q' hb]at e5;cases e5)
    | (cases q:H T' with
     | none=>rfl
     | some u=>
      obtain ⟨o',q'⟩:=j4 (hok T' u q);rw[PySem.W.hideAll_get _ q' hb]at e5;cases e5)
end
section
variable {P:Program}{w:World}{M:Model}{A A':Around}{E E':Value->Shared->Prop}{s:Shared}{H:Hp}{h0 base:Heap}{env:Env}{outer:List Env}{L x:Addr}{cls:Value}{Q:Unit->Shared->Prop}
theorem bW5 (hfr:A.frames=some (env::outer))(hf:env.frame=some L)(hl:s.heap.FunFrames base (env::outer))(F:Fly h0 H x cls s.heap)(hth:∀b o,h0.get? b=some o->∃o',s.heap.get? b=some o')(hok:HOk P w H s.heap)
  (hQ:∀(h2:Heap) (B:List Addr),(∀b∈B,h0.get? b=none/\H b=none)->Mv (frs (env::outer)) B s.heap h2->Fly h0 H x cls h2->Q () {s with heap:=h2}) :
  wpAny M A (noteFrame (.ref x) env) (λ_ s2=>wpAny M A (setFlight (.ref x) none) Q E s2) E s:=by
 obtain ⟨a0,oe,vs,T,oT,ts,n1,n2,n3,n4,hx,hc,hd,h1,hTx,hT,hdT,h3⟩:=F;refine wpAny_looks_onW (base:=PySem.W.hideAll s.heap (x::T::frs (env::outer))) (cls:=cls) (a0:=a0) hfr hf ⟨λb o e=>PySem.W.of_hideAll _ e,PySem.W.hideAll_none _ (List.mem_cons_self ..),s9 hl λb hb=>Ad3 _ (Ad3 _ hb),oe,vs,T,oT,ts,hx,hc,hd,h1,PySem.W.hideAll_none _ (Ad3 _ (List.mem_cons_self ..)),hTx,hT,hdT,h3⟩ λh4 hh hup4=>?_
 refine wpAny_landsW hh λh5 hfl hup5=>?_
 obtain ⟨mv,F2⟩:=bD5 (P:=P) (w:=w) hl hth hok n1 n2 n3 n4 hfl.1 hfl.2.2.2 (hup4.trans hup5);refine hQ h5 [x,T] (λb hb=>?_) mv F2
 rcases Aa1.mp hb with rfl | hb
 ·exact⟨n1,n3⟩
 ·rw[Ad6.mp hb];exact⟨n2,n4⟩
theorem bU1 (hl:s.heap.FunFrames base (env::outer))(F:Fly h0 H x cls s.heap)(hth:∀b o,h0.get? b=some o->∃o',s.heap.get? b=some o')(hok:HOk P w H s.heap)
  (hQ:∀(h2:Heap) (B:List Addr),(∀b∈B,h0.get? b=none/\H b=none)->Mv (frs (env::outer)) B s.heap h2->Fly h0 H x cls h2->Q () {s with heap:=h2}) :
  wpAny M A (setFlight (.ref x) none) Q E s:=by
 obtain ⟨a0,oe,vs,T,oT,ts,n1,n2,n3,n4,hx,hc,hd,h1,hTx,hT,hdT,h3⟩:=F;refine lands_againW (base:=PySem.W.hideAll s.heap (x::T::frs (env::outer))) (l:=env::outer) (cls:=cls) (a0:=a0) ⟨λb o e=>PySem.W.of_hideAll _ e,PySem.W.hideAll_none _ (List.mem_cons_self ..),s9 hl λb hb=>Ad3 _ (Ad3 _ hb),oe,vs,T,oT,ts,hx,hc,hd,h1,PySem.W.hideAll_none _ (Ad3 _ (List.mem_cons_self ..)),hTx,hT,hdT,h3⟩ λh5 hfl hup=>?_
 obtain ⟨mv,F2⟩:=bD5 (P:=P) (w:=w) hl hth hok n1 n2 n3 n4 hfl.1 hfl.2.2.2 hup;refine hQ h5 [x,T] (λb hb=>?_) mv F2
 rcases Aa1.mp hb with rfl | hb
 ·exact⟨n1,n3⟩
 ·rw[Ad6.mp hb];exact⟨n2,n4⟩
end
def Dx (h:Heap)(x:Addr)(d:Option Addr):Prop:=∃o,h.get? x=some o/\o.dict=d
theorem bP3 {h:Heap}{x:Addr}{o:Obj}(e:h.get? x=some o):h.objs[x]? = some o:=by
 unfold Heap.get? at e;split at e
 ·cases e
 ·exact e
theorem Dx.keep {h h':Heap}{x:Addr}{d:Option Addr}(D:Dx h x d)(k:Kd h h')(t:∃o,h'.get? x=some o):Dx h' x d:=by
 obtain ⟨o,e,rfl⟩:=D;obtain ⟨o',e'⟩:=t;obtain ⟨o2,e2,d2⟩:=k x o (bP3 e);rw[bP3 e']at e2;cases e2;exact⟨o',e',d2⟩
theorem Fly.there {h0 h:Heap}{H:Hp}{x:Addr}{cls:Value}(F:Fly h0 H x cls h):∃o,h.get? x=some o:=by
 obtain ⟨a0,oe,vs,T,oT,ts,n1,n2,n3,n4,hx,_⟩:=F;exact⟨oe,hx⟩
section
variable {P:Program}{w:World}{M:Model}{A:Around}{E:Value->Shared->Prop}{s:Shared}{H:Hp}{h0 base:Heap}{env:Env}{outer:List Env}{L x:Addr}{cls:Value}{d:Option Addr}{Q:Unit->Shared->Prop}
theorem bN7 (hl:s.heap.FunFrames base (env::outer))(F:Fly h0 H x cls s.heap)(D:Dx s.heap x d)(hth:∀b o,h0.get? b=some o->∃o',s.heap.get? b=some o')(hok:HOk P w H s.heap)
  (hQ:∀(h2:Heap) (B:List Addr),(∀b∈B,h0.get? b=none/\H b=none)->Mv (frs (env::outer)) B s.heap h2->Fly h0 H x cls h2->Dx h2 x d->Q () {s with heap:=h2}) :
  wpAny M A (setFlight (.ref x) none) Q E s:=by
 have f:=bU1 (M:=M) (E:=E) (A:=A) (P:=P) (w:=w) (Q:=λ_ s'=>∃h2 B,s'={s with heap:=h2}/\(∀b∈B,h0.get? b=none/\H b=none)/\Mv (frs (env::outer)) B s.heap h2/\Fly h0 H x cls h2) hl F hth hok λh2 B a b c=>⟨h2,B,rfl,a,b,c⟩
 refine wpAny_mono (aH5 (d9 (.ref x) none) f) (λ_ s' z=>?_) λ_ _ z=>z.1
 obtain ⟨⟨h2,B,rfl,a,b,c⟩,k⟩:=z;exact hQ h2 B a b c (D.keep k c.there)
theorem bK9 (hfr:A.frames=some (env::outer))(hf:env.frame=some L)(hl:s.heap.FunFrames base (env::outer))(F:Fly h0 H x cls s.heap)(D:Dx s.heap x d)(hth:∀b o,h0.get? b=some o->∃o',s.heap.get? b=some o')(hok:HOk P w H s.heap)
  (hQ:∀(h2:Heap) (B:List Addr),(∀b∈B,h0.get? b=none/\H b=none)->Mv (frs (env::outer)) B s.heap h2->Fly h0 H x cls h2->Dx h2 x d->Q () {s with heap:=h2}) :
  wpAny M A (noteFrame (.ref x) env) (λ_ s2=>wpAny M A (setFlight (.ref x) none) Q E s2) E s:=by
 have f:=bW5 (M:=M) (E:=E) (P:=P) (w:=w) (Q:=λ_ s'=>∃h2 B,s'={s with heap:=h2}/\(∀b∈B,h0.get? b=none/\H b=none)/\Mv (frs (env::outer)) B s.heap h2/\Fly h0 H x cls h2) hfr hf hl F hth hok λh2 B a b c=>⟨h2,B,rfl,a,b,c⟩
 refine wpAny_mono (aH5 (aU5 env (.ref x)) f) (λ_ s2 z=>?_) λ_ _ z=>z.1
 refine wpAny_mono (aH5 (d9 (.ref x) none) z.1) (λ_ s' y=>?_) λ_ _ y=>y.1
 obtain ⟨⟨h2,B,rfl,a,b,c⟩,k⟩:=y;exact hQ h2 B a b c (D.keep (z.2.tr k) c.there)
end
def CXd (P:Program)(w:World):CXT:=λouter H s E e s'=>
 ∃x cls H' d,e=.ref x/\s'.os=s.os/\AllBare s'.gens/\Un (frs outer) [] H H' s.heap s'.heap/\HOk P w H' s'.heap/\Fly s.heap H' x cls s'.heap/\Dx s'.heap x d/\E cls d H'
section
variable {P:Program}{w:World}{K:PySem.W.Frag}{mg:Str->Option Value}{base:Heap}{N:List Str}{qual:Str}{scope:Scope}{f:Addr}{cd:Value}{A:Around}{outer:List Env}{s:Shared}{H:Hp}{E:XK}
theorem dB0 {pins:List (Addr×Obj)}{σ:St}{H1:Hp}{s1:Shared}{h2:Heap}{g:Array GenState}{dr:Drawn}{tk:Nat}{B:List Addr}{x:Addr}{cls:Value}(I:Inv (aP7 (CXd P w) P w K mg base N qual scope f cd A outer s H E) pins σ H1 s1)(hB:∀b∈B,s.heap.get? b=none/\H1 b=none)
  (k:∀b o,s1.heap.get? b=some o->b∉frs (envOfC qual scope s.heap.objs.size f cd::outer)->b∉B->h2.get? b=some o) (ks:∀b o,s1.heap.get? b=some o->b∈frs (envOfC qual scope s.heap.objs.size f cd::outer)->∃sl,h2.get? b=some {o with slots:=sl})
  (F:Fly s.heap H1 x cls h2) {dx:Option Addr} (D:Dx h2 x dx) (q:E cls dx H1) (hg:AllBare g):CXd P w outer H s E (.ref x) {s1 with heap:=h2,gens:=g,drawn:=dr,toks:=tk}:=by
 have ef:frs (envOfC qual scope s.heap.objs.size f cd::outer)=s.heap.objs.size::frs outer:=cA6 rfl
 have hL:s.heap.get? s.heap.objs.size=none:=Heap.get?_none_of_le (Aa7 _)
 have hb:Un (frs outer) [] H H1 s.heap s1.heap:=I.base
 rw[ef]at k ks;refine⟨x,cls,H1,dx,rfl,I.os,hg,cH7 (B:=s.heap.objs.size::B) hb (λb hm=>?_) (λb o e h1 h2=>?_) (λb o e h1=>ks b o e (Ad3 _ h1)),bJ7 (fs:=s.heap.objs.size::frs outer) (B:=B) I.hok (λb hm=>?_) (λb hm=>(hB b hm).2) k,F,D,q⟩
 ·rcases Aa1.mp hm with rfl | hm
  ·exact hL
  ·exact(hB b hm).1
 ·refine k b o e (λz=>?_) λz=>h2 (Ad3 _ z)
  rcases Aa1.mp z with rfl | z
  ·exact h2 (List.mem_cons_self ..)
  ·exact h1 z
 ·exact I.stkFree b (by show b∈frs (envOfC qual scope s.heap.objs.size f cd::outer);rw[ef];exact hm)
theorem Fun.okD {x qual:Str}{st:Stmt}{f:Addr}{fd:FuncData}{N ps:List Str}{k:Nat}{sp:Sp}(F:Fun K x qual st f fd)(S:D5 N ps (A8 st))(len:∀vs H Q E,sp vs H Q E->vs.length=ps.length)
  (hbody:∀(cdv:Value) (A:Around) (outer:List Env) (s:Shared) (H:Hp) (vs:List V) (Q:VK) (E:XK),Room k (A.deeper (envOfC qual (A8 st) s.heap.objs.size f cdv))->sp vs H Q E ->
   ∃t,PSs (aP7 (CXd P w) P w K mg base N qual (A8 st) f cdv A outer s H E) (D1 st) t/\t {nx:=λ_ H'=>Q .non H',rt:=Q} (U9 N vs) H):E4 P w K mg base (CXd P w) (k+1) f fd ps sp:=by
 obtain ⟨oc,od,kV,doc,pm,an,cdv,ct,osl,rfl,lk,hcd⟩:=F.ex;exact cS2 lk hcd S len λA outer s H vs Q E hr hsp=>hbody cdv A outer s H vs Q E hr hsp
end
abbrev Cx.markd (X:Cx)(e:Value):Cx:={X with A:=X.A.mark (some e),calm:=false,xe:=λ_ _=>False}
theorem Inv.markd {X:Cx}{pins:List (Addr×Obj)}{σ:St}{H:Hp}{s:Shared}(I:Inv X pins σ H s)(e:Value):Inv (X.markd e) pins σ H s:=
 ⟨⟨I.ok.mod,I.ok.kind,I.ok.glob,I.ok.blt,I.ok.above,I.ok.inj,I.ok.has,I.ok.cab,(λz=>nomatch z),I.ok.frames,I.ok.stk,I.ok.exf,I.ok.bs,I.ok.bsz,I.ok.noex,I.ok.exfs,I.ok.funs,I.ok.frf⟩,I.os,I.bare,I.base,I.loc,I.cell,I.free,I.freeC,I.pin,I.hok,I.len⟩
theorem Inv.unmark {X:Cx}{pins:List (Addr×Obj)}{σ:St}{H:Hp}{s:Shared}{e:Value}(ok:X.Ok)(I:Inv (X.markd e) pins σ H s):Inv X pins σ H s:=
 ⟨ok,I.os,I.bare,I.base,I.loc,I.cell,I.free,I.freeC,I.pin,I.hok,I.len⟩
def aR7 (sp:Sp)(dvs:List V)(t:TA)(EX:XK):TE:=λσ H Q=>t σ H λvs H1=>sp (vs++dvs) H1 Q EX
section
variable {X:Cx}{pins:List (Addr×Obj)}{σ:St}{H:Hp}{s:Shared}{h':Heap}
theorem Inv.unbind {j:Nat}{y:Str}{m:Str->Option Value}{v:Option Value}(I:Inv X pins σ H s)(hN:X.N.Nodup)(hj:X.N[j]? = some y)(hn:s.heap.Ns X.env.locals m)(hl:∀(i:Nat) (x:Str) (v:V),X.N[i]? = some x->σ[i]? = some (some v)->Vis X.env.scope x->∃u,RelV v u/\dE8 X.env s.heap m x u)
  (hn':h'.Ns X.env.locals λx=>if x=y then v else m x) (hs:Heap.SameBut X.env.locals s.heap h') {t':Nat}:Inv X pins (σ.set j none) H {s with heap:=h',toks:=t'}:=by
 have cne:=I.cne
 obtain ⟨oL,_,_,hoL,_⟩:=id hn;have tracked:HOk X.prog X.w H h':=λb ob e=>by
  refine(I.hok b ob e).stay (λc w' hc q=>(hs.2 c ?_).trans q) (λ_ q=>q) λ_ _ q=>q
  rintro rfl;rcases hc with rfl | hc
  ·rw[I.free]at e;cases e
  ·rw[I.free]at hc;cases hc
 refine⟨I.ok,I.os,I.bare,⟨λb o e n hb hx=>?_,λb o e n hb hx=>?_,I.base.free,λb o e hx=>?_,I.base.tups,I.base.frzs,I.base.tbls⟩,⟨_,hn',λi x v' e1 e2 e3=>?_⟩,λy c e=>?_,I.free,I.freeC,λp hp=>?_,tracked,by simpa using I.len⟩
 ·exact(hs.2 b (Ab9 (Ab8 (Ab3 e) I.ok.above))).trans (I.base.keep b o e n hb hx)
 ·obtain ⟨sl,e1⟩:=I.base.slot b o e n hb hx;exact⟨sl,(hs.2 b (Ab9 (Ab8 (Ab3 e) I.ok.above))).trans e1⟩
 ·obtain ⟨o',e1⟩:=I.base.there b o e hx;exact⟨o',(hs.2 b (Ab9 (Ab8 (Ab3 e) I.ok.above))).trans e1⟩
 ·have hij:i≠j:=λz=>by
   subst z;by_cases hi:i<σ.length
   ·rw[List.getElem?_set_self hi]at e2;cases e2
   ·rw[Ad4 (by simpa using hi)]at e2;cases e2
  rw[Ac9 (Ne.symm hij)]at e2;obtain ⟨u',r',q⟩:=hl i x v' e1 e2 e3;refine⟨u',r',?_⟩;rcases q with ⟨k,e⟩ | ⟨k,c,e,z⟩
  ·refine .inl ⟨k,?_⟩
   have:x≠y:=λz=>hij (by
    subst z;exact(List.getElem?_inj (Ab0.mp e1).1 hN).mp (e1.trans hj.symm))
   show(if x=y then v else m x)=some u'
   rw[if_neg this];exact e
  ·refine .inr ⟨k,c,e,?_⟩;obtain ⟨o,ho,hd⟩:=z;exact⟨o,(hs.2 c (cne x c e)).trans ho,hd⟩
 ·obtain ⟨v,o,ho,hd⟩:=I.cell y c e;exact⟨v,o,(hs.2 c (cne y c e)).trans ho,hd⟩
 ·obtain ⟨q1,q2,q3,q4⟩:=I.pin p hp;exact⟨(hs.2 p.1 q3).trans q1,q2,q3,q4⟩
end
def subIn (K:PySem.W.Frag)(C:Addr)(v:Value):Bool:=match K.lookup C with
 | some ⟨_,_,.cls cd,_⟩=>cd.mro.contains v
 | _=>false
section
variable {M:Model}{A:Around}{E:Value->Shared->Prop}
variable {nm q nm' q':Str}{C N T N':Addr}{bs bm bs' bm':List Value}{hdct hdct':Bool}{sn sn':List Str}{sub sub':List Value}{ab ab':Bool}{col col':Option Bool}{dd dd':Option Addr}{k0 k1 k2 k3 k5 j0 j1 j2 j3 j5:Option Value}{newId newId':String}
theorem aM7 {h:Heap}{g:Array GenState}{d:Drawn}{t:Nat}{os:OsState}{e:Addr}{oe:Obj}{Q:Bool->Shared->Prop}
  (hC:h.get? C=some (excClassObj nm q C N bs bm hdct sn sub ab col dd k0 k1 k2 k3 k5 newId)) (hT:h.get? T=some (excClassObj nm' q' T N' bs' bm' hdct' sn' sub' ab' col' dd' j0 j1 j2 j3 j5 newId')) (he:h.get? e=some oe) (hcls:oe.cls=.ref C) (hbase:bm'.contains (.type "BaseException")=true)
  (hin:(Value.ref C::bm).contains (.ref T)=true) (hq:Q true ⟨h,g,d,t,os⟩):wpAny M A (excMatches (.ref e) (.ref T)) Q E ⟨h,g,d,t,os⟩:=by
 have hcB:(Value.ref T::bm').contains (.type "BaseException")=true:=by rw[List.contains_cons,hbase,Bool.or_true]
 have f:=tc_notTuple
 unfold excMatches
 repeat (first | (with_reducible refine wpAny_loadPart_at he ?_;rw[hcls]) | with_reducible refine wpAny_loadPart_at hT ?_ | (with_reducible refine wpAny_isSubtype_exc hT ?_;rw[hcB]) | (with_reducible refine wpAny_isSubtype_exc hC ?_;rw[hin]) | wp_step)
 exact hq
end
theorem bW2 {K:PySem.W.Frag}{h:Heap}{C:Addr}{v:Value}{bm:List Value}{nm qn:Str}{N:Addr}{bs:List Value}{hdct:Bool}{sn:List Str}{sub:List Value}{ab:Bool}{col:Option Bool}{dd:Option Addr}{k0 k1 k2 k3 k5:Option Value}{newId:String}(X:K.In h)(e:h.get? C=some (excClassObj nm qn C N bs bm hdct sn sub ab col dd k0 k1 k2 k3 k5 newId))(q:subIn K C v=true):(Value.ref C::bm).contains v=true:=by
 unfold subIn at q;split at q
 ·rename_i ho
  have:=X _ _ ho
  rw[e]at this;cases this;exact q
 ·cases q
theorem cL4 {P:Program}{w:World}{H:Hp}{h:Heap}{x C:Addr}{d:Option Addr}{o:Obj}{vs:Array Value}(e:h.get? x=some o)(hc:o.cls=.ref C)(hd:o.data=.fields vs)(hx:o.dict=d):ObjOk P w H h x (excD x C d):=
 ⟨⟨o,vs,e,hc,hd,hx⟩,⟨o,e⟩,λh1 h2 ⟨o',vs',e1,e2,e3,e4⟩ k=>⟨o',vs',k _ e1,e2,e3,e4⟩⟩
def aY8 (K:PySem.W.Frag)(C:Addr):Prop:=∀h:Heap,K.In h->∃bm N nm qn bs hdct sn sub ab col dd k0 k1 k2 k3 k5,h.get? C=some (excClassObj nm qn C N bs bm hdct sn sub ab col dd k0 k1 k2 k3 k5 "ValueError.__new__")/\OwnTail h bmV bm
def cJ5 (X:Cx)(pins:List (Addr×Obj))(σ:St)(EX:XK)(e:Value)(s':Shared):Prop:=∃s0 H0,Inv X pins σ H0 s0/\CXd X.prog X.w X.stack H0 s0 EX e s'
structure PBd (X:Cx)(body:List Stmt)(t:XK->TS):Prop where
 run:∀(pins:List (Addr×Obj)) (s:Shared) (σ:St) (H:Hp) (D:aM0) (EX:XK),Inv X pins σ H s->t EX D σ H->wpAny (model X.prog X.w) X.A (execs body X.env) (SP X pins D) (cJ5 X pins σ EX) s
section
variable {X:Cx}{k:Nat}{f:Addr}{fd:FuncData}{ps:List Str}{sp:Sp}{dvs:List V}{ds:List Value}{x:Str}{p pos:Pos}{e:Expr}{es:List Expr}{t:TA}
theorem bX1 (F:E4 X.prog X.w X.K X.mg X.base (CXd X.prog X.w) k f fd ps sp)(hr:Room k X.A)(hg:Gl X x)(hm:X.mg x=some (.ref f))(hk:PySem.W.keepIn X.K (.ref f)=true)(hb:Binds X.K fd ps ds)(hd:Vals dvs ds)
  (ha:PA X.nox (e::es) t) (hdb:(x==("__debug__" : Str))=false:=by decide) (he:starEach (e::es) X.env=(false,eval e X.env)::starEach es X.env:=by rfl) (hpl:(backTo pos (starEach es X.env)).any (·.1)=false:=by rfl)
  {pins:List (Addr×Obj)} {s:Shared} {σ:St} {H:Hp} {Q:VK} {EX:XK} (I:Inv X pins σ H s) (h:aR7 sp dvs t EX σ H Q):wpAny (model X.prog X.w) X.A (eval (.Call (.Name x p) (e::es) [] pos) X.env) (EP X pins σ Q) (cJ5 X pins σ EX) s:=by
 refine wpAny_Call_Name_kw (i9 I hg hm ?_ hdb);refine PySem.W.callWith_K (h₀:=X.base) I.ok.mod.kin hk (wpAny_mono (ha pos pins s σ H _ (I.wish _) h) (λus s1 ⟨vs,H1,I1,r,q⟩=>⟨I1.kIn,?_⟩) λ_ _ z=>False.elim z) he hpl
 have I1:=I1.unwish
 have r2:Vals (vs++dvs) (us++ds):=r.append hd
 have hl:(us++ds).length=ps.length:=by rw[<- r2.length];exact F.len _ _ _ _ q
 refine wpAny_call (codeAny_mono (F.run X.A X.stack s1 H1 ⟨us,[]⟩ (us++ds) (vs++dvs) Q EX hr I1.env0 (hb s1 us I1.kIn hl) r2 q) λr s' hq=>?_)
 cases r with
 | error e=>exact⟨s1,H1,I1,hq⟩
 | ok fl=>
  cases fl with
  | ret u=>exact I1.after hq
  | next=>exact False.elim hq
  | brk=>exact False.elim hq
  | cont=>exact False.elim hq
theorem cN0 {i:Nat}{y:Str}{pos' apos:Pos}(hN:X.N.Nodup)(hi:X.N[i]? = some y)(hy:Loc X.env.scope y)(F:E4 X.prog X.w X.K X.mg X.base (CXd X.prog X.w) k f fd ps sp)(hr:Room k X.A)(hg:Gl X x)(hm:X.mg x=some (.ref f))(hk:PySem.W.keepIn X.K (.ref f)=true)(hb:Binds X.K fd ps ds)(hd:Vals dvs ds)
  (ha:PA X.nox (e::es) t) (hdb:(x==("__debug__" : Str))=false:=by decide) (he:starEach (e::es) X.env=(false,eval e X.env)::starEach es X.env:=by rfl) (hpl:(backTo pos (starEach es X.env)).any (·.1)=false:=by rfl)
  (hs:swapsWith (.Call (.Name x p) (e::es) [] pos) (some (.Name y pos')) apos.line X.env=pure false:=by rfl) (hf:X.fn y=true\/X.env.scope.names.lookup y=some .local:=by first | exact .inl rfl | exact .inr rfl | assumption) :
  PBd X [.Assign [.Name y pos'] (.Call (.Name x p) (e::es) [] pos) apos] λEX=>aM8 (aR7 sp dvs t EX) (U1 i):=by
 refine⟨λpins s σ H D EX I h=>?_⟩
 refine wpAny_execs_cons (wpAny_mono (wpAny_Assign_Name (Q:=λfl s'=>fl=.next/\SP X pins D .next s') (wpAny_mono (bX1 F hr hg hm hk hb hd ha hdb he hpl I h) (λv s1 ⟨z,H1,I1,r1,q1⟩=>?_) λ_ _ z=>z) hs) (λfl s1 q=>?_) λ_ _ z=>z)
 ·exact aI5 I1 hN hi hy r1 (λs2 I2=>⟨rfl,_,H1,I2,q1⟩) hf
 ·obtain ⟨rfl,q⟩:=q;exact wpAny_execs_nil q
end
def cU3 (K:PySem.W.Frag)(TE:Addr)(tb:XK->TS)(j:Nat)(th:TS):TS:=λD σ H=>
 tb (λcls d H1=>∃C,cls=.ref C/\aY8 K C/\subIn K C (.ref TE)=true/\∀x,H1 x=none->th {nx:=λσ' H'=>D.nx (σ'.set j none) H',rt:=λ_ _=>False} (σ.set j (some (.ref x))) (upd H1 x (excD x C d))) D σ H
section
variable {X:Cx}
theorem cQ7 {body:List Stmt}{tb:XK->TS}{cn en:Str}{TE:Addr}{b0:Stmt}{suite:List Stmt}{j:Nat}{th:TS}{np hpos pos:Pos}(hb:PBd X body tb)(hg:Gl X cn)(hm:X.mg cn=some (.ref TE))(hTE:aY8 X.K TE)
  (hN:X.N.Nodup) (hj:X.N[j]? = some en) (hen:X.env.scope.names.lookup en=some .local) (hst:X.stack=X.env::X.outer) (hfr:X.env.frame=some X.env.locals) (hh:∀e,PSs (X.markd e) (b0::suite) th) (hdb:(cn==("__debug__" : Str))=false:=by decide) :
  PS X (.Try body [.ExceptHandler (some (.Name cn np)) (some en) (b0::suite) hpos] [] [] pos) (cU3 X.K TE tb j th):=by
 refine⟨?_⟩;intro pins s σ H D I h;refine wpAny_Try_except (wpAny_mono (hb.run pins s σ H D _ I h) (λf s1 q=>?_) (λe s1 hx=>?_))
 ·cases f with
  | next=>exact wpAny_execs_nil q
  | ret v=>exact q
  | brk=>exact q
  | cont=>exact q
 obtain ⟨s0,H0,I0,x,cls,H1,dd0,rfl,os,bare,un,hok,F,D0,C,rfl,hC,hsub,hth⟩:=hx;have ex:H1 x=none:=by obtain ⟨_,_,_,_,_,_,_,_,n3,_⟩:=F;exact n3
 have n0:s0.heap.get? x=none:=by obtain ⟨_,_,_,_,_,_,n1,_⟩:=F;exact n1
 have J1:Inv X pins σ H1 s1:=I0.call' os un hok bare (λb z=>absurd z (by simp))
 have fr:X.A.frames=some (X.env::X.outer):=by rw[<- hst];exact I0.ok.frames
 have stk:∀{s':Shared} {σ':St} {H':Hp},Inv X pins σ' H' s'->s'.heap.FunFrames X.base (X.env::X.outer):=λJ=>by rw[<- hst];exact J.stack
 rw[hst]at un;have fsn:∀b∈frs (X.env::X.outer),H1 b=none:=λb hb=>J1.stkFree b (by rw[hst];exact hb)
 refine bK9 (P:=X.prog) (w:=X.w) fr hfr (stk J1) F D0 (λb o e=>un.there b o e (by simp)) hok λh2 B hB mv F2 D2=>?_
 have un2:=cH7 un (λb hb=>(hB b hb).1) mv.k mv.s
 have hok2:=bJ7 hok fsn (λb hb=>(hB b hb).2) mv.k
 have J2:Inv X pins σ H1 {s1 with heap:=h2}:=I0.call' (s':={s1 with heap:=h2}) os (by rw[hst];exact un2) hok2 bare (λb z=>absurd z (by simp))
 refine wpAny_handleBy_cons (codeAny_handlers_test (i9 (X:=X.markd (.ref x)) (J2.markd (.ref x)) hg hm ?_ hdb)) (by intro q;cases q)
 obtain ⟨bm,N,nm,qn,bs,hdct,sn,sub,ab,col,dd,k0,k1,k2,k3,k5,o1,o4⟩:=hC _ J2.kIn;obtain ⟨bm',N',nm',qn',bs',hdct',sn',sub',ab',col',dd',j0,j1,j2,j3,j5,o1',o4'⟩:=hTE _ J2.kIn;have hox:∃oe vs,h2.get? x=some oe/\oe.cls=.ref C/\oe.data=.fields vs:=by
  obtain ⟨_,oe,vs,_,_,_,_,_,_,_,e1,e2,e3,_⟩:=F2;exact⟨oe,vs,e1,e2.1,e3⟩
 obtain ⟨oe,vse,eo,eoc,eod⟩:=hox;refine aM7 o1 o1' eo eoc (o4'.hasType PySem.F.excBase_ValueError.hasBase) (bW2 J2.kIn o1 hsub) ?_;refine codeAny_handlers_suite_as ?_;refine bN7 (P:=X.prog) (w:=X.w) (stk J2) F2 D2 (λb o e=>un2.there b o e (by simp)) hok2 λh3 B3 hB3 mv3 F3 D3=>?_
 have un3:=cH7 un2 (λb hb=>(hB3 b hb).1) mv3.k mv3.s
 have hok3:=bJ7 hok2 fsn (λb hb=>(hB3 b hb).2) mv3.k
 obtain ⟨oe',vse',eo',eoc',eod',edd'⟩:∃oe vs,h3.get? x=some oe/\oe.cls=.ref C/\oe.data=.fields vs/\oe.dict=dd0:=by
  obtain ⟨_,oe,vs,_,_,_,_,_,_,_,e1,e2,e3,_⟩:=F3;obtain ⟨o',q1,q2⟩:=D3;rw[e1]at q1;cases q1;exact⟨oe,vs,e1,e2.1,e3,q2⟩
 have un4:Un (frs (X.env::X.outer)) [] H0 (upd H1 x (excD x C dd0)) s0.heap h3:=⟨un3.keep,un3.slot,λb o e n hx=>by
  rw[B1 (λz=>by rw[z,n0]at e;cases e)];exact un3.free b o e n hx,un3.there,λb xs e=>by
  rw[B1 (λz=>by have:=un3.tups b xs e;rw[z,ex]at this;cases this)];exact un3.tups b xs e,λb o u e=>by
  rw[B1 (λz=>by have:=un3.frzs b o u e;rw[z,ex]at this;cases this)];exact un3.frzs b o u e,λb ps e=>by
  obtain ⟨more,q⟩:=un3.tbls b ps e;exact⟨more,by rw[B1 (λz=>by rw[z,ex]at q;cases q)];exact q⟩⟩
 have hok4:HOk X.prog X.w (upd H1 x (excD x C dd0)) h3:=λb u e=>by
  by_cases hb:b=x
  ·subst hb;rw[B7]at e;cases e;exact cL4 eo' eoc' eod' edd'
  ·rw[B1 hb]at e;exact(hok3 b u e).stay (λ_ _ _ q=>q) (λc q=>by rw[B1 (C9 q ex)];exact q) λc xs q=>by rw[B1 (C9 q ex)];exact q
 have J4:Inv X pins σ (upd H1 x (excD x C dd0)) {s1 with heap:=h3}:=I0.call' (s':={s1 with heap:=h3}) os (by rw[hst];exact un4) hok4 bare (λb z=>absurd z (by simp))
 refine aI5 (X:=X.markd (.ref x)) (v:=.ref x) (J4.markd (.ref x)) hN hj (.inl hen) rfl (λs4 J5=>?_) (.inr hen)
 refine wpAny_mono (hh (.ref x) pins s4 _ _ _ J5 (hth x ex)) (λf s5 q=>?_) λ_ _ z=>False.elim z
 cases f with
 | ret v=>obtain ⟨_,_,_,_,_,z⟩:=q;exact False.elim z
 | brk=>obtain ⟨_,_,_,z⟩:=q;exact False.elim z
 | cont=>obtain ⟨_,_,_,z⟩:=q;exact False.elim z
 | next=>
  obtain ⟨σ',H',J6,q⟩:=q;have J7:Inv X pins σ' H' s5:=J6.unmark I.ok;obtain ⟨m,hn,hl⟩:=id J7.loc;exact wpAny_nameGoes_keeps hen hn (by rw[I.ok.kind];rfl) λh' v hns hsb=>⟨_,H',J7.unbind hN hj hn hl hns hsb,q⟩
end
def p9 (x C:Addr)(d:Option Addr):HO:=.ext λh=>∃t0 sl,h.get? x=some ⟨.ref C,d,.fields #[.ref t0,.none,.none,.none,.bool false,.none],sl⟩
theorem aN3 {P:Program}{w:World}{H:Hp}{h:Heap}{x C t0:Addr}{d:Option Addr}{sl:Array (Option Value)}(e:h.get? x=some ⟨.ref C,d,.fields #[.ref t0,.none,.none,.none,.bool false,.none],sl⟩):ObjOk P w H h x (p9 x C d):=
 ⟨⟨t0,sl,e⟩,⟨_,e⟩,λh1 h2 ⟨a,b,e1⟩ k=>⟨a,b,k _ e1⟩⟩
theorem dB6 {H:Hp}{x:Addr}{o:HO}(e:H x=some o):upd H x o=H:=by
 funext b
 by_cases c:b=x
 ·subst c;rw[B7,e]
 ·rw[B1 c]
section
variable {X:Cx}{initId:String}
def rXb (K:PySem.W.Frag)(xs:List V)(H:Hp)(Q:VK):Prop:=∃x C d vs,xs=.ref x::vs/\H x=some (p9 x C d)/\aY8 K C/\vs.length<=1000/\Q .non H
theorem bK6 (F:ExcBaseFacts "ValueError" "ValueError.__new__" initId bmV)(K:PySem.W.Frag)(hK:X.K=K:=by rfl):W9 X (.builtin initId) (rXb K):=by
 subst hK;intro pins s σ H xs us Q I r h;obtain ⟨x,C,d,vs,rfl,ex,ek,hl,q⟩:=h;cases r with
 | cons r1 r2=>
  cases r1
  obtain ⟨t0,sl,hx⟩:=(I.hok x _ ex).1;obtain ⟨bm,N,nm,qn,bs,hdct,sn,sub,ab,col,dd,k0,k1,k2,k3,k5,o1,o4⟩:=ek _ I.kIn;obtain ⟨hp,g,dr,tk,os⟩:=s;refine cD2 F o4 o1 hx (by have:=r2.length;unfold sizeLine;omega) λh' kp e1 e2 _=>⟨.non,H,?_,rfl,q⟩
  have w:=I.write (x:=x) (e:=x) (o:=p9 x C d) (t':=tk) (h':=h') (by rw[ex];trivial) (.inl rfl) (λb u hb e=>kp b u hb e) ⟨_,e1⟩ (aN3 e1)
  rw[dB6 ex]at w;exact w
end
section
variable {X:Cx}{initId:String}{x:Str}{Tb:Addr}{e:Expr}{es:List Expr}{t:TA}{np apos pos:Pos}{pl:Sem Bool}
theorem bM7 (F:ExcBaseFacts "ValueError" "ValueError.__new__" initId bmV)(K:PySem.W.Frag)(hg:Gl X x)(hm:X.mg x=some (.ref Tb))(c:cG1 X.K Tb initId)(ha:PA X (e::es) t)(hK:X.K=K:=by rfl)(hdb:(x==("__debug__" : Str))=false:=by decide)
  (hst:starEach (e::es) X.env=(false,eval e X.env)::starEach es X.env:=by rfl) (hpl:(backTo pos (starEach es X.env)).any (·.1)=false:=by rfl)
  (ht:eval (.Call (.Attribute (.Name x np) "__init__" apos) (e::es) [] pos) X.env=(do
   let ov <- eval (.Name x np) X.env
   standAt apos.atName
   let (f,first) <- holding [ov] (getMethod ov "__init__" pl)
   callWith pos f first (backTo pos (starEach (e::es) X.env)) (backToKw pos (keywordEach [] X.env))):=by rfl) :
  PE X (.Call (.Attribute (.Name x np) "__init__" apos) (e::es) [] pos) (tCB (rXb K) t):=by
 subst hK;refine⟨?_⟩;intro pins s σ H Q I h;refine PySem.W.methodCall_KW (pl:=pl) (i9 I hg hm ?_ hdb) ht;refine cJ4 I.kIn c ?_;have I1:Inv X pins σ H {s with toks:=s.toks+1}:=I.tok _
 exact PyProof.Rows.callWith_builtin1 (thn (ha pos pins _ σ H _ I1 h) λus s1 ⟨vs,H1,I2,r1,q1⟩=>bK6 F X.K rfl pins s1 σ H1 vs us Q I2 r1 q1) hst hpl
def sXf (K:PySem.W.Frag)(ta tv:TE)(f:Str):TS:=λD σ H=>tv σ H λy H1=>ta σ H1 λx H2=>∃a C cd,x=.ref a/\H2 a=some (p9 a C none)/\cV0 K C cd/\PySem.W.findIn K (.ref C) f=some none /\
 ∀dx,H2 dx=none->dx≠a->D.nx σ (upd (upd H2 dx (.xd [(f,y)])) a (p9 a C (some dx)))
theorem cQ8 {o value:Expr}{ta tv:TE}{f:Str}{pos':Pos}(ha:PE X o ta)(hv:PE X value tv)(hs:swapsWith value (some (.Attribute o f pos')) pos.line X.env=pure false:=by rfl):PS X (.Assign [.Attribute o f pos'] value pos) (sXf X.K ta tv f):=by
 refine⟨?_⟩;intro pins s σ H D I h;refine plainObj_wpAny_Assign_Attribute (thn (hv pins s σ H _ I h) λu s1 ⟨y,H1,I1,ry,q⟩=>thn (ha pins s1 σ H1 _ I1 q) λov s2 ⟨z,H2,I2,rx,a,C,cd,ez,ea,c,n,q2⟩=>?_) hs
 subst ez;obtain rfl:ov=Value.ref a:=rx;obtain ⟨t0,sl,hx⟩:=(I2.hok a _ ea).1;have na:s2.heap.objs.size≠a:=λz=>absurd (Ab3 hx) (by rw[z];exact Ad7 _)
 have hn:H2 s2.heap.objs.size=none:=I2.hok.fresh (Aa7 _)
 refine cI6 I2.kIn c hx n λh' e1 ns kp=>⟨σ,_,?_,q2 s2.heap.objs.size hn na⟩
 obtain ⟨oD,esD,epD,eD,rD⟩:=id ns;have hl:∀b u,s2.heap.get? b=some u->(s2.heap.push oD).get? b=some u:=λb u e=>Aa6 _ e
 have nf:(s2.heap.push oD).get? s2.heap.objs.size=some oD:=by
  refine Heap.get?_push_at rfl ?_;exact(Heap.get?_some_iff.mp eD).2
 have nsL:(s2.heap.push oD).Ns1 s2.heap.objs.size (λz=>if z=f then some u else none):=⟨oD,esD,epD,nf,rD⟩
 have J1:Inv X pins σ (upd H2 s2.heap.objs.size (.xd [(f,y)])) {s2 with heap:=s2.heap.push oD,toks:=s2.toks}:=I2.laid hl (Aa7 _) ⟨_,nsL,λg=>by
  show RelO (List.lookup g [(f,y)]) (if g=f then some u else none)
  by_cases q:g=f
  ·subst q;rw[if_pos rfl];simp only[List.lookup_cons,beq_self_eq_true];exact ry
  ·rw[if_neg q]
   have:(g==f)=false:=by simpa using q
   simp only[List.lookup_cons,this,List.lookup_nil];trivial⟩
 refine J1.write (x:=a) (e:=a) (h':=h') (t':=s2.toks+2) (by rw[B1 (Ne.symm na),ea];trivial) (.inl rfl) (λb v hb e=>?_) ⟨_,e1⟩ (aN3 e1)
 by_cases hbd:b=s2.heap.objs.size
 ·subst hbd;rw[nf]at e;cases e;exact eD
 ·have:s2.heap.get? b=some v:=by
   exact(Heap.get?_push_ne _ _ _ hbd).symm.trans e
  exact kp b v hb this
end
def XMk (K:PySem.W.Frag)(C f:Addr):Prop:=∀h:Heap,K.In h->∃bm N nm qn bs hdct sn sub ab col dd k0 k1 k2 k3 k5 mN oI,h.get? C=some (excClassObj nm qn C N bs bm hdct sn sub ab col dd k0 k1 k2 k3 k5 "ValueError.__new__")/\OwnTail h bmV bm/\h.Ns N mN/\mN "__init__" = some (.ref f)/\h.get? f=some oI/\oI.cls=.type "function"
def cU5 (C:Addr)(sp:Sp)(dvs:List V)(E:XK)(t:TA):TE:=λσ H Q=>t σ H λvs H1=>vs.length<=1000/\∀x,H1 x=none->sp (.ref x::(vs++dvs)) (upd H1 x (p9 x C none)) (λv H2=>v=.non/\Q (.ref x) H2) E
section
variable {X:Cx}{CX:CXT}{C f:Addr}{k:Nat}{fd:FuncData}{ps:List Str}{sp:Sp}{dvs:List V}{ds:List Value}{E:XK}{x:Str}{p pos:Pos}{e:Expr}{es:List Expr}{t:TA}
theorem cL7 {pins:List (Addr×Obj)}{σ:St}{H:Hp}{s:Shared}{Q:VK}{us:List Value}{vs:List V}(M:XMk X.K C f)(F:E4 X.prog X.w X.K X.mg X.base CX k f fd ps sp)(hr:Room (k+1) X.A)(hb:Binds X.K fd ps ds)(hd:Vals dvs ds)
  (hx:aB0 CX X E) (I:Inv X pins σ H s) (r:Vals vs us) (hv:vs.length<=1000) (h:∀x,H x=none->sp (.ref x::(vs++dvs)) (upd H x (p9 x C none)) (λv H2=>v=.non/\Q (.ref x) H2) E) :
  wpAny (model X.prog X.w) X.A (call (.ref C) us) (EP X pins σ Q) X.xe s:=by
 obtain ⟨bm,N,nm,qn,bs,hdct,sn,sub,ab,col,dd,k0,k1,k2,k3,k5,mN,oI,o1,o2,o3,o4,o5,o6⟩:=M _ I.kIn;obtain ⟨hp,g,d,tk,os⟩:=s;have hlen:=r.length;refine aV1 PySem.F.excBase_ValueError (by decide) PySem.F.excBase_ValueError o2 o1 o3 o4 o5 o6 (by unfold sizeLine;omega) λh' up at1 at2 sz=>?_
 have hq:=h (hp.objs.size+1) (I.hok.fresh (Nat.le_succ _))
 have I2:Inv X pins σ (upd H (hp.objs.size+1) (p9 (hp.objs.size+1) C none)) ⟨h',g,d,tk,os⟩:=I.laid (a:=hp.objs.size+1) (t':=tk) (h':=h') up (Nat.le_succ _) (aN3 (sl := #[]) at2)
 have r2:Vals (V.ref (hp.objs.size+1)::(vs++dvs)) (Value.ref (hp.objs.size+1)::(us++ds)):=.cons rfl (r.append hd)
 have hl:(Value.ref (hp.objs.size+1)::us++ds).length=ps.length:=by
  have e:=r2.length
  rw[F.len _ _ _ _ hq]at e;exact e.symm
 refine wpAny_call (codeAny_mono (F.run _ X.stack _ _ ⟨Value.ref (hp.objs.size+1)::us,[]⟩ (Value.ref (hp.objs.size+1)::(us++ds)) _ _ E (hr.make C us []) (I2.env0.make C us []) (hb _ (Value.ref (hp.objs.size+1)::us) I2.kIn hl) r2 hq) λr s' hq'=>?_)
 cases r with
 | error e=>exact hx pins σ _ _ e s' I2 hq'
 | ok fl=>
  cases fl with
  | ret u=>
   obtain ⟨v,H',I3,rv,ev,q3⟩:=I2.after hq';subst ev;exact⟨rv,⟨V.ref (hp.objs.size+1),H',I3,rfl,q3⟩⟩
  | next=>exact False.elim hq'
  | brk=>exact False.elim hq'
  | cont=>exact False.elim hq'
theorem cJ9 (M:XMk X.K C f)(kp:PySem.W.keepIn X.K (.ref C)=true)(F:E4 X.prog X.w X.K X.mg X.base CX k f fd ps sp)(hr:Room (k+1) X.A)(hg:Gl X x)(hm:X.mg x=some (.ref C))(hb:Binds X.K fd ps ds)(hd:Vals dvs ds)(hx:aB0 CX X E)
  (ha:PA X (e::es) t) (hdb:(x==("__debug__" : Str))=false:=by decide) (he:starEach (e::es) X.env=(false,eval e X.env)::starEach es X.env:=by rfl) (hpl:(backTo pos (starEach es X.env)).any (·.1)=false:=by rfl) :
  PE X (.Call (.Name x p) (e::es) [] pos) (cU5 C sp dvs E t):=by
 refine⟨?_⟩;intro pins s σ H Q I h;refine wpAny_Call_Name_kw (i9 I hg hm ?_ hdb);refine PySem.W.callWith_K (h₀:=X.base) I.ok.mod.kin kp (thn (ha pos pins s σ H _ I h) λus s1 ⟨vs,H1,I1,r,hv,q⟩=>⟨I1.kIn,?_⟩) he hpl
 exact cL7 M F hr hb hd hx I1 r hv q
end
section
variable {M:Model}{A:Around}{E:Value->Shared->Prop}{s:Shared}{env:Env}
variable {nm q:Str}{C N:Addr}{bs bm:List Value}{hdct:Bool}{sn:List Str}{sub:List Value}{ab:Bool}{col:Option Bool}{dd:Option Addr}{k0 k1 k2 k3 k5:Option Value}{newId:String}
theorem bW7 {x:Sem Value}{Q:Flow->Shared->Prop}(hh:A.handled=none)
  (h:wpAny M A x (λv s1=>∃(nm q:Str) (C N:Addr) (bs bm:List Value) (hdct:Bool) (sn:List Str) (sub:List Value) (ab:Bool) (col:Option Bool) (dd:Option Addr) (k0 k1 k2 k3 k5:Option Value) (newId:String) (e t:Addr) (od:Option Addr) (sl:Array (Option Value)),v=.ref e/\bm.contains (.type "BaseException")=true/\s1.heap.get? C=some (excClassObj nm q C N bs bm hdct sn sub ab col dd k0 k1 k2 k3 k5 newId)/\s1.heap.get? e=some ⟨.ref C,od,.fields #[.ref t,.none,.none,.none,.bool false,.none],sl⟩/\E (.ref e) s1) E s) :
  wpAny M A (raiseStmt env (some x) none) Q E s:=by
 unfold raiseStmt;refine wpAny_bind (wpAny_mono h (λv s1 z=>?_) λ_ _ z=>z)
 obtain ⟨nm,q,C,N,bs,bm,hdct,sn,sub,ab,col,dd,k0,k1,k2,k3,k5,newId,e,t,od,sl,rfl,hb,hC,he,hE⟩:=z;have up:(Value.ref C::bm).contains (.type "BaseException")=true:=by rw[List.contains_cons,hb,Bool.or_true]
 obtain ⟨hp,g,d,tk,os⟩:=s1
 repeat (first | wp_step | (with_reducible refine wpAny_isSubtype_exc hC ?_;rw[up]) | with_reducible refine wpAny_loadPart_at hC ?_ | with_reducible refine wpAny_loadPart_at he ?_)
 exact wpAny_raiseNew_none hh hE
end
def drp (H:Hp)(x:Addr):Hp:=λb=>if b=x then none else H b
theorem aP4 {H:Hp}{x:Addr}:drp H x x=none:=if_pos rfl
theorem aR2 {H:Hp}{x b:Addr}(h:b≠x):drp H x b=H b:=if_neg h
section
variable {P:Program}{w:World}{fs ex:List Addr}{H H1:Hp}{h h1:Heap}{x C:Addr}{d:Option Addr}
theorem Un.drp (u:Un fs ex H H1 h h1)(e:H1 x=some (p9 x C d)):Un fs ex H (drp H1 x) h h1:=by
 have key:∀b o,H1 b=some o->(∀φ,o≠.ext φ)->L2.drp H1 x b=some o:=λb o q n=>by
  rw[aR2];exact q;rintro rfl;rw[e]at q;exact n _ (Ab4 q).symm
 refine⟨u.keep,u.slot,λb o q n z=>?_,u.there,λb xs q=>key b _ (u.tups b xs q) (λφ z=>by cases z),λb o v q=>key b _ (u.frzs b o v q) (λφ z=>by cases z),λb ps q=>?_⟩
 ·have:=u.free b o q n z
  unfold L2.drp;by_cases c:b=x
  ·rw[if_pos c]
  ·rw[if_neg c];exact this
 ·obtain ⟨more,q⟩:=u.tbls b ps q;exact⟨more,key b _ q (λφ z=>by cases z)⟩
theorem HOk.drp (k:HOk P w H1 h)(e:H1 x=some (p9 x C d)):HOk P w (drp H1 x) h:=λb o q=>by
 by_cases c:b=x
 ·subst c;rw[aP4]at q;cases q
 ·rw[aR2 c]at q;have key:∀b o,H1 b=some o->(∀φ,o≠.ext φ)->L2.drp H1 x b=some o:=λb o q n=>by
   rw[aR2];exact q;rintro rfl;rw[e]at q;exact n _ (Ab4 q).symm
  exact(k b o q).stay (λ_ _ _ z=>z) (λb' z=>key b' _ z (λφ z=>by cases z)) λb' xs z=>key b' _ z (λφ z=>by cases z)
end
section
variable {P:Program}{w:World}{M:Model}{A:Around}{E:Value->Shared->Prop}{s:Shared}{H:Hp}{h0 base:Heap}{env:Env}{outer:List Env}{L x t0:Addr}{cls:Value}{d:Option Addr}{sl0:Array (Option Value)}{Q:Unit->Shared->Prop}
theorem bU5 (hfr:A.frames=some (env::outer))(hf:env.frame=some L)(hl:s.heap.FunFrames base (env::outer))(n1:h0.get? x=none)(n3:H x=none)(hx:s.heap.get? x=some ⟨cls,d,.fields #[.ref t0,.none,.none,.none,.bool false,.none],sl0⟩)
  (hth:∀b o,h0.get? b=some o->∃o',s.heap.get? b=some o') (hok:HOk P w H s.heap)
  (hQ:∀h2:Heap,(∀b o,s.heap.get? b=some o->b∉frs (env::outer)->b∉[x]->h2.get? b=some o)->(∀b o,s.heap.get? b=some o->b∈frs (env::outer)->∃sl,h2.get? b=some {o with slots:=sl})->Fly h0 H x cls h2->Dx h2 x d->Q () {s with heap:=h2}) :
  wpAny M A (leaving env (.ref x)) Q E s:=by
 have hfields:∀b∈frs (env::outer),∃o,s.heap.get? b=some o/\∀vs,o.data≠.fields vs:=λb hb=>(hl.mem hb).2
 have D:Dx s.heap x d:=⟨_,hx,rfl⟩
 have st:wpAny M A (leaving env (.ref x)) (λ_ s'=>∃h2,s'={s with heap:=h2}/\Heap.LeftW (PySem.W.hideAll s.heap (x::frs (env::outer))) (env::outer) x cls (.ref t0) s.heap h2) E s:=
  wpAny_leaving_firstW (oe:=⟨cls,d,.fields #[.ref t0,.none,.none,.none,.bool false,.none],sl0⟩) hfr (s9 hl λb hb=>Ad3 _ hb) hf hx (λb o e=>PySem.W.of_hideAll _ e) (PySem.W.hideAll_none _ (List.mem_cons_self ..)) rfl rfl rfl λh' z=>⟨h',rfl,z⟩
 refine wpAny_mono (aH5 (bC4 env (.ref x)) st) (λ_ s' z=>?_) λ_ _ z=>z.1
 obtain ⟨⟨h2,rfl,⟨k1,_,⟨oe',vs',T',oT',ts',e1,e2,e3,e4,e5,e6,e7,e8,e9⟩,hup⟩⟩,kd⟩:=z;have ks:∀b o,s.heap.get? b=some o->b∈frs (env::outer)->∃sl,h2.get? b=some {o with slots:=sl}:=λb o e hb=>by
  obtain ⟨o',e',hnf⟩:=hfields b hb;rw[e]at e';cases e';exact hup b o e hnf
 have nT:s.heap.get? T'=none:=by
  cases q:s.heap.get? T' with
  | none=>rfl
  | some o=>
   exfalso
   by_cases hb:T'∈x::frs (env::outer)
   ·rcases Aa1.mp hb with z | z
    ·exact e6 z
    ·obtain ⟨o',e',hnf⟩:=hfields T' z;obtain ⟨sl,q⟩:=ks T' o' e' z;rw[e7]at q;have q:=Ab4 q;subst q;exact hnf ts' e8
   ·rw[PySem.W.hideAll_get _ q hb]at e5;cases e5
 have F:Fly h0 H x cls h2:=by
  refine⟨_,oe',vs',T',oT',ts',n1,?_,n3,?_,e1,e2,e3,e4,e6,e7,e8,e9⟩
  ·cases q:h0.get? T' with
   | none=>rfl
   | some o=>obtain ⟨o',q'⟩:=hth T' o q;rw[nT]at q';cases q'
  ·cases q:H T' with
   | none=>rfl
   | some u=>obtain ⟨o',q'⟩:=j4 (hok T' u q);rw[nT]at q';cases q'
 refine hQ h2 (λb o e hb hB=>k1 b o (PySem.W.hideAll_get _ e λz=>?_)) ks F (D.keep kd F.there)
 rcases Aa1.mp z with z | z
 ·exact hB (by rw[z];simp)
 ·exact hb z
end
section
variable {P:Program}{w:World}{K:PySem.W.Frag}{mg:Str->Option Value}{base:Heap}{N:List Str}{qual:Str}{scope:Scope}{f:Addr}{cd:Value}{A:Around}{outer:List Env}{s:Shared}{H:Hp}{E:XK}
theorem cK9 {pins:List (Addr×Obj)}{σ:St}{H1:Hp}{s1:Shared}{y C dx:Addr}(I:Inv (aP7 (CXd P w) P w K mg base N qual scope f cd A outer s H E) pins σ H1 s1)(hy:s.heap.objs.size<=y)(e:H1 y=some (p9 y C (some dx)))(q:E (.ref C) (some dx) (drp H1 y)) :
  (aP7 (CXd P w) P w K mg base N qual scope f cd A outer s H E).xe (.ref y) s1:=by
 have hth:∀b o,s.heap.get? b=some o->∃o',s1.heap.get? b=some o':=λb o e=>I.base.there b o e (by exact λz=>absurd (show b∈([]:List Addr) from z) (by simp))
 obtain ⟨t0,sl,hx⟩:=(I.hok y _ e).1;have J:=I.un (h':=s1.heap) (t':=s1.toks) (Un.refl.drp e) (I.hok.drp e);have n1:s.heap.get? y=none:=Heap.get?_none_of_le hy;exact bU5 (P:=P) (w:=w) (H:=drp H1 y) (h0:=s.heap) (base:=base) I.ok.frames rfl I.stack n1 aP4 hx hth (I.hok.drp e) λh2 k ks F D=>dB0 (B:=[y]) (s1:=s1) J (λb hb=>by rw[Ad6.mp hb];exact⟨n1,aP4⟩) k ks F D q I.bare
end
section
variable {X:Cx}{CX:CXT}{C f:Addr}{k:Nat}{fd:FuncData}{ps:List Str}{sp:Sp}{dvs:List V}{ds:List Value}{E:XK}{x:Str}{p pos:Pos}{e:Expr}{es:List Expr}{t:TA}
theorem cF0 {pins:List (Addr×Obj)}{σ:St}{H:Hp}{s:Shared}{Q:VK}{us:List Value}{vs:List V}(M:XMk X.K C f)(F:E4 X.prog X.w X.K X.mg X.base CX k f fd ps sp)(hr:Room (k+1) X.A)(hb:Binds X.K fd ps ds)(hd:Vals dvs ds)
  (hx:aB0 CX X E) (I:Inv X pins σ H s) (r:Vals vs us) (hv:vs.length<=1000) (h:∀x,H x=none->sp (.ref x::(vs++dvs)) (upd H x (p9 x C none)) (λv H2=>v=.non/\Q (.ref x) H2) E) :
  wpAny (model X.prog X.w) X.A (call (.ref C) us) (λu s'=>u=.ref (s.heap.objs.size+1)/\∃H',Inv X pins σ H' s'/\Q (.ref (s.heap.objs.size+1)) H') X.xe s:=by
 obtain ⟨bm,N,nm,qn,bs,hdct,sn,sub,ab,col,dd,k0,k1,k2,k3,k5,mN,oI,o1,o2,o3,o4,o5,o6⟩:=M _ I.kIn;obtain ⟨hp,g,d,tk,os⟩:=s;have hlen:=r.length;refine aV1 PySem.F.excBase_ValueError (by decide) PySem.F.excBase_ValueError o2 o1 o3 o4 o5 o6 (by unfold sizeLine;omega) λh' up at1 at2 sz=>?_
 have hq:=h (hp.objs.size+1) (I.hok.fresh (Nat.le_succ _))
 have I2:Inv X pins σ (upd H (hp.objs.size+1) (p9 (hp.objs.size+1) C none)) ⟨h',g,d,tk,os⟩:=I.laid (a:=hp.objs.size+1) (t':=tk) (h':=h') up (Nat.le_succ _) (aN3 (sl := #[]) at2)
 have r2:Vals (V.ref (hp.objs.size+1)::(vs++dvs)) (Value.ref (hp.objs.size+1)::(us++ds)):=.cons rfl (r.append hd)
 have hl:(Value.ref (hp.objs.size+1)::us++ds).length=ps.length:=by
  have e:=r2.length
  rw[F.len _ _ _ _ hq]at e;exact e.symm
 refine wpAny_call (codeAny_mono (F.run _ X.stack _ _ ⟨Value.ref (hp.objs.size+1)::us,[]⟩ (Value.ref (hp.objs.size+1)::(us++ds)) _ _ E (hr.make C us []) (I2.env0.make C us []) (hb _ (Value.ref (hp.objs.size+1)::us) I2.kIn hl) r2 hq) λr s' hq'=>?_)
 cases r with
 | error e=>exact hx pins σ _ _ e s' I2 hq'
 | ok fl=>
  cases fl with
  | ret u=>
   obtain ⟨v,H',I3,rv,ev,q3⟩:=I2.after hq';subst ev;exact⟨rv,rfl,H',I3,q3⟩
  | next=>exact False.elim hq'
  | brk=>exact False.elim hq'
  | cont=>exact False.elim hq'
def bS3 (C:Addr)(sp:Sp)(dvs:List V)(E:XK)(EX:Addr->Hp->Prop)(t:TA):TS:=λ_ σ H=>t σ H λvs H1=>vs.length<=1000/\∀x,H1 x=none->sp (.ref x::(vs++dvs)) (upd H1 x (p9 x C none)) (λv H2=>v=.non/\∃y dx,V.ref x=.ref y/\H2 y=some (p9 y C (some dx))/\EX dx (drp H2 y)) E
theorem bV0 {EX:Addr->Hp->Prop}{np cpos:Pos}(M:XMk X.K C f)(kp:PySem.W.keepIn X.K (.ref C)=true)(F:E4 X.prog X.w X.K X.mg X.base CX k f fd ps sp)(hr:Room (k+1) X.A)(hg:Gl X x)(hm:X.mg x=some (.ref C))(hb:Binds X.K fd ps ds)(hd:Vals dvs ds)(hx:aB0 CX X E)(hc:X.calm=true)
  (ha:PA X (e::es) t) (hX:∀(pins:List (Addr×Obj)) (σ:St) (H:Hp) (s:Shared) (y dx:Addr),Inv X pins σ H s->X.s₀.heap.objs.size<=y->H y=some (p9 y C (some dx))->EX dx (drp H y)->X.xe (.ref y) s)
  (hdb:(x==("__debug__" : Str))=false:=by decide) (he:starEach (e::es) X.env=(false,eval e X.env)::starEach es X.env:=by rfl) (hpl:(backTo cpos (starEach es X.env)).any (·.1)=false:=by rfl) :
  PS X (.Raise (some (.Call (.Name x np) (e::es) [] cpos)) none pos) (bS3 C sp dvs E EX t):=by
 refine⟨?_⟩;intro pins s σ H D I h;rw[arm_exec_Raise];refine wpAny_bind (wpAny_standAt (bW7 (I.ok.hd hc) ?_));refine wpAny_bind ?_;refine wpAny_Call_Name_kw (i9 I hg hm ?_ hdb);refine PySem.W.callWith_K (h₀:=X.base) I.ok.mod.kin kp (thn (ha cpos pins s σ H _ I h) λus s1 ⟨vs,H1,I1,r,hv,q⟩=>⟨I1.kIn,?_⟩) he hpl
 refine wpAny_mono (cF0 (Q:=λv H2=>∃y dx,v=.ref y/\H2 y=some (p9 y C (some dx))/\EX dx (drp H2 y)) M F hr hb hd hx I1 r hv λx hxn=>?_) (λu s2 z=>?_) λ_ _ z=>z
 ·exact q x hxn
 ·obtain ⟨rfl,H',J,y,dx,ey,e1,q1⟩:=z;cases ey;obtain ⟨t0,sl,hx0⟩:=(J.hok _ _ e1).1;obtain ⟨bm,N,nm,qn,bs,hdct,sn,sub,ab,col,dd,k0,k1,k2,k3,k5,mN,oI,o1,o2,o3,o4,o5,o6⟩:=M _ J.kIn;refine wpAny_bind (wpAny_standAt (wpAny_pure ?_));exact⟨_,_,_,_,_,_,_,_,_,_,_,_,_,_,_,_,_,_,_,t0,some dx,sl,rfl,o2.hasType PySem.F.excBase_ValueError.hasBase,o1,hx0,hX pins σ H' s2 _ dx J (Nat.le_trans I1.sz (Nat.le_succ _)) e1 q1⟩
end
section
variable {X:Cx}{e:Expr}{f:Str}{ta:TE}{pos:Pos}
def tXf (K:PySem.W.Frag)(ta:TE)(f:Str):TE:=λσ H Q=>ta σ H λx H1=>∃a C dx fs v,x=.ref a/\H1 a=some (excD a C (some dx))/\H1 dx=some (.xd fs)/\bV7 K C/\PySem.W.hasDictIn K C=true/\PySem.W.findIn K (.ref C) f=some none/\fs.lookup f=some v/\Q v H1
theorem dG4 (K:PySem.W.Frag)(he:PE X e ta)(hb:attributeBase e f X.env (eval e X.env)=eval e X.env)(hK:X.K=K:=by rfl):PE X (.Attribute e f pos) (tXf K ta f):=by
 subst hK;refine⟨?_⟩;intro pins s σ H Q I h;refine bO8 hb (thn (he pins s σ H _ I h) λu s1 ⟨x,H1,I1,rx,a,C,dx,fs,v,ex,ea,ed,c,hd,n,l,q⟩=>?_)
 subst ex;obtain rfl:u=Value.ref a:=rx;obtain ⟨o,vs,g1,g2,g3,g4⟩:=(I1.hok a _ ea).1;obtain ⟨mA,ns,rel⟩:∃mA,s1.heap.Ns1 dx mA/\∀f,RelO (fs.lookup f) (mA f):=I1.hok dx _ ed;obtain ⟨od,ho,hl⟩:=aU7 ns;obtain ⟨u,hu,ru⟩:=RelO.some_of (v:=v) (o:=mA f) (by rw[<- l];exact rel f)
 have J:PySem.W.InstAt s1.heap a o C (some od):=⟨g1,g2,by
  obtain ⟨oc,odi,oda,osl⟩:=o;cases g3;rfl,by rw[g4];exact ho⟩
 exact bR8 I1.kIn J c (PySem.W.findObj_own hd n rfl (by rw[hl,hu])) (aV9 ru) ⟨v,H1,I1.tok _,ru,q⟩
end
section
variable {K:PySem.W.Frag}{C TB f N:Addr}{nm qn:Str}{bs:List Value}{hdct:Bool}{sn:List Str}{sub:List Value}{ab:Bool}{col:Option Bool}{dd:Option Addr}{k0 k1 k2 k3 k5:Option Value}
theorem bI6 {h:Heap}(X:K.In h)(hT:PySem.W.excIn K TB bmV "ValueError.__new__" = true):OwnTail h bmV (.ref TB::bmV):=by
 obtain ⟨bm,N,nm,qn,bs,hdct,sn,sub,ab,col,dd,k0,k1,k2,k3,k5,mN,o1,o2,o3,o4⟩:=aW0 X hT;exact .own o1 o2 o3 .base
theorem bT7 (hT:PySem.W.excIn K C bmV "ValueError.__new__" = true):aY8 K C:=λh X=>by
 obtain ⟨bm,N,nm,qn,bs,hdct,sn,sub,ab,col,dd,k0,k1,k2,k3,k5,mN,o1,o2,o3,o4⟩:=aW0 X hT;exact⟨bm,N,nm,qn,bs,hdct,sn,sub,ab,col,dd,k0,k1,k2,k3,k5,o1,o4⟩
theorem cZ8 (ho:K.lookup C=some (excClassObj nm qn C N bs (.ref TB::bmV) hdct sn sub ab col dd k0 k1 k2 k3 k5 "ValueError.__new__"))(hT:PySem.W.excIn K TB bmV "ValueError.__new__" = true):aY8 K C:=λh X=>
 ⟨_,N,nm,qn,bs,hdct,sn,sub,ab,col,dd,k0,k1,k2,k3,k5,X _ _ ho,bI6 X hT⟩
theorem dD3 {h:Heap}{mN:Str->Option Value}{x:Str}{v:Value}(X:K.In h)(G:h.Ns N mN)(e:PySem.W.nsIn K N x=some (some v)):mN x=some v:=by
 cases hl:K.lookup N with
 | none=>unfold PySem.W.nsIn at e;rw[hl]at e;cases e
 | some ob=>
  obtain ⟨c,d,da,sl⟩:=ob;obtain ⟨o,es,ep,g1,g2,_,g3⟩:=G;have eo:=(X _ _ hl).symm.trans g1;cases eo;unfold PySem.W.nsIn at e;rw[hl]at e;dsimp only at g2;subst g2;dsimp only at e;cases hq:es.toList.find? (·.key.isStr x) with
  | none=>
   rw[hq]at e;dsimp only at e;split at e <;> cases e
  | some en=>
   rw[hq]at e;cases e;rw[<- g3];unfold nsFind findBy;rw[<- Array.find?_toList,hq];rfl
theorem cW0 {oI:Obj}(ho:K.lookup C=some (excClassObj nm qn C N bs (.ref TB::bmV) hdct sn sub ab col dd k0 k1 k2 k3 k5 "ValueError.__new__"))(hT:PySem.W.excIn K TB bmV "ValueError.__new__" = true)(hN:PySem.W.nsOkIn K N=true)(hi:PySem.W.nsIn K N "__init__" = some (some (.ref f)))
  (hf:K.lookup f=some oI) (hfc:oI.cls=.type "function"):XMk K C f:=λh X=>
 ⟨_,N,nm,qn,bs,hdct,sn,sub,ab,col,dd,k0,k1,k2,k3,k5,_,oI,X _ _ ho,bI6 X hT,.of_isNs (PySem.W.isNs_of_in X hN),dD3 X (.of_isNs (PySem.W.isNs_of_in X hN)) hi,X _ _ hf,hfc⟩
theorem bM5 (self:Value):refuseLoop self "__setattr__" (.ref C :: .ref TB::bmV)=pure ():=by
 rw[refuseLoop_ref,refuseLoop_ref];exact PySem.F.store_ValueError.passes self
end
structure RoomU (k:Nat)(A:Around):Prop where
 dp:A.depth+3*k+5<recursionLimit
 un:A.units+16*k+200<cLine
theorem Room.u {k:Nat}{A:Around}(r:Room k A):RoomU k A:=⟨r.dp,r.un⟩
theorem RoomU.mark {k:Nat}{A:Around}{e:Option Value}(r:RoomU k A):RoomU k (A.mark e):=⟨r.dp,r.un⟩
theorem RoomU.mono {j k:Nat}{A:Around}(r:RoomU k A)(h:j<=k):RoomU j A:=⟨by have:=r.dp;omega,by have:=r.un;omega⟩
theorem RoomU.deeper {k:Nat}{A:Around}(r:RoomU (k+1) A)(env:Env):RoomU k (A.deeper env):=
 ⟨by have:=r.dp;show A.depth+1+3*k+5<_;omega,by have:=r.un;show A.units+3+16*k+200<_;omega⟩
structure bQ6 (P:Program)(w:World)(K:PySem.W.Frag)(mg:Str->Option Value)(base:Heap)(k:Nat)(f:Addr)(fd:FuncData)(ps:List Str)(sp:Sp):Prop where
 len:∀vs H Q E,sp vs H Q E->vs.length=ps.length
 run:∀(A:Around) (outer:List Env) (s:Shared) (H:Hp) (args:Args) (us:List Value) (vs:List V) (Q:VK) (E:XK),RoomU k A->Env0 P w K mg base A outer s H->BindsTo s fd args (ps.zip us)->Vals vs us->sp vs H Q E ->
  codeAny (model P w) A (.call (.ref f) args) (CR CX0 outer P w H s Q E) s
abbrev cxU (P:Program)(w:World)(K:PySem.W.Frag)(mg:Str->Option Value)(base:Heap)(N:List Str)(qual:Str)(scope:Scope)(f:Addr)(cd:Value)(A:Around)(outer:List Env)(s:Shared)(H:Hp)(E:XK):Cx:=
 {aP7 CX0 P w K mg base N qual scope f cd A outer s H E with calm:=false,xe:=λ_ _=>False}
section
variable {P:Program}{w:World}{K:PySem.W.Frag}{mg:Str->Option Value}{base:Heap}
theorem Fun.okU {x qual:Str}{st:Stmt}{f:Addr}{fd:FuncData}{N ps:List Str}{k:Nat}{sp:Sp}(F:Fun K x qual st f fd)(S:D5 N ps (A8 st))(len:∀vs H Q E,sp vs H Q E->vs.length=ps.length)
  (hbody:∀(cdv:Value) (A:Around) (outer:List Env) (s:Shared) (H:Hp) (vs:List V) (Q:VK) (E:XK),RoomU k (A.deeper (envOfC qual (A8 st) s.heap.objs.size f cdv))->sp vs H Q E ->
   ∃t,PSs (cxU P w K mg base N qual (A8 st) f cdv A outer s H E) (D1 st) t/\t {nx:=λ_ H'=>Q .non H',rt:=Q} (U9 N vs) H):bQ6 P w K mg base (k+1) f fd ps sp:=by
 obtain ⟨oc,od,kV,doc,pm,an,cdv,ct,osl,rfl,lk,hcd⟩:=F.ex;refine⟨len,λA outer s H args us vs Q E hr e0 hb r hsp=>?_⟩
 have hl:=len _ _ _ _ hsp
 have KX:K.In s.heap:=e0.mod.kin.keeps λb o e=>(e0.bs b o e).1
 have lim:s.heap.NoLimit:=e0.mod.nolimit.keeps λb o e=>(e0.bs b o e).1
 have hkind:∀y∈ps.zip us,(A8 st).names.lookup y.1=some .local\/((A8 st).names.lookup y.1=some .cell/\((cellsFrom (s.heap.objs.size+1) (A8 st).names []).lookup y.1).isSome=true):=λ⟨n,v⟩ hy=>by
  rcases S.par n (List.of_mem_zip hy).1 with q | q
  ·exact .inl q
  ·exact .inr ⟨q,PySem.W.cellsFrom_some _ _ _ (.inl q)⟩
 refine codeAny_call_function (by have:=hr.dp;omega) (KX _ _ lk) rfl S.co S.gen rfl (PySem.W.codeRec_of KX hcd) (hb _ _ _ _ ?_)
 refine wpAny_newFunctionEnv_cells S.kind hkind λenv he s1 x=>?_
 subst he;refine⟨lim.keeps x.toInCall.keep,codeAny_func ?_⟩;obtain ⟨t,ht,hq⟩:=hbody cdv A outer s H vs Q E (hr.deeper _) hsp;have I0:=aW9 (CX:=CX0) (A:={A with handled:=none}) (qual:=qual) (f:=f) (cd:=cdv) (E:=E) S rfl (⟨e0.frames,e0.mod,e0.bs,e0.bsz,e0.funs,e0.frf,e0.hok,e0.bare⟩:Env0 P w K mg base {A with handled:=none} outer s H) hl r x
 have I:Inv (cxU P w K mg base N qual (A8 st) f cdv A outer s H E) [] (U9 N vs) H s1:=
  ⟨⟨I0.ok.mod,I0.ok.kind,I0.ok.glob,I0.ok.blt,I0.ok.above,I0.ok.inj,I0.ok.has,I0.ok.cab,(λz=>nomatch z),Around.frames_deeper e0.frames,I0.ok.stk,I0.ok.exf,I0.ok.bs,I0.ok.bsz,I0.ok.noex,I0.ok.exfs,I0.ok.funs,I0.ok.frf⟩,I0.os,I0.bare,I0.base,I0.loc,I0.cell,I0.free,I0.freeC,I0.pin,I0.hok,I0.len⟩
 refine wpAny_mono (ht [] s1 (U9 N vs) H _ I hq) (λfl s' hs=>?_) λe s' hs=>False.elim hs
 have fin:∀{σ':St} {H':Hp} {v:V} {u:Value},Inv (cxU P w K mg base N qual (A8 st) f cdv A outer s H E) [] σ' H' s'->RelV v u->Q v H'->CE outer P w H s Q u s':=
  λ{σ' H' v u} J rv q=>⟨v,H',J.os,J.bare,J.base,J.hok,rv,q⟩
 cases fl with
 | ret u=>
  obtain ⟨v,σ',H',J,rv,q⟩:=hs;exact fin J rv q
 | next=>
  obtain ⟨σ',H',J,q⟩:=hs;exact fin (v:=V.non) (u:=Value.none) J rfl q
 | brk=>
  obtain ⟨_,_,_,q⟩:=hs;exact False.elim q
 | cont=>
  obtain ⟨_,_,_,q⟩:=hs;exact False.elim q
end
section
variable {X:Cx}{k:Nat}{f:Addr}{fd:FuncData}{ps:List Str}{sp:Sp}{dvs:List V}{ds:List Value}{x:Str}{p pos:Pos}{e:Expr}{es:List Expr}{t:TA}
theorem cI0 (F:bQ6 X.prog X.w X.K X.mg X.base k f fd ps sp)(hr:RoomU k X.A)(hg:Gl X x)(hm:X.mg x=some (.ref f))(hk:PySem.W.keepIn X.K (.ref f)=true)(hb:Binds X.K fd ps ds)(hd:Vals dvs ds)
  (ha:PA X (e::es) t) (hdb:(x==("__debug__" : Str))=false:=by decide) (he:starEach (e::es) X.env=(false,eval e X.env)::starEach es X.env:=by rfl) (hpl:(backTo pos (starEach es X.env)).any (·.1)=false:=by rfl) :
  PE X (.Call (.Name x p) (e::es) [] pos) (aL3 sp dvs E0 t):=by
 refine⟨?_⟩;intro pins s σ H Q I h;refine wpAny_Call_Name_kw (i9 I hg hm ?_ hdb);refine PySem.W.callWith_K (h₀:=X.base) I.ok.mod.kin hk (thn (ha pos pins s σ H _ I h) λus s1 ⟨vs,H1,I1,r,q⟩=>⟨I1.kIn,?_⟩) he hpl
 have r2:Vals (vs++dvs) (us++ds):=r.append hd
 have hl:(us++ds).length=ps.length:=by rw[<- r2.length];exact F.len _ _ _ _ q
 refine wpAny_call (codeAny_mono (F.run X.A X.stack s1 H1 ⟨us,[]⟩ (us++ds) (vs++dvs) Q E0 hr I1.env0 (hb s1 us I1.kIn hl) r2 q) λr s' hq=>?_)
 cases r with
 | error e=>exact False.elim hq
 | ok fl=>
  cases fl with
  | ret u=>exact I1.after hq
  | next=>exact False.elim hq
  | brk=>exact False.elim hq
  | cont=>exact False.elim hq
end
section
variable {prog:Program}{w:World}{A:Around}{E:Value->Shared->Prop}{h:Heap}{g:Array GenState}{d:Drawn}{t:Nat}{os:OsState}{a C:Addr}{o:Obj}{K:PySem.W.Frag}
theorem bL7 {R:Result->Shared->Prop}(X:K.In h)(hx:h.get? a=some o)(hc:o.cls=.ref C)(hob:PySem.W.subIn K (.ref C) (.type "object")=some true)(hq:R (.ok (.ret (.ref C))) ⟨h,g,d,t,os⟩) :
  codeAny (model prog w) A (.call (.builtin "getset_descriptor.__get__") ⟨[.builtin "object.__class__",.ref a,.ref C],[]⟩) R ⟨h,g,d,t,os⟩:=by
 have hT5:(⟨h,g,d,t,os⟩:Shared).TypeIs (.builtin "object.__class__") "getset_descriptor" := F.typeOf_object_class
 have Ls:PySem.W.Looks (model prog w) h (isSubtype (.ref C) (.type (".".intercalate ("object.__class__".cutAt '.').dropLast))) true:=by
  rw[F.owner_object_class];exact PySem.W.looks_subIn X hob
 refine codeAny_call_builtin F.slot_gs_get.plain F.entry_gs_get (F.slot_gs_get.check _ _ _ _ _ _ _ _ hT5 (F.args_gs_get _ _ _) ?_)
 repeat (any_goals (first | assumption | (with_reducible refine wpAny_loadPart_at hx ?_;rw[hc]) | with_reducible refine Ls.at ?_ | wp_step))
 refine⟨Code.quiet_builtin _ (by decide +kernel),codeAny_builtin F.entry_object_class ?_⟩
 repeat (any_goals (first | assumption | (with_reducible refine wpAny_loadPart_at hx ?_;rw[hc]) | wp_step))
structure XAt (K:PySem.W.Frag)(C:Addr):Prop where
 ob:PySem.W.subIn K (.ref C) (.type "object")=some true
 be:PySem.W.subIn K (.ref C) (.type "BaseException")=some true
 ga:PySem.W.findIn K (.ref C) "__getattribute__" = some (some (.builtin "BaseException.__getattribute__"))
 gt:PySem.W.findIn K (.ref C) "__getattr__" = some none
 cl:PySem.W.findIn K (.ref C) "__class__" = some (some (.builtin "object.__class__"))
theorem aX4 {tk:Tok}{Q:Fin->Shared->Prop}(X:K.In h)(XA:XAt K C)(hx:h.get? a=some o)(hc:o.cls=.ref C)(hq:Q (.done (.ret (.ref C))) ⟨h,g,d,t,os⟩) :
  wpAny (model prog w) A (Builtin.«object.__getattribute__» ⟨[.ref a,.str "__class__" tk],[]⟩) Q E ⟨h,g,d,t,os⟩:=by
 have hT5:(⟨h,g,d,t,os⟩:Shared).TypeIs (.builtin "object.__class__") "getset_descriptor" := F.typeOf_object_class
 have f5:=F.typeOf_object_class
 have f6:=F.slot_gs_get.lookup
 have f7:=F.slot_gs_set.lookup
 have L1:=PySem.W.looks_findIn (M:=model prog w) X XA.cl
 repeat (any_goals (first | assumption | (with_reducible refine wpAny_loadPart_at hx ?_;rw[hc]) | with_reducible refine L1.at ?_ | wp_step))
 refine bL7 X hx hc XA.ob ?_
 repeat (any_goals (first | assumption | wp_step))
theorem bW1 {M:Model}{nameV:Value}{Q:Unit->Shared->Prop}(X:K.In h)(XA:XAt K C)(hx:h.get? a=some o)(hc:o.cls=.ref C)(hq:Q () ⟨h,g,d,t,os⟩):wpAny M A (checkBuiltinCall "BaseException.__getattribute__" ⟨[.ref a,nameV],[]⟩) Q E ⟨h,g,d,t,os⟩:=by
 have hk:builtinKind "BaseException.__getattribute__" = some .slot:=by decide +kernel
 have hsplit:splitId "BaseException.__getattribute__" = some ("BaseException", "__getattribute__"):=by decide +kernel
 have Ls:=PySem.W.looks_subIn (M:=M) X XA.be
 have ha:=F.args_bexc_ga (.ref a) nameV
 simp only[checkBuiltinCall,hk,hsplit];refine wpAny_bind ?_
 ·unfold isInstance
  repeat (first | (with_reducible refine wpAny_loadPart_at hx ?_;rw[hc]) | with_reducible refine Ls.at ?_ | wp_step)
  exact hq
theorem bV4 {tk:Tok}{fill expr:Bool}{Q:Value->Shared->Prop}(X:K.In h)(XA:XAt K C)(hx:h.get? a=some o)(hc:o.cls=.ref C)(hq:Q (.ref C) ⟨h,g,d,t,os⟩) :
  wpAny (model prog w) A (getAttrBy (.ref a) (.str "__class__" tk) fill expr) Q E ⟨h,g,d,t,os⟩:=by
 have f3:=F.excAttr_ValueError.ga.bind (.ref a)
 have hx0:(expr&&onTheHeap (Value.builtin "BaseException.__getattribute__"))=false:=by cases expr <;> rfl
 have hx2:(Value.builtin "BaseException.__getattribute__" == Value.builtin "object.__getattribute__")=false:=by decide +kernel
 have hx1:(onTheHeap (Value.ref C)&&Value.builtin "BaseException.__getattribute__" == Value.builtin "object.__getattribute__")=false:=by rw[hx2];rfl
 have L1:=PySem.W.looks_findIn (M:=model prog w) X XA.ga
 have L2:=PySem.W.looks_findIn (M:=model prog w) X XA.gt
 repeat (any_goals (first | assumption | (with_reducible refine wpAny_loadPart_at hx ?_;rw[hc]) | with_reducible refine L1.at ?_ | with_reducible refine L2.at ?_ | wp_step))
 refine codeAny_call_builtin F.excAttr_ValueError.ga.plain F.entry_bexc_ga (bW1 X XA hx hc (aX4 X XA hx hc ?_))
 repeat (any_goals (first | assumption | wp_step))
theorem bE9 {Q:Option Value->Shared->Prop}(X:K.In h)(XA:XAt K C)(hx:h.get? a=some o)(hc:o.cls=.ref C)(hq:Q (some (.ref C)) ⟨h,g,d,t+1,os⟩):wpAny (model prog w) A (getAttr? (.ref a) "__class__") Q E ⟨h,g,d,t,os⟩:=by
 unfold getAttr? getAttrBy?
 repeat (any_goals (first | assumption | with_reducible apply bV4 X XA hx hc | wp_step))
end
section
variable {prog:Program}{w:World}{A:Around}{E:Value->Shared->Prop}{h:Heap}{g:Array GenState}{d:Drawn}{t:Nat}{os:OsState}{a C:Addr}{o:Obj}{K:PySem.W.Frag}
theorem aL6 {c:Value}{b:Bool}{dep:Int}{tk:Tok}{Q:Fin->Shared->Prop}(X:K.In h)(XA:XAt K C)(hx:h.get? a=some o)(hc:o.cls=.ref C)(hty:PySem.W.Looks (model prog w) h (typeOf c) (.type "type"))(his:PySem.W.Looks (model prog w) h (isType c) true)(hisC:PySem.W.Looks (model prog w) h (isType (.ref C)) true)
  (hsub:PySem.W.Looks (model prog w) h (isSubtype (.ref C) c) b) (hne:(Value.ref C==c)=true->b=true) (hq:∀tk',Q (.done (.ret (.bool b))) ⟨h,g,d,tk',os⟩) :
  wpAny (model prog w) A (Builtin.«isinstance.nested» ⟨[.ref a,c,.int dep tk],[]⟩) Q E ⟨h,g,d,t,os⟩:=by
 have L0:PySem.W.Looks (model prog w) h (typeOf (.ref a)) (.ref C):=by
  intro A' Q' E' s' k q;unfold typeOf;exact wpAny_bind (wpAny_loadPart (k _ _ hx) (wpAny_pure (by rw[hc];exact q)))
 have LI:PySem.W.Looks (model prog w) h (isInstance (.ref a) c) b:=L0.andThen hsub
 unfold Builtin.«isinstance.nested»;refine wpAny_bind (L0.at ?_);by_cases e:(Value.ref C==c)=true
 ·have:=hne e
  subst this;rw[if_pos e];refine wpAny_bind (wpAny_rule ?_);exact wpAny_pure (hq t)
 ·rw[if_neg e];refine wpAny_bind (hty.at ?_);rw[if_pos (by decide)]
  k_delta "plainIsInstance"
  refine wpAny_bind (wpAny_bind (his.at ?_));simp only[Bool.not_true,Bool.false_eq_true,if_false];refine wpAny_bind (LI.at ?_);cases b with
  | true=>
   simp only[if_true];first
    | exact wpAny_pure (wpAny_pure (hq _))
    | exact wpAny_pure (hq _)
    | exact wpAny_bind (wpAny_pure (wpAny_pure (hq _)))
  | false=>
   simp only[Bool.false_eq_true,if_false];refine wpAny_bind (bE9 X XA hx hc ?_);refine wpAny_bind (hisC.at ?_);simp only[Bool.not_true,Bool.false_eq_true,if_false];refine wpAny_bind (wpAny_rule ?_);refine hsub.at ?_;first
    | exact wpAny_pure (hq _)
    | exact wpAny_pure (wpAny_pure (hq _))
    | exact wpAny_bind (wpAny_pure (wpAny_pure (hq _)))
end
structure XCl (K:PySem.W.Frag)(D:Addr):Prop where
 cls:(PySem.W.clsIn K D).isSome=true
 ty:PySem.W.typeIn K (.ref D)=some (.type "type")
theorem XCl.isType {K:PySem.W.Frag}{D:Addr}(x:XCl K D){M:Model}{h:Heap}(X:K.In h):PySem.W.Looks M h (PySem.isType (.ref D)) true:=by
 have e1:=x.cls
 unfold PySem.W.clsIn at e1;split at e1
 ·rename_i c' d' cd' sl' ho;intro A' Q' E' s' k q;unfold PySem.isType loadHead;exact wpAny_bind (wpAny_loadPart (k _ _ (X _ _ ho)) (wpAny_pure q))
 ·cases e1
def XIs (K:PySem.W.Frag)(C:Addr):V->Bool->Prop
 | .ref D,b=>XCl K D/\PySem.W.subIn K (.ref C) (.ref D)=some b/\(D=C->b=true)
 | .ty T,b=>typeOf (.type T)=pure (.type "type")/\PySem.W.subIn K (.ref C) (.type T)=some b
 | _,_=>False
section
variable {prog:Program}{w:World}{A:Around}{E:Value->Shared->Prop}{a C:Addr}{K:PySem.W.Frag}
def aL5 (K:PySem.W.Frag)(a C:Addr)(s:Shared):Prop:=K.In s.heap/\∃o,s.heap.get? a=some o/\o.cls=.ref C
theorem aI4 {y:V}{u:Value}{b:Bool}(XA:XAt K C)(XC:XCl K C)(r:RelV y u)(hy:XIs K C y b):Answers (aL5 K a C) (.ref a) u b:=λdep tk=>by
 intro prog w A R s hs;obtain ⟨⟨X,o,hx,hc⟩,hq⟩:=hs;obtain ⟨h,g,d,t,os⟩:=s;cases y with
 | ref D=>
  cases r
  obtain ⟨x1,x2,x3⟩:=hy;exact aL6 X XA hx hc (PySem.W.looks_typeIn X x1.ty) (x1.isType X) (XC.isType X) (PySem.W.looks_subIn X x2) (λe=>x3 (Value.ref.inj (beq_iff_eq.mp e)).symm) λtk'=>hq tk'
 | ty T=>
  cases r
  obtain ⟨x1,x2⟩:=hy;exact aL6 X XA hx hc (PySem.W.Looks.of_pure x1) (PySem.W.Looks.of_pure rfl) (XC.isType X) (PySem.W.looks_subIn X x2) (λe=>by cases beq_iff_eq.mp e) λtk'=>hq tk'
 | _=>exact False.elim hy
end
section
variable {prog:Program}{w:World}{A:Around}{E:Value->Shared->Prop}{a C:Addr}{K:PySem.W.Frag}
theorem bK8 {cs:List Value}{vs:List Bool}{tp:Addr}{tk:Tok}{s:Shared}{Q:Fin->Shared->Prop}(hs:aL5 K a C s)(htp:IsTup s.heap tp cs.toArray)(hne:tp≠C)(ha:AnswersAll (aL5 K a C) (.ref a) cs vs)
  (hq:∀tk',Q (.done (.ret (.bool (vs.any id)))) {s with toks:=tk'}):wpAny (model prog w) A (Builtin.«isinstance.nested» ⟨[.ref a,.ref tp,.int 0 tk],[]⟩) Q E s:=by
 obtain ⟨X,o,hx,hc⟩:=hs;obtain ⟨h,g,d,t,os⟩:=s;obtain ⟨ot,ht,htc,n,htd⟩:=htp;have hT2:(⟨h,g,d,t,os⟩:Shared).TypeIs (.ref tp) "tuple" := ⟨_,ht,htc⟩;have f1:=F.isi_sub_tuple;have hneb:(Value.ref C==Value.ref tp)=false:=by
  cases q:(Value.ref C==Value.ref tp) with
  | false=>rfl
  | true=>exact absurd (Value.ref.inj (beq_iff_eq.mp q)).symm hne
 repeat (any_goals (first | assumption | (with_reducible refine wpAny_loadPart_at hx ?_;rw[hc]) | wp_step))
 rw[htd];refine wpAny_pure ?_;refine wpAny_bind ?_;simp only[Option.getD_some];rw[<- Array.forIn_toList,List.toList_toArray];refine isinstance_items (dep:=0) (P:=aL5 K a C) (λs tk z=>z) cs vs _ _ ha ⟨X,o,hx,hc⟩ λtk'=>?_
 cases hv:vs.any id with
 | true=>
  simp only[if_true]
  repeat (any_goals (first | assumption | wp_step))
  exact hv▸hq tk'
 | false=>
  simp only[Bool.false_eq_true,if_false]
  repeat (any_goals (first | assumption | wp_step))
  exact hv▸hq tk'
end
def cP5 (K:PySem.W.Frag)(C:Addr):List V->List Bool->Prop
 | [],[]=>True
 | y::ys,b::bs=>XIs K C y b/\cP5 K C ys bs
 | _,_=>False
theorem bH9 {K:PySem.W.Frag}{a C:Addr}(XA:XAt K C)(XC:XCl K C):∀{ys:List V} {us:List Value} {bs:List Bool},Vals ys us->cP5 K C ys bs->AnswersAll (aL5 K a C) (.ref a) us bs
 | [],_,[],.nil,_=>trivial
 | y::ys,_,b::bs,.cons r t,⟨h1,h2⟩=>⟨aI4 XA XC r h1,bH9 XA XC t h2⟩
 | [],_,_::_,.nil,z=>z.elim
 | _::_,_,[],.cons _ _,z=>z.elim
end L2
namespace LV
open PySem PySem.Spec PyProof.Rows L2
section
variable {K:PySem.W.Frag}{B:Hp}{ρ ρ':List Sl}{m:Bool}{t ta tb:TE}{d d':PyData}{ds es:List PyData}
def WB (K:PySem.W.Frag)(B:Hp)(t:TS)(ρ:List Sl)(R:AE):Prop:=
 ∀(S:Addr->Prop) (D:aM0) (σ:L2.St) (H:Hp) (o:Nat->List Addr),Env K S B H σ ρ o->Sat K S B R D->t D σ H
theorem W.wb {t:TS}{R:AE}(h:W K t ρ R):WB K B t ρ R:=λS D σ H o I s=>h S B D σ H o I s
theorem bK3 {t u:TS}{R:AE}(h:WB K B t ρ {R with nx:=λρ'=>WB K B u ρ' R}):WB K B (cW1 t u) ρ R:=λS D σ H o I s=>
 h S {D with nx:=u D} σ H o I ⟨λρ' σ' H' o' I' w=>w S D σ' H' o' I' s,s.rt,s.rl,s.bk,s.ct⟩
theorem dG7 {c:TT}{t u:TS}{b:Bool}{R:AE}(h:T K c ρ b)(h1:b=true->WB K B t ρ R)(h2:b=false->WB K B u ρ R):WB K B (cF2 c t u) ρ R:=λS D σ H o I s=>h S B σ H o I _ λH' s'=>by
 cases b with
 | true=>exact h1 rfl S D σ H' o (I.grow s') s
 | false=>exact h2 rfl S D σ H' o (I.grow s') s
theorem dB8 {t:TS}{N:List Str}{vs:List V}{S:Addr->Prop}{H:Hp}{Q:VK}(hS:∀b,S b->∃u:HM,H b=some u.ho)(r:Reps K (hid S H) vs ds)(w:WB K H t (sl0 N.length ds) {nx:=λ_=>d=.none,rt:=λe=>e=d})
  (k:∀v H',Same H H'->Rep K (hid S H') v d->Q v H'):t {nx:=λ_ H'=>Q .non H',rt:=Q} (L2.U9 N vs) H:=
 w S _ _ H _ (env0 hS r) ⟨λρ' σ' H' o' I' z=>k _ H' I'.base (by rw[z];exact .non),λv e H' s r' z=>k v H' s (by rw[<- z];exact r'),λ_ _ _ _ _ _ _ _ z=>z.elim,λ_ _ _ _ _ z=>z.elim,λ_ _ _ _ _ z=>z.elim⟩
theorem cN4 {t:TS}{N:List Str}{vs:List V}{S:Addr->Prop}{H:Hp}{Q:VK}(hS:∀b,S b->∃u:HM,H b=some u.ho)(r:Reps K (hid S H) vs ds)(w:WB K H t (sl0 N.length ds) {nx:=λ_=>False}):t {nx:=λ_ H'=>Q .non H',rt:=Q} (L2.U9 N vs) H:=
 w S _ _ H _ (env0 hS r) ⟨λρ' σ' H' o' I' z=>z.elim,λv e H' s r' z=>z.elim,λ_ _ _ _ _ _ _ _ z=>z.elim,λ_ _ _ _ _ z=>z.elim,λ_ _ _ _ _ z=>z.elim⟩
theorem Env.unset {S:Addr->Prop}{H:Hp}{σ:L2.St}{o:Nat->List Addr}(I:Env K S B H σ ρ o)(j:Nat):Env K S B H (σ.set j none) (ρ.set j .no) o:=by
 have at_:∀{i:Nat} {x:Sl},x≠.no->(ρ.set j .no)[i]? = some x->j≠i/\ρ[i]? = some x:=λ{i x} hx h=>by
  rw[List.getElem?_set]at h;by_cases c:j=i
  ·rw[if_pos c]at h;split at h
   ·exact absurd (Ab4 h).symm hx
   ·cases h
  ·rw[if_neg c]at h;exact⟨c,h⟩
 have no:∀{x:Sl},x.os=true->x≠.no:=λh e=>by rw[e]at h;cases h
 have sub:∀b,C8 (ρ.set j .no) o S b->C8 ρ o S b:=λb z=>aG2 (x:=.no) rfl z
 have g:Same (hid (C8 ρ o S) H) (hid (C8 (ρ.set j .no) o S) H):=D9 (L2.Same.rf _) λb z _=>sub b z
 have sg:∀{i:Nat},j≠i->(σ.set j none)[i]? = σ[i]? := λc=>Ac9 c
 refine⟨by simpa using I.len,I.base,I.sl,λi x h hx b hb=>I.new i x (at_ (no hx) h).2 hx b hb,λi k x y h1 h2 h3 h4 b h5 h6=>I.inj i k x y (at_ (no h3) h1).2 (at_ (no h4) h2).2 h3 h4 b h5 h6,λi ds h=>?_,λi d h=>?_,λi d h=>?_,λi t h=>?_⟩
 ·obtain ⟨c,h⟩:=at_ (λe=>by cases e) h
  obtain ⟨p,o',a,xs,b,r⟩:=I.own i ds h;exact⟨p,o',by rw[sg c];exact a,xs,b,r.mono g⟩
 ·obtain ⟨c,h⟩:=at_ (λe=>by cases e) h
  obtain ⟨u,a,b⟩:=I.val i d h;exact⟨u,by rw[sg c];exact a,b.mono g⟩
 ·obtain ⟨c,h⟩:=at_ (λe=>by cases e) h
  obtain ⟨u,a,b⟩:=I.bor i d h;exact⟨u,by rw[sg c];exact a,b⟩
 ·obtain ⟨c,h⟩:=at_ (λe=>by cases e) h
  obtain ⟨n,u,a,b⟩:=I.tr i t h;exact⟨n,u,by rw[sg c];exact a,b.mono g (L2.Same.rf _)⟩
end
end LV
namespace L2
open PySem PySem.Spec PyProof.Rows
abbrev KT (H:Hp):List (List Key×V)->List (List Key×Addr×Value)->Prop:=Paired λp q=>p.1=q.1/\H q.2.1=some (.tup (p.1.map kV))/\RelV p.2 q.2.2
abbrev VV:List (V×V)->List (Value×Value)->Prop:=Paired λp q=>RelV p.1 q.1/\RelV p.2 q.2
abbrev KvR:List (List Int×Addr×V)->List (List Int×Addr×Value)->Prop:=Paired (λp q=>p.1=q.1/\p.2.1=q.2.1/\RelV p.2.2 q.2.2)
end L2
namespace LV
open PySem L2
end LV
namespace L2
open PySem PySem.Spec PyProof.Rows
end L2
namespace LV
open PySem L2
end LV
namespace PySem
open PySem.Spec PyProof.Rows PySem.W
end PySem
namespace L2
open PySem PySem.Spec PyProof.Rows PySem.W
end L2
namespace PySem
open PySem.Spec PyProof.Rows
end PySem
namespace L2
open PySem PySem.Spec PyProof.Rows PySem.W
end L2
namespace LV
open PySem L2
end LV
namespace L2
open PySem PySem.Spec PyProof.Rows
end L2
namespace LV
open PySem PyProof.Rows L2
end LV
namespace L2
open PySem PySem.Spec PyProof.Rows
end L2
namespace LV
open PySem PySem.Spec PyProof.Rows L2
end LV
namespace PySem
open PySem.Spec PyProof.Rows PySem.W
end PySem
namespace L2
open PySem PySem.Spec PyProof.Rows PySem.W
end L2
namespace LV
open PySem L2
end LV
namespace LV
open PySem PySem.Spec PySem.Calls PySem.W PyProof.Rows L2 Att
end LV
namespace L2
open PySem PySem.Spec PySem.W PyProof.Rows
end L2
namespace L2
open PySem PySem.Spec PyProof.Rows
theorem bZ4 {P:Program}{w:World}{X:Cx}:aB0 (CXd P w) X E0:=λ_ _ _ _ _ _ _ h=>by
 obtain ⟨_,_,_,_,_,_,_,_,_,_,_,z⟩:=h;exact z.elim
section
variable {X:Cx}{f:Str}{ta tv:TE}{e:Expr}{pos:Pos}
def tXn (K:PySem.W.Frag)(ta:TE)(f:Str):TE:=λσ H Q=>ta σ H λx H1=>∃a C dx fs v,x=.ref a/\H1 a=some (p9 a C (some dx))/\H1 dx=some (.xd fs)/\bV7 K C/\PySem.W.hasDictIn K C=true/\PySem.W.findIn K (.ref C) f=some none/\fs.lookup f=some v/\Q v H1
theorem dF2 (K:PySem.W.Frag)(he:PE X e ta)(hb:attributeBase e f X.env (eval e X.env)=eval e X.env:=by rfl)(hK:X.K=K:=by rfl):PE X (.Attribute e f pos) (tXn K ta f):=by
 subst hK;refine⟨?_⟩;intro pins s σ H Q I h;refine bO8 hb (thn (he pins s σ H _ I h) λu s1 ⟨x,H1,I1,rx,a,C,dx,fs,v,ex,ea,ed,c,hd,n,l,q⟩=>?_)
 subst ex;obtain rfl:u=Value.ref a:=rx;obtain ⟨t0,sl,g1⟩:=(I1.hok a _ ea).1;obtain ⟨mA,ns,rel⟩:∃mA,s1.heap.Ns1 dx mA/\∀f,RelO (fs.lookup f) (mA f):=I1.hok dx _ ed;obtain ⟨od,ho,hl⟩:=aU7 ns;obtain ⟨u,hu,ru⟩:=RelO.some_of (v:=v) (o:=mA f) (by rw[<- l];exact rel f)
 have J:PySem.W.InstAt s1.heap a _ C (some od):=⟨g1,rfl,rfl,ho⟩
 exact bR8 I1.kIn J c (PySem.W.findObj_own hd n rfl (by rw[hl,hu])) (aV9 ru) ⟨v,H1,I1.tok _,ru,q⟩
def cA4 (K:PySem.W.Frag)(xs:List V)(H:Hp)(Q:VK):Prop:=∃a C d y,xs=[.ref a,y]/\H a=some (excD a C d)/\XAt K C/\XCl K C/\((∃b,XIs K C y b/\Q (.bl b) H)\/∃p ys bs,y=.ref p/\SqT K H p ys/\cP5 K C ys bs/\Q (.bl (bs.any id)) H)
theorem p5 (K:PySem.W.Frag)(hK:X.K=K:=by rfl):W9 X (.builtin "isinstance") (cA4 K):=by
 subst hK;intro pins s σ H xs us Q I r h;obtain ⟨a,C,d,y,rfl,ha,XA,XC,h⟩:=h;obtain ⟨⟨o,vs,ho,hoc,_⟩,_,_⟩:=I.hok a _ ha;have hold:aL5 X.K a C s:=⟨I.kIn,o,ho,hoc⟩;cases r with
 | cons r1 r2=>
  cases r2 with
  | cons r3 r4=>
   cases r4;cases r1
   rcases h with ⟨b,hy,q⟩ | ⟨p,ys,bs,rfl,hp,hys,q⟩
   ·exact call_isinstance (S:=λ_ R s=>aL5 X.K a C s/\∀tk',R (.ok (.ret (.bool b))) {s with toks:=tk'}) (λ_ _ _ _ _ hs=>isinstance_outer (aI4 XA XC r3 hy _ _ _ _ _ _ _ hs) (by intro q;cases q)) ⟨hold,λtk'=>⟨.bl b,H,I.tok _,rfl,q⟩⟩
   ·cases r3
    obtain ⟨its,rv,tp,_⟩:=I.tuple hp;have hne:p≠C:=λz=>by
     subst z;have e1:=XC.cls;unfold PySem.W.clsIn at e1;split at e1
     ·rename_i c' d' cd' sl' ho';obtain ⟨ot,ht,_,n,htd⟩:=tp;rw[I.kIn _ _ ho']at ht;cases ht;cases htd
     ·cases e1
    exact call_isinstance (S:=λ_ R s=>(aL5 X.K a C s/\IsTup s.heap p its.toArray)/\∀tk',R (.ok (.ret (.bool (bs.any id)))) {s with toks:=tk'}) (λ_ _ _ _ _ hs=>isinstance_outer (bK8 hs.1.1 hs.1.2 hne (bH9 XA XC rv hys) λtk'=>hs.2 tk') (by intro q;cases q)) ⟨⟨hold,tp⟩,λtk'=>⟨.bl _,H,I.tok _,rfl,q⟩⟩
end
end L2
namespace LV
open PySem PySem.Spec PyProof.Rows L2
def bF5:PyData->Bool
 | .tuple ds=>ds.all λd=>(sV d).isSome
 | d=>(sV d).isSome
section
variable {K:PySem.W.Frag}{H:Hp}
theorem cI4 {d:PyData}{v:V}:sV d=some v->Rep K H v d:=λh=>by
 cases d <;> simp[sV]at h <;> subst h <;> constructor
theorem cV1 {d:PyData}{v:V}(r:Rep K H v d)(h:(sV d).isSome=true):sV d=some v:=by
 cases r <;> first | rfl | simp[sV]at h
theorem bP5:∀{ds:List PyData} {xs:List V},Reps K H xs ds->(ds.all λd=>(sV d).isSome)=true->xs.map some=ds.map sV
 | [],_,r,_=>by cases r;rfl
 | d::ds,_,r,h=>by
  rw[List.all_cons,Bool.and_eq_true]at h;cases r with
  | cons a b=>rw[Ac6,Ac6,bP5 b h.2,cV1 a h.1]
theorem bO3:∀{ds:List PyData} {xs:List V},xs.map some=ds.map sV->Reps K H xs ds
 | [],[],_=>.nil
 | [],_::_,h=>by simp at h
 | _::_,[],h=>by simp at h
 | d::ds,x::xs,h=>by
  simp only[Ac6,List.cons.injEq]at h;exact .cons (cI4 h.1.symm) (bO3 h.2)
theorem cP7 {d:PyData}{v:V}(r:Rep K H v d)(h:bF5 d=true):bH8 K H v d:=by
 cases r with
 | tup s rs=>exact⟨_,_,rfl,s,bP5 rs h⟩
 | _=>first | rfl | simp[bF5,sV]at h
theorem bG6 {d:PyData}{v:V}(r:bH8 K H v d):Rep K H v d:=by
 cases d with
 | tuple ds=>
  obtain ⟨a,xs,rfl,s,e⟩:=r;exact .tup s (bO3 e)
 | _=>exact cI4 r
theorem bY7 {H':Hp}(h:∀a xs,Rd H a (.tup xs)->Rd H' a (.tup xs)){d:PyData}{v:V}(r:bH8 K H v d):bH8 K H' v d:=by
 cases d with
 | tuple ds=>
  obtain ⟨a,xs,e1,s,e⟩:=r;exact⟨a,xs,e1,s.imp (h _ _) id,e⟩
 | _=>exact r
theorem cM7 {H':Hp}(h:∀a xs,Rd H a (.tup xs)->Rd H' a (.tup xs)){vs:List (Str×V)}{fs:List (Str×PyData)}(r:FdF K H vs fs):FdF K H' vs fs:=by
 unfold FdF at *;induction r with
 | nil=>exact .nil
 | cons a _ ih=>exact .cons ⟨a.1,bY7 h a.2⟩ ih
theorem bG0 {vs:List (Str×V)}{fs:List (Str×PyData)}{f:Str}{d:PyData}(r:FdF K H vs fs)(h:fs.lookup f=some d):∃v,vs.lookup f=some v/\bH8 K H v d:=by
 unfold FdF at r;induction r with
 | nil=>cases h
 | @cons p q ps qs a _ ih=>
  obtain ⟨p1,p2⟩:=p;obtain ⟨q1,q2⟩:=q;obtain ⟨e,r⟩:=a;dsimp only at e r;subst e;by_cases c:f=p1
  ·subst c;simp only[List.lookup_cons,beq_self_eq_true]at h ⊢;cases h;exact⟨_,rfl,r⟩
  ·have hq:(f==p1)=false:=by simpa using c
   simp only[List.lookup_cons,hq]at h ⊢;exact ih h
theorem bR1:∀{ds:List PyData},(ds.all λd=>(sV d).isSome)=true->M2 ds=true
 | [],_=>rfl
 | d::ds,h=>by
  rw[List.all_cons,Bool.and_eq_true]at h;have h1:imm d=true:=by cases d <;> first | rfl | simp[sV]at h
  simp only[M2,h1,bR1 h.2,Bool.and_self]
theorem cB2:∀{d:PyData},bF5 d=true->imm d=true
 | .none,_ | .bool _,_ | .int _,_ | .str _,_=>rfl
 | .list _,h | .dict _,h=>by simp[bF5,sV]at h
 | .tuple ds,h=>bR1 h
theorem bJ9 {C:Addr}{fs:List (Str×PyData)}{v:V}(r:Rep K H v (xfD C fs)):∃a dd vs,v=.ref a/\H a=some (excD a C dd)/\XdA H vs dd/\FdF K H vs fs:=by
 unfold xfD at r;generalize hfs:(fs.map λx=>((PyData.str x.1,x.2):PyData×PyData))=L at r
 cases r with
 | dic _ _ z=>exact absurd z (by rename_i kvs;cases kvs <;> simp[cV3])
 | @exd a _ dd vs fs' e x r=>
  have efs:fs'=fs:=by
   have inj:∀(u v:List (Str×PyData)),(u.map λx=>((PyData.str x.1,x.2):PyData×PyData))=(v.map λx=>(PyData.str x.1,x.2))->u=v:=λu=>by
    induction u with
    | nil=>intro v h;cases v <;> simp at h ⊢
    | cons c u ih=>
     intro v h;cases v with
     | nil=>simp at h
     | cons c' v=>
      simp only[Ac6,List.cons.injEq,Prod.mk.injEq,PyData.str.injEq]at h;rw[ih v h.2,Prod.ext h.1.1 h.1.2]
   exact inj _ _ hfs.symm
  subst efs;exact⟨a,dd,vs,rfl,e,x,r⟩
end
section
variable {K:PySem.W.Frag}{B:Hp}{ρ ρ':List Sl}{m:Bool}{t:TA}{ta tb:TE}{d d':PyData}{ds es:List PyData}
def spF (K:PySem.W.Frag)(pre:List PyData->PyData->Prop)(preX:List PyData->Addr->List (Str×PyData)->Prop):Sp:=λvs H Q E=>
 ∃ds S,(∀b,S b->∃u:HM,H b=some u.ho)/\Reps K (hid S H) vs ds/\((∃d,pre ds d/\∀v H',Same H H'->Rep K (hid S H') v d->Q v H')\/∃(C:Addr) (fs:List (Str×PyData)),preX ds C fs/\∀(H':Hp) (dd:Option Addr) (vs:List (Str×V)),Same H H'->XdA H' vs dd->FdF K H' vs fs->E (.ref C) dd H')
theorem cG9 {pre:List PyData->PyData->Prop}{preX:List PyData->Addr->List (Str×PyData)->Prop}{n:Nat}(h:∀ds d,pre ds d->ds.length=n)(h':∀ds C fs,preX ds C fs->ds.length=n):∀vs H Q E,spF K pre preX vs H Q E->vs.length=n:=by
 rintro vs H Q E ⟨ds,S,_,r,z⟩;rw[r.length];rcases z with ⟨d,p,_⟩ | ⟨C,fs,p,_⟩
 ·exact h ds d p
 ·exact h' ds C fs p
theorem cL6 {pre:List PyData->PyData->Prop}{preX:List PyData->Addr->List (Str×PyData)->Prop}{EX:XK}(ha:A K true t ρ ds)(hp:pre ds d):E K m (aR7 (spF K pre preX) [] t EX) ρ d:=E.bor λS B σ H o I Q q=>ha S B σ H o I _ λvs H1 s1 r=>
 ⟨ds,C8 ρ o S,(I.grow s1).lists,by rw[List.append_nil];exact r,.inl ⟨d,hp,λv H' s' r'=>q v H' (L2.Same.tr s1 s') r'⟩⟩
theorem bG2 {pre:List PyData->PyData->Prop}{preX:List PyData->Addr->List (Str×PyData)->Prop}{EX:XK}(ha:A K true t ρ ds)(hp:pre ds d):E K m (aL3 (spF K pre preX) [] EX t) ρ d:=cL6 (EX:=EX) ha hp
theorem cO7 {S:Addr->Prop}{H:Hp}{σ:L2.St}{o:Nat->List Addr}{x C:Addr}{dd:Option Addr}{vs:List (Str×V)}{fs:List (Str×PyData)}(I:Env K S B H σ ρ o)(hx:H x=some (L2.excD x C dd))(xa:XdA H vs dd)(fd:FdF K H vs fs):Rep K (hid (C8 ρ o S) H) (.ref x) (xfD C fs):=by
 refine .exd (d:=dd) (vs:=vs) (hid_some.mpr ⟨λz=>?_,hx⟩) ?_ (cM7 (λ_ _ q=>u9 I.lists q) fd)
 ·obtain ⟨u,e⟩:=I.lists x z;rw[hx]at e;exact HM.nd (Ab4 e).symm
 ·cases dd with
  | none=>exact xa
  | some dx=>
   refine hid_some.mpr ⟨λz=>?_,xa⟩
   obtain ⟨u,e⟩:=I.lists dx z;have xa:H dx=some (.xd vs):=xa;rw[xa]at e;cases u <;> cases e
theorem bX7 {pre:List PyData->PyData->Prop}{preX:List PyData->Addr->List (Str×PyData)->Prop}{TB C:Addr}{fs:List (Str×PyData)}{j:Nat}{th:TS}{R:AE}(ha:A K true t ρ ds)(hp:preX ds C fs)(hC:aY8 K C)(hs:L2.subIn K C (.ref TB)=true)
  (hh:W K th (ρ.set j (.val (xfD C fs))) {nx:=λρ'=>R.nx (ρ'.set j .no)}) {S:Addr->Prop} {B:Hp} {D:aM0} {σ:L2.St} {H:Hp} {o:Nat->List Addr} (I:Env K S B H σ ρ o) (sa:Sat K S B R D) {Q:VK} :
  aR7 (spF K pre preX) [] t (λcls d H1=>∃C,cls=.ref C/\aY8 K C/\L2.subIn K C (.ref TB)=true/\∀x,H1 x=none->th {nx:=λσ' H'=>D.nx (σ'.set j none) H',rt:=λ_ _=>False} (σ.set j (some (.ref x))) (upd H1 x (excD x C d))) σ H Q:=
 ha S B σ H o I _ λvs H1 s1 r=>⟨ds,C8 ρ o S,(I.grow s1).lists,by rw[List.append_nil];exact r,.inr ⟨C,fs,hp,λH2 dd ws s2 xa fd=>⟨C,rfl,hC,hs,λx hx=>by
  have g:=E6 (o:=excD x C dd) hx
  have I2:=(I.grow (L2.Same.tr s1 s2)).grow g
  have I3:=I2.set (m:=true) j (d:=xfD C fs) (cO7 I2 B7 (bE4 g xa) (r6 g fd))
  exact hh S B _ _ _ o I3 ⟨λρ' σ' H' o' I' w=>sa.nx _ _ H' o' (I'.unset j) w,λ_ _ _ _ _ z=>z.elim,λ_ _ _ _ _ _ _ _ z=>z.elim,λ_ _ _ _ _ z=>z.elim,λ_ _ _ _ _ z=>z.elim⟩⟩⟩⟩
theorem bN2 {pre:List PyData->PyData->Prop}{preX:List PyData->Addr->List (Str×PyData)->Prop}{TB C:Addr}{fs:List (Str×PyData)}{i j:Nat}{th:TS}{R:AE}(ha:A K true t ρ ds)(hp:preX ds C fs)(hC:aY8 K C)(hs:L2.subIn K C (.ref TB)=true)
  (hh:W K th (ρ.set j (.val (xfD C fs))) {nx:=λρ'=>R.nx (ρ'.set j .no)}):W K (cU3 K TB (λEX=>aM8 (aR7 (spF K pre preX) [] t EX) (U1 i)) j th) ρ R:=λS B D σ H o I s=>bX7 (R:=R) ha hp hC hs hh I s
theorem bN3 {y:V}{C:Addr}{fs:List (Str×PyData)}{b:Bool}(ha:E K false ta ρ (xfD C fs))(XA:XAt K C)(XC:XCl K C)(hy:XIs K C y b):E K m (tCB (cA4 K) (N0 ta (N0 (tC y) p8))) ρ (.bool b):=E.bor (E.imm (m:=false) λS B σ H o I Q q=>ha S B σ H o I _ λv H1 s1 r=>by
 obtain ⟨a,dd,vs,rfl,e,x,r⟩:=bJ9 r;exact⟨_,C,_,y,rfl,e,XA,XC,.inl ⟨b,hy,q _ H1 s1 (.bl _)⟩⟩)
theorem bQ9 {tc:TA}{ys:List V}{bs:List Bool}{C:Addr}{fs:List (Str×PyData)}(ha:E K false ta ρ (xfD C fs))(XA:XAt K C)(XC:XCl K C)(hc:∀(σ:L2.St) (H:Hp) (Q:List V->Hp->Prop),Q ys H->tc σ H Q)(hy:cP5 K C ys bs)(hl:ys.length<=sizeLine:=by decide):E K m (tCB (cA4 K) (N0 ta (N0 (bJ5 tc) p8))) ρ (.bool (bs.any id)):=E.bor (E.imm (m:=false) λS B σ H o I Q q=>ha S B σ H o I _ λv H1 s1 r=>by
 obtain ⟨a,dd,vs,rfl,e,x,r⟩:=bJ9 r;refine hc _ _ _ ⟨hl,λp hp=>?_⟩
 have g:=E6 (o:=.tup ys) hp
 exact⟨_,C,_,_,rfl,g _ _ e,XA,XC,.inr ⟨p,ys,bs,rfl,SqT.of B7,hy,q _ _ (L2.Same.tr s1 g) (.bl _)⟩⟩)
theorem dH3 {C:Addr}{fs:List (Str×PyData)}{f:Str}(ha:E K false ta ρ (xfD C fs))(xg:bV7 K C)(hd:PySem.W.hasDictIn K C=true)(hf:PySem.W.findIn K (.ref C) f=some none)(hl:fs.lookup f=some d)(hi:imm d=true:=by rfl):E K m (tXf K ta f) ρ d:=E.bor (E.imm (m:=false) (λS B σ H o I Q q=>ha S B σ H o I _ λv H1 s1 r=>by
 obtain ⟨a,dd,vs,rfl,e,x,r⟩:=bJ9 r;obtain ⟨u,h1,h2⟩:=bG0 r hl;cases dd with
 | none=>
  have x:vs=[]:=x
  rw[x]at h1;cases h1
 | some dx=>exact⟨a,C,dx,vs,u,rfl,e,x,xg,hd,hf,h1,q u H1 s1 (bG6 h2)⟩) hi)
def cZ9 (C:Addr)(nms:List Str):Sp:=λvs H Q _=>∃x xs,vs=.ref x::xs/\xs.length=nms.length/\H x=some (p9 x C none)/\∀dx H2,H dx=none->dx≠x->H2 x=some (p9 x C (some dx))->H2 dx=some (.xd (nms.zip xs))->(∀b,b≠x->b≠dx->H2 b=H b)->Q .non H2
theorem bA7 {H:Hp}:∀{nms:List Str} {xs:List V} {ds:List PyData},xs.length=nms.length->Reps K H xs ds->(∀d∈ds,bF5 d=true)->FdF K H (nms.zip xs) (nms.zip ds)
 | [],_,_,_,_,_=>by simp[FdF];exact .nil
 | n::nms,[],_,h,_,_=>by simp at h
 | n::nms,x::xs,_,h,r,ha=>by
  cases r with
  | cons a b=>
   rw[List.zip_cons_cons,List.zip_cons_cons];exact .cons ⟨rfl,cP7 a (ha _ (by simp))⟩ (bA7 (by simpa using h) b λd hd=>ha d (by simp[hd]))
theorem bT9 {C:Addr}{nms:List Str}{E':XK}{EX:Addr->Hp->Prop}{R:AE}(ha:A K true t ρ ds)(hl:ds.length=nms.length)(hk:∀d∈ds,bF5 d=true)(h3:ds.length<=1000)(hE:∀(H':Hp) (dx:Addr) (vs:List (Str×V)),Same B H'->H' dx=some (.xd vs)->FdF K H' vs (nms.zip ds)->EX dx H') :
  WB K B (bS3 C (cZ9 C nms) [] E' EX t) ρ R:=λS D σ H o I s=>
 ha S B σ H o I _ λvs H1 s1 r=>by
  have hvl:vs.length=nms.length:=by rw[r.length];exact hl
  refine⟨by rw[hvl,<- hl];exact h3,λx hx=>⟨x,vs,by rw[List.append_nil],hvl,B7,λdx H2 hdx hne e1 e2 kp=>⟨rfl,x,dx,rfl,e1,?_⟩⟩⟩
  have hdx1:H1 dx=none:=by rw[B1 hne]at hdx;exact hdx
  have sm:Same H1 (drp H2 x):=λb u e=>by
   have h1:b≠x:=λz=>by rw[z,hx]at e;cases e
   have h2:b≠dx:=λz=>by rw[z,hdx1]at e;cases e
   rw[aR2 h1,kp b h1 h2,B1 h1];exact e
  exact hE _ dx _ (L2.Same.tr (I.grow s1).base sm) (by rw[aR2 hne];exact e2) (r6 sm (r6 X6 (bA7 hvl r hk)))
theorem dH1 {C:Addr}{nms:List Str}{E':XK}{f:Str}(ha:A K true t ρ ds)(hl:ds.length=nms.length)(hk:∀d∈ds,bF5 d=true)(h3:ds.length<=1000)(xg:bV7 K C)(hd:PySem.W.hasDictIn K C=true)(hf:PySem.W.findIn K (.ref C) f=some none)(hlo:(nms.zip ds).lookup f=some d)(hi:imm d=true) :
  E K m (tXn K (cU5 C (cZ9 C nms) [] E' t) f) ρ d:=E.bor (E.imm (m:=false) (λS B σ H o I Q q=>ha S B σ H o I _ λvs H1 s1 r=>by
  have hvl:vs.length=nms.length:=by rw[r.length];exact hl
  refine⟨by rw[hvl,<- hl];exact h3,λx hx=>⟨x,vs,by rw[List.append_nil],hvl,B7,λdx H2 hdx hne e1 e2 kp=>⟨rfl,?_⟩⟩⟩
  have hdx1:H1 dx=none:=by rw[B1 hne]at hdx;exact hdx
  have sm:Same H1 H2:=λb u e=>by
   have h1:b≠x:=λz=>by rw[z,hx]at e;cases e
   have h2:b≠dx:=λz=>by rw[z,hdx1]at e;cases e
   rw[kp b h1 h2,B1 h1];exact e
  have fd:=r6 sm (r6 X6 (bA7 hvl r hk))
  obtain ⟨u,h1,h2⟩:=bG0 fd hlo;exact⟨x,C,dx,_,u,rfl,e1,e2,xg,hd,hf,h1,q u H2 (L2.Same.tr s1 sm) (bG6 h2)⟩) hi)
end
end LV
namespace L2
open PySem PySem.Spec PyProof.Rows
structure dD9 (K:PySem.W.Frag)(C f:Addr):Prop where
 mke:XMk K C f
 ek:aY8 K C
 cl:∃cd,cV0 K C cd
 gt:bV7 K C
 hd:PySem.W.hasDictIn K C=true
 kp:PySem.W.keepIn K (.ref C)=true
section
variable {K:PySem.W.Frag}{C TB f N:Addr}{nm qn:Str}{bs:List Value}{hdct:Bool}{sn:List Str}{sub:List Value}{ab:Bool}{col:Option Bool}{dd:Option Addr}{k0 k1 k2 k3 k5:Option Value}{oI:Obj}
theorem cX2 (hf:K.lookup f=some oI)(hi:PySem.W.isFn K (.ref f)=true):oI.cls=.type "function" := by
 have hi:(Option.map (λx:Obj=>x.cls) (K.lookup f)==some (.type "function"))=true:=hi
 rw[hf]at hi
 have:=beq_iff_eq.mp hi
 exact Ab4 this
theorem cK3 (ho:K.lookup C=some (excClassObj nm qn C N bs (.ref TB::bmV) hdct sn sub ab col dd k0 k1 k2 k3 k5 "ValueError.__new__"))(hT:PySem.W.excIn K TB bmV "ValueError.__new__" = true)(hN:PySem.W.nsOkIn K N=true)(hi:PySem.W.nsIn K N "__init__" = some (some (.ref f)))
  (hf:K.lookup f=some oI) (hfi:PySem.W.isFn K (.ref f)=true) (mo:PySem.W.mroIn K C (.type "object")=some true) (hd:PySem.W.hasDictIn K C=true) (sa:PySem.W.findIn K (.ref C) "__setattr__" = some (some (.builtin "object.__setattr__")))
  (ga:PySem.W.findIn K (.ref C) "__getattribute__" = some (some (.builtin "BaseException.__getattribute__"))) (gt:PySem.W.findIn K (.ref C) "__getattr__" = some none) (up:PySem.W.mroIn K C (.type "BaseException")=some true) (kp:PySem.W.keepIn K (.ref C)=true):dD9 K C f:=by
 refine⟨cW0 ho hT hN hi hf (cX2 hf hfi),cZ8 ho hT,?_,⟨ga,gt,up⟩,hd,kp⟩;obtain ⟨cd,e⟩:∃cd,PySem.W.clsIn K C=some cd:=by
  unfold PySem.W.hasDictIn at hd;cases h:PySem.W.clsIn K C with
  | none=>rw[h]at hd;cases hd
  | some cd=>exact⟨cd,rfl⟩
 refine⟨cd,e,λself=>?_,mo,?_,sa⟩
 ·have e2:=e
  unfold PySem.W.clsIn at e2;rw[ho]at e2;cases e2;exact bM5 self
 ·unfold PySem.W.hasDictIn at hd;rw[e]at hd;exact hd
end
end L2
set_option maxHeartbeats 4000000
namespace K12
open PySem L2 LV PyProof.Rows
theorem aA4 {K:PySem.W.Frag}{pre:List PyData->PyData->Prop}{n:Nat}(h:∀ds d,pre ds d->ds.length=n):∀vs H Q E,spV K pre vs H Q E->vs.length=n:=λvs H Q E ⟨ds,S,d,_,r,p,_⟩=>by
 have e:=r.length
 rw[e];exact h ds d p
@[elab_as_elim] theorem us1 {M:List Value->Prop} {us:List Value} (hl:us.length=1) (h:∀a0,M [a0]):M us:=by match us,hl with | [a0],_=>exact h _
@[elab_as_elim] theorem us2 {M:List Value->Prop} {us:List Value} (hl:us.length=2) (h:∀a0 a1,M [a0,a1]):M us:=by match us,hl with | [a0,a1],_=>exact h _ _
@[elab_as_elim] theorem us3 {M:List Value->Prop} {us:List Value} (hl:us.length=3) (h:∀a0 a1 a2,M [a0,a1,a2]):M us:=by match us,hl with | [a0,a1,a2],_=>exact h _ _ _
def top (i:Nat):Stmt:=PySem.Challenge.pw_threetrees_k12_arrows_taken.main.body.getD i (.Pass ⟨0,0,0,0⟩)
abbrev aJ7:Stmt:=top 16
abbrev O2:Stmt:=top 17
abbrev M3:Stmt:=top 20
abbrev K9:Stmt:=top 21
abbrev T9:Stmt:=top 22
abbrev P8:Stmt:=top 23
abbrev U0:Stmt:=top 24
abbrev O7:Stmt:=top 26
abbrev S4:Stmt:=top 27
abbrev R8:Stmt:=top 28
abbrev R5:Stmt:=top 29
abbrev R4:Stmt:=top 30
abbrev S3:Stmt:=top 31
abbrev P9:Stmt:=top 32
abbrev R7:Stmt:=top 33
abbrev M7:Stmt:=top 34
abbrev R6:Stmt:=top 35
abbrev M4:Stmt:=top 36
abbrev P6:Stmt:=top 37
abbrev O5:Stmt:=top 38
abbrev aV2:Stmt:=top 39
abbrev M5:Stmt:=cQ9 (top 6) 0
set_option genInjectivity false in
structure Ad where
 bM1:Addr
 bK0:FuncData
 Z6:Addr
 d8:FuncData
 X9:Addr
 Y3:FuncData
 W0:Addr
 V7:FuncData
 aB9:Addr
 aB3:FuncData
 j8:Addr
 m8:FuncData
 aA5:Addr
 aB2:FuncData
 d5:Addr
 Z0:FuncData
 w6:Addr
 v8:FuncData
 y7:Addr
 y9:FuncData
 u5:Addr
 t7:FuncData
 w4:Addr
 v9:FuncData
 t4:Addr
 u7:FuncData
 o8:Addr
 m5:FuncData
 t9:Addr
 y6:FuncData
 Y4:Addr
 Y0:FuncData
 w5:Addr
 y0:FuncData
 X7:Addr
 Y1:FuncData
 m3:Addr
 m9:FuncData
 Z4:Addr
 Z1:FuncData
 bJ0:Addr
 aU3:FuncData
 C3:Addr
 K6:Addr
 S7:Addr
 S8:Addr
 m6:Addr
 A4:Addr
 P2:Addr
 M6:Addr
 T3:Addr
 P3:Addr
 K7:Addr
 O6:Addr
 C7:Addr
 E5:Addr
 X8:FuncData
set_option genInjectivity false in
structure Tx (K:PySem.W.Frag)(mg:Str->Option Value)(a:Ad):Prop where
 cF4:Fun K "tied" "tied" aJ7 a.bM1 a.bK0
 cV5:mg "tied" = some (.ref a.bM1)
 cZ2:Binds K a.bK0 ["drawing", "p", "q"] []
 aB8:Fun K "is_inner_tie" "is_inner_tie" O2 a.Z6 a.d8
 aS3:mg "is_inner_tie" = some (.ref a.Z6)
 aS5:Binds K a.d8 ["drawing", "p", "q"] []
 aA3:Fun K "is_told_ahead" "is_told_ahead" M3 a.X9 a.Y3
 aM5:mg "is_told_ahead" = some (.ref a.X9)
 aL8:Binds K a.Y3 ["pairs", "k"] []
 W5:Fun K "fault_of_pairs" "fault_of_pairs" K9 a.W0 a.V7
 q9:mg "fault_of_pairs" = some (.ref a.W0)
 q8:Binds K a.V7 ["drawing", "pairs"] []
 aB7:Fun K "as_tuples" "as_tuples" T9 a.aB9 a.aB3
 aL2:mg "as_tuples" = some (.ref a.aB9)
 aL1:Binds K a.aB3 ["pairs"] []
 j9:Fun K "arrow_fault" "arrow_fault" P8 a.j8 a.m8
 aE0:mg "arrow_fault" = some (.ref a.j8)
 aE2:Binds K a.m8 ["drawing", "pairs"] []
 i6:Fun K "arrows_by" "arrows_by" U0 a.aA5 a.aB2
 aC2:mg "arrows_by" = some (.ref a.aA5)
 aC0:Binds K a.aB2 ["drawing", "pairs"] []
 O8:Fun K "_law_cell_at" "_law_cell_at" O7 a.d5 a.Z0
 Q5:mg "_law_cell_at" = some (.ref a.d5)
 Q9:Binds K a.Z0 ["_law_script", "_law_k"] []
 U4:Fun K "_law_mixed" "_law_mixed" S4 a.w6 a.v8
 Y8:mg "_law_mixed" = some (.ref a.w6)
 Y7:Binds K a.v8 ["_law_cell", "_law_k"] []
 aH0:Fun K "_law_names" "_law_names" R8 a.y7 a.y9
 bA0:mg "_law_names" = some (.ref a.y7)
 aZ2:Binds K a.y9 ["_law_cell", "_law_m"] []
 aI0:Fun K "_law_grown" "_law_grown" R5 a.u5 a.t7
 aY1:mg "_law_grown" = some (.ref a.u5)
 bA9:Binds K a.t7 ["_law_first", "_law_second"] []
 aG4:Fun K "_law_begun" "_law_begun" R4 a.w4 a.v9
 aX8:mg "_law_begun" = some (.ref a.w4)
 bC3:Binds K a.v9 ["_law_turn"] []
 aG0:Fun K "_law_built" "_law_built" S3 a.t4 a.u7
 bC6:mg "_law_built" = some (.ref a.t4)
 bA8:Binds K a.u7 ["_law_cell", "_law_cells", "_law_m"] []
 aE5:Fun K "_law_arrows" "_law_arrows" P9 a.o8 a.m5
 aU0:mg "_law_arrows" = some (.ref a.o8)
 aT1:Binds K a.m5 ["_law_outs"] []
 aG8:Fun K "_law_whole" "_law_whole" R7 a.t9 a.y6
 aZ3:mg "_law_whole" = some (.ref a.t9)
 aY7:Binds K a.y6 ["_law_found"] []
 Y2:Fun K "_law_is_pairs" "_law_is_pairs" M7 a.Y4 a.Y0
 aA2:mg "_law_is_pairs" = some (.ref a.Y4)
 aA1:Binds K a.Y0 ["_law_found", "_law_due"] []
 aI8:Fun K "_law_kinds" "_law_kinds" R6 a.w5 a.y0
 aZ5:mg "_law_kinds" = some (.ref a.w5)
 bC8:Binds K a.y0 ["_law_error"] []
 aA0:Fun K "_law_shuffled" "_law_shuffled" M4 a.X7 a.Y1
 aM1:mg "_law_shuffled" = some (.ref a.X7)
 aM2:Binds K a.Y1 ["_law_things", "_law_cell"] []
 aE4:Fun K "_law_spoilt" "_law_spoilt" P6 a.m3 a.m9
 aT0:mg "_law_spoilt" = some (.ref a.m3)
 aS9:Binds K a.m9 ["_law_pairs", "_law_cell"] []
 aB5:Fun K "_law_refused" "_law_refused" O5 a.Z4 a.Z1
 aR5:mg "_law_refused" = some (.ref a.Z4)
 aQ0:Binds K a.Z1 ["_law_turns", "_law_pairs"] []
 dC0:Fun K "law" "law" aV2 a.bJ0 a.aU3
 dC1:mg "law" = some (.ref a.bJ0)
 dI4:Binds K a.aU3 ["_law_script"] []
 U5:mg "ValueError" = none
 bJ4:mg "all" = none
 aP3:mg "bool" = none
 X0:mg "enumerate" = none
 bG5:mg "int" = none
 D8:mg "isinstance" = none
 V4:mg "len" = none
 Z9:mg "list" = none
 bD7:mg "max" = none
 bF0:mg "min" = none
 K5:mg "range" = none
 T5:mg "reversed" = none
 X5:mg "sorted" = none
 T4:mg "tuple" = none
 bH6:mg "zip" = none
 P5:∃t,mg "CORNERS" = some (.int 3 t)
 P1:∃t,mg "ARROWS_OUT" = some (.int 3 t)
 aH7:mg "TreesError" = some (.ref a.C3)
 cP2:XCl K a.C3
 bH0:mg "NoDrawing" = some (.ref a.K6)
 bE0:XCl K a.K6
 cH5:mg "NoRows" = some (.ref a.S7)
 cF8:XCl K a.S7
 cA1:mg "NoText" = some (.ref a.S8)
 bY6:XCl K a.S8
 cV7:mg "Tied" = some (.ref a.m6)
 dB1:XCl K a.m6
 aF3:mg "NoArrows" = some (.ref a.A4)
 V9:XCl K a.A4
 cJ7:mg "NoLand" = some (.ref a.P2)
 bZ8:XCl K a.P2
 bU0:mg "NoPlace" = some (.ref a.M6)
 bW9:XCl K a.M6
 cM0:mg "NoTie" = some (.ref a.T3)
 cN3:XCl K a.T3
 cF1:mg "NoRing" = some (.ref a.P3)
 cD1:XCl K a.P3
 bX0:mg "TooMany" = some (.ref a.K7)
 bW3:XCl K a.K7
 cC8:mg "NoLine" = some (.ref a.O6)
 cA9:XCl K a.O6
 aU2:mg "NothingDone" = some (.ref a.C7)
 aT9:XCl K a.C7
 S0:PySem.W.excIn K a.C3 bmV "ValueError.__new__" = true
 aI2:PySem.W.excIn K a.P2 bmV "ValueError.__new__" = true
 aD0:PySem.W.excIn K a.M6 bmV "ValueError.__new__" = true
 aN4:PySem.W.excIn K a.T3 bmV "ValueError.__new__" = true
 aI9:PySem.W.excIn K a.P3 bmV "ValueError.__new__" = true
 aC6:PySem.W.excIn K a.K7 bmV "ValueError.__new__" = true
 aG9:PySem.W.excIn K a.O6 bmV "ValueError.__new__" = true
 W8:PySem.W.excIn K a.C7 bmV "ValueError.__new__" = true
 d7:XAt K a.A4
 G3:PySem.W.subIn K (.ref a.A4) (.ref a.C3)=some true
 G9:PySem.W.subIn K (.ref a.A4) (.ref a.K6)=some false
 N4:PySem.W.subIn K (.ref a.A4) (.ref a.S7)=some false
 N3:PySem.W.subIn K (.ref a.A4) (.ref a.S8)=some false
 P4:PySem.W.subIn K (.ref a.A4) (.ref a.m6)=some false
 J9:PySem.W.subIn K (.ref a.A4) (.ref a.A4)=some true
 N6:PySem.W.subIn K (.ref a.A4) (.ref a.P2)=some false
 L5:PySem.W.subIn K (.ref a.A4) (.ref a.M6)=some false
 O4:PySem.W.subIn K (.ref a.A4) (.ref a.T3)=some false
 N5:PySem.W.subIn K (.ref a.A4) (.ref a.P3)=some false
 L4:PySem.W.subIn K (.ref a.A4) (.ref a.K7)=some false
 N7:PySem.W.subIn K (.ref a.A4) (.ref a.O6)=some false
 E7:PySem.W.subIn K (.ref a.A4) (.ref a.C7)=some false
 G5:PySem.W.subIn K (.ref a.A4) (.type "ValueError")=some true
 L6:dD9 K a.A4 a.E5
 J0:PySem.W.findIn K (.ref a.A4) "why" = some none
 aM3:Fun K "__init__" "NoArrows.__init__" M5 a.E5 a.X8
 z0:Binds K a.X8 ["self", "why"] []
 aS7:cG1 K a.C3 "ValueError.__init__"
theorem tx_mk {K:PySem.W.Frag}{h:Heap}{mg:Str->Option Value}{E5 f0 f1 f2 f3 f4 f5 f6 f7 f8 f9 f10 f11 f12 f13 f14 f15 f16 f17 f18 f19 f20 C3 K6 S7 S8 m6 A4 P2 M6 T3 P3 K7 O6 C7:Addr}(X:K.In h)(G:h.Ns mainGlobals mg)
  {od0 an0:Option Addr} {sl0:Array (Option Value)} {oc0 kV0 dc0 pm0 cd0 ct0:Value}
  (a0:PySem.W.nsIn K mainGlobals "tied" = some (some (.ref f0)))
  (l0:K.lookup f0=some ⟨oc0,od0,.func (PySem.W.fnOf "tied" "tied" (E1 aJ7) (D1 aJ7) (A8 aJ7) .none kV0 dc0 pm0 an0 cd0 ct0),sl0⟩)
  (c0:PySem.W.codeIn K cd0 "tied" = true) (k0:PySem.W.keepIn K (.ref f0)=true)
  {od1 an1:Option Addr} {sl1:Array (Option Value)} {oc1 kV1 dc1 pm1 cd1 ct1:Value}
  (a1:PySem.W.nsIn K mainGlobals "is_inner_tie" = some (some (.ref f1)))
  (l1:K.lookup f1=some ⟨oc1,od1,.func (PySem.W.fnOf "is_inner_tie" "is_inner_tie" (E1 O2) (D1 O2) (A8 O2) .none kV1 dc1 pm1 an1 cd1 ct1),sl1⟩)
  (c1:PySem.W.codeIn K cd1 "is_inner_tie" = true) (k1:PySem.W.keepIn K (.ref f1)=true)
  {od2 an2:Option Addr} {sl2:Array (Option Value)} {oc2 kV2 dc2 pm2 cd2 ct2:Value}
  (a2:PySem.W.nsIn K mainGlobals "is_told_ahead" = some (some (.ref f2)))
  (l2:K.lookup f2=some ⟨oc2,od2,.func (PySem.W.fnOf "is_told_ahead" "is_told_ahead" (E1 M3) (D1 M3) (A8 M3) .none kV2 dc2 pm2 an2 cd2 ct2),sl2⟩)
  (c2:PySem.W.codeIn K cd2 "is_told_ahead" = true) (k2:PySem.W.keepIn K (.ref f2)=true)
  {od3 an3:Option Addr} {sl3:Array (Option Value)} {oc3 kV3 dc3 pm3 cd3 ct3:Value}
  (a3:PySem.W.nsIn K mainGlobals "fault_of_pairs" = some (some (.ref f3)))
  (l3:K.lookup f3=some ⟨oc3,od3,.func (PySem.W.fnOf "fault_of_pairs" "fault_of_pairs" (E1 K9) (D1 K9) (A8 K9) .none kV3 dc3 pm3 an3 cd3 ct3),sl3⟩)
  (c3:PySem.W.codeIn K cd3 "fault_of_pairs" = true) (k3:PySem.W.keepIn K (.ref f3)=true)
  {od4 an4:Option Addr} {sl4:Array (Option Value)} {oc4 kV4 dc4 pm4 cd4 ct4:Value}
  (a4:PySem.W.nsIn K mainGlobals "as_tuples" = some (some (.ref f4)))
  (l4:K.lookup f4=some ⟨oc4,od4,.func (PySem.W.fnOf "as_tuples" "as_tuples" (E1 T9) (D1 T9) (A8 T9) .none kV4 dc4 pm4 an4 cd4 ct4),sl4⟩)
  (c4:PySem.W.codeIn K cd4 "as_tuples" = true) (k4:PySem.W.keepIn K (.ref f4)=true)
  {od5 an5:Option Addr} {sl5:Array (Option Value)} {oc5 kV5 dc5 pm5 cd5 ct5:Value}
  (a5:PySem.W.nsIn K mainGlobals "arrow_fault" = some (some (.ref f5)))
  (l5:K.lookup f5=some ⟨oc5,od5,.func (PySem.W.fnOf "arrow_fault" "arrow_fault" (E1 P8) (D1 P8) (A8 P8) .none kV5 dc5 pm5 an5 cd5 ct5),sl5⟩)
  (c5:PySem.W.codeIn K cd5 "arrow_fault" = true) (k5:PySem.W.keepIn K (.ref f5)=true)
  {od6 an6:Option Addr} {sl6:Array (Option Value)} {oc6 kV6 dc6 pm6 cd6 ct6:Value}
  (a6:PySem.W.nsIn K mainGlobals "arrows_by" = some (some (.ref f6)))
  (l6:K.lookup f6=some ⟨oc6,od6,.func (PySem.W.fnOf "arrows_by" "arrows_by" (E1 U0) (D1 U0) (A8 U0) .none kV6 dc6 pm6 an6 cd6 ct6),sl6⟩)
  (c6:PySem.W.codeIn K cd6 "arrows_by" = true) (k6:PySem.W.keepIn K (.ref f6)=true)
  {od7 an7:Option Addr} {sl7:Array (Option Value)} {oc7 kV7 dc7 pm7 cd7 ct7:Value}
  (a7:PySem.W.nsIn K mainGlobals "_law_cell_at" = some (some (.ref f7)))
  (l7:K.lookup f7=some ⟨oc7,od7,.func (PySem.W.fnOf "_law_cell_at" "_law_cell_at" (E1 O7) (D1 O7) (A8 O7) .none kV7 dc7 pm7 an7 cd7 ct7),sl7⟩)
  (c7:PySem.W.codeIn K cd7 "_law_cell_at" = true) (k7:PySem.W.keepIn K (.ref f7)=true)
  {od8 an8:Option Addr} {sl8:Array (Option Value)} {oc8 kV8 dc8 pm8 cd8 ct8:Value}
  (a8:PySem.W.nsIn K mainGlobals "_law_mixed" = some (some (.ref f8)))
  (l8:K.lookup f8=some ⟨oc8,od8,.func (PySem.W.fnOf "_law_mixed" "_law_mixed" (E1 S4) (D1 S4) (A8 S4) .none kV8 dc8 pm8 an8 cd8 ct8),sl8⟩)
  (c8:PySem.W.codeIn K cd8 "_law_mixed" = true) (k8:PySem.W.keepIn K (.ref f8)=true)
  {od9 an9:Option Addr} {sl9:Array (Option Value)} {oc9 kV9 dc9 pm9 cd9 ct9:Value}
  (a9:PySem.W.nsIn K mainGlobals "_law_names" = some (some (.ref f9)))
  (l9:K.lookup f9=some ⟨oc9,od9,.func (PySem.W.fnOf "_law_names" "_law_names" (E1 R8) (D1 R8) (A8 R8) .none kV9 dc9 pm9 an9 cd9 ct9),sl9⟩)
  (c9:PySem.W.codeIn K cd9 "_law_names" = true) (k9:PySem.W.keepIn K (.ref f9)=true)
  {od10 an10:Option Addr} {sl10:Array (Option Value)} {oc10 kV10 dc10 pm10 cd10 ct10:Value}
  (a10:PySem.W.nsIn K mainGlobals "_law_grown" = some (some (.ref f10)))
  (l10:K.lookup f10=some ⟨oc10,od10,.func (PySem.W.fnOf "_law_grown" "_law_grown" (E1 R5) (D1 R5) (A8 R5) .none kV10 dc10 pm10 an10 cd10 ct10),sl10⟩)
  (c10:PySem.W.codeIn K cd10 "_law_grown" = true) (k10:PySem.W.keepIn K (.ref f10)=true)
  {od11 an11:Option Addr} {sl11:Array (Option Value)} {oc11 kV11 dc11 pm11 cd11 ct11:Value}
  (a11:PySem.W.nsIn K mainGlobals "_law_begun" = some (some (.ref f11)))
  (l11:K.lookup f11=some ⟨oc11,od11,.func (PySem.W.fnOf "_law_begun" "_law_begun" (E1 R4) (D1 R4) (A8 R4) .none kV11 dc11 pm11 an11 cd11 ct11),sl11⟩)
  (c11:PySem.W.codeIn K cd11 "_law_begun" = true) (k11:PySem.W.keepIn K (.ref f11)=true)
  {od12 an12:Option Addr} {sl12:Array (Option Value)} {oc12 kV12 dc12 pm12 cd12 ct12:Value}
  (a12:PySem.W.nsIn K mainGlobals "_law_built" = some (some (.ref f12)))
  (l12:K.lookup f12=some ⟨oc12,od12,.func (PySem.W.fnOf "_law_built" "_law_built" (E1 S3) (D1 S3) (A8 S3) .none kV12 dc12 pm12 an12 cd12 ct12),sl12⟩)
  (c12:PySem.W.codeIn K cd12 "_law_built" = true) (k12:PySem.W.keepIn K (.ref f12)=true)
  {od13 an13:Option Addr} {sl13:Array (Option Value)} {oc13 kV13 dc13 pm13 cd13 ct13:Value}
  (a13:PySem.W.nsIn K mainGlobals "_law_arrows" = some (some (.ref f13)))
  (l13:K.lookup f13=some ⟨oc13,od13,.func (PySem.W.fnOf "_law_arrows" "_law_arrows" (E1 P9) (D1 P9) (A8 P9) .none kV13 dc13 pm13 an13 cd13 ct13),sl13⟩)
  (c13:PySem.W.codeIn K cd13 "_law_arrows" = true) (k13:PySem.W.keepIn K (.ref f13)=true)
  {od14 an14:Option Addr} {sl14:Array (Option Value)} {oc14 kV14 dc14 pm14 cd14 ct14:Value}
  (a14:PySem.W.nsIn K mainGlobals "_law_whole" = some (some (.ref f14)))
  (l14:K.lookup f14=some ⟨oc14,od14,.func (PySem.W.fnOf "_law_whole" "_law_whole" (E1 R7) (D1 R7) (A8 R7) .none kV14 dc14 pm14 an14 cd14 ct14),sl14⟩)
  (c14:PySem.W.codeIn K cd14 "_law_whole" = true) (k14:PySem.W.keepIn K (.ref f14)=true)
  {od15 an15:Option Addr} {sl15:Array (Option Value)} {oc15 kV15 dc15 pm15 cd15 ct15:Value}
  (a15:PySem.W.nsIn K mainGlobals "_law_is_pairs" = some (some (.ref f15)))
  (l15:K.lookup f15=some ⟨oc15,od15,.func (PySem.W.fnOf "_law_is_pairs" "_law_is_pairs" (E1 M7) (D1 M7) (A8 M7) .none kV15 dc15 pm15 an15 cd15 ct15),sl15⟩)
  (c15:PySem.W.codeIn K cd15 "_law_is_pairs" = true) (k15:PySem.W.keepIn K (.ref f15)=true)
  {od16 an16:Option Addr} {sl16:Array (Option Value)} {oc16 kV16 dc16 pm16 cd16 ct16:Value}
  (a16:PySem.W.nsIn K mainGlobals "_law_kinds" = some (some (.ref f16)))
  (l16:K.lookup f16=some ⟨oc16,od16,.func (PySem.W.fnOf "_law_kinds" "_law_kinds" (E1 R6) (D1 R6) (A8 R6) .none kV16 dc16 pm16 an16 cd16 ct16),sl16⟩)
  (c16:PySem.W.codeIn K cd16 "_law_kinds" = true) (k16:PySem.W.keepIn K (.ref f16)=true)
  {od17 an17:Option Addr} {sl17:Array (Option Value)} {oc17 kV17 dc17 pm17 cd17 ct17:Value}
  (a17:PySem.W.nsIn K mainGlobals "_law_shuffled" = some (some (.ref f17)))
  (l17:K.lookup f17=some ⟨oc17,od17,.func (PySem.W.fnOf "_law_shuffled" "_law_shuffled" (E1 M4) (D1 M4) (A8 M4) .none kV17 dc17 pm17 an17 cd17 ct17),sl17⟩)
  (c17:PySem.W.codeIn K cd17 "_law_shuffled" = true) (k17:PySem.W.keepIn K (.ref f17)=true)
  {od18 an18:Option Addr} {sl18:Array (Option Value)} {oc18 kV18 dc18 pm18 cd18 ct18:Value}
  (a18:PySem.W.nsIn K mainGlobals "_law_spoilt" = some (some (.ref f18)))
  (l18:K.lookup f18=some ⟨oc18,od18,.func (PySem.W.fnOf "_law_spoilt" "_law_spoilt" (E1 P6) (D1 P6) (A8 P6) .none kV18 dc18 pm18 an18 cd18 ct18),sl18⟩)
  (c18:PySem.W.codeIn K cd18 "_law_spoilt" = true) (k18:PySem.W.keepIn K (.ref f18)=true)
  {od19 an19:Option Addr} {sl19:Array (Option Value)} {oc19 kV19 dc19 pm19 cd19 ct19:Value}
  (a19:PySem.W.nsIn K mainGlobals "_law_refused" = some (some (.ref f19)))
  (l19:K.lookup f19=some ⟨oc19,od19,.func (PySem.W.fnOf "_law_refused" "_law_refused" (E1 O5) (D1 O5) (A8 O5) .none kV19 dc19 pm19 an19 cd19 ct19),sl19⟩)
  (c19:PySem.W.codeIn K cd19 "_law_refused" = true) (k19:PySem.W.keepIn K (.ref f19)=true)
  {od20 an20:Option Addr} {sl20:Array (Option Value)} {oc20 kV20 dc20 pm20 cd20 ct20:Value}
  (a20:PySem.W.nsIn K mainGlobals "law" = some (some (.ref f20)))
  (l20:K.lookup f20=some ⟨oc20,od20,.func (PySem.W.fnOf "law" "law" (E1 aV2) (D1 aV2) (A8 aV2) .none kV20 dc20 pm20 an20 cd20 ct20),sl20⟩)
  (c20:PySem.W.codeIn K cd20 "law" = true) (k20:PySem.W.keepIn K (.ref f20)=true)
  (U5:PySem.W.nsIn K mainGlobals "ValueError" = some none)
  (bJ4:PySem.W.nsIn K mainGlobals "all" = some none)
  (aP3:PySem.W.nsIn K mainGlobals "bool" = some none)
  (X0:PySem.W.nsIn K mainGlobals "enumerate" = some none)
  (bG5:PySem.W.nsIn K mainGlobals "int" = some none)
  (D8:PySem.W.nsIn K mainGlobals "isinstance" = some none)
  (V4:PySem.W.nsIn K mainGlobals "len" = some none)
  (Z9:PySem.W.nsIn K mainGlobals "list" = some none)
  (bD7:PySem.W.nsIn K mainGlobals "max" = some none)
  (bF0:PySem.W.nsIn K mainGlobals "min" = some none)
  (K5:PySem.W.nsIn K mainGlobals "range" = some none)
  (T5:PySem.W.nsIn K mainGlobals "reversed" = some none)
  (X5:PySem.W.nsIn K mainGlobals "sorted" = some none)
  (T4:PySem.W.nsIn K mainGlobals "tuple" = some none)
  (bH6:PySem.W.nsIn K mainGlobals "zip" = some none)
  {t_CORNERS:Tok} (P5:PySem.W.nsIn K mainGlobals "CORNERS" = some (some (.int 3 t_CORNERS)))
  {t_ARROWS_OUT:Tok} (P1:PySem.W.nsIn K mainGlobals "ARROWS_OUT" = some (some (.int 3 t_ARROWS_OUT)))
  (n_TreesError:PySem.W.nsIn K mainGlobals "TreesError" = some (some (.ref C3))) {cd_TreesError:ClassData} (y_TreesError:PySem.W.clsIn K C3=some cd_TreesError) (t_TreesError:PySem.W.typeIn K (.ref C3)=some (.type "type"))
  (n_NoDrawing:PySem.W.nsIn K mainGlobals "NoDrawing" = some (some (.ref K6))) {cd_NoDrawing:ClassData} (y_NoDrawing:PySem.W.clsIn K K6=some cd_NoDrawing) (t_NoDrawing:PySem.W.typeIn K (.ref K6)=some (.type "type"))
  (n_NoRows:PySem.W.nsIn K mainGlobals "NoRows" = some (some (.ref S7))) {cd_NoRows:ClassData} (y_NoRows:PySem.W.clsIn K S7=some cd_NoRows) (t_NoRows:PySem.W.typeIn K (.ref S7)=some (.type "type"))
  (n_NoText:PySem.W.nsIn K mainGlobals "NoText" = some (some (.ref S8))) {cd_NoText:ClassData} (y_NoText:PySem.W.clsIn K S8=some cd_NoText) (t_NoText:PySem.W.typeIn K (.ref S8)=some (.type "type"))
  (n_Tied:PySem.W.nsIn K mainGlobals "Tied" = some (some (.ref m6))) {cd_Tied:ClassData} (y_Tied:PySem.W.clsIn K m6=some cd_Tied) (t_Tied:PySem.W.typeIn K (.ref m6)=some (.type "type"))
  (n_NoArrows:PySem.W.nsIn K mainGlobals "NoArrows" = some (some (.ref A4))) {cd_NoArrows:ClassData} (y_NoArrows:PySem.W.clsIn K A4=some cd_NoArrows) (t_NoArrows:PySem.W.typeIn K (.ref A4)=some (.type "type"))
  (n_NoLand:PySem.W.nsIn K mainGlobals "NoLand" = some (some (.ref P2))) {cd_NoLand:ClassData} (y_NoLand:PySem.W.clsIn K P2=some cd_NoLand) (t_NoLand:PySem.W.typeIn K (.ref P2)=some (.type "type"))
  (n_NoPlace:PySem.W.nsIn K mainGlobals "NoPlace" = some (some (.ref M6))) {cd_NoPlace:ClassData} (y_NoPlace:PySem.W.clsIn K M6=some cd_NoPlace) (t_NoPlace:PySem.W.typeIn K (.ref M6)=some (.type "type"))
  (n_NoTie:PySem.W.nsIn K mainGlobals "NoTie" = some (some (.ref T3))) {cd_NoTie:ClassData} (y_NoTie:PySem.W.clsIn K T3=some cd_NoTie) (t_NoTie:PySem.W.typeIn K (.ref T3)=some (.type "type"))
  (n_NoRing:PySem.W.nsIn K mainGlobals "NoRing" = some (some (.ref P3))) {cd_NoRing:ClassData} (y_NoRing:PySem.W.clsIn K P3=some cd_NoRing) (t_NoRing:PySem.W.typeIn K (.ref P3)=some (.type "type"))
  (n_TooMany:PySem.W.nsIn K mainGlobals "TooMany" = some (some (.ref K7))) {cd_TooMany:ClassData} (y_TooMany:PySem.W.clsIn K K7=some cd_TooMany) (t_TooMany:PySem.W.typeIn K (.ref K7)=some (.type "type"))
  (n_NoLine:PySem.W.nsIn K mainGlobals "NoLine" = some (some (.ref O6))) {cd_NoLine:ClassData} (y_NoLine:PySem.W.clsIn K O6=some cd_NoLine) (t_NoLine:PySem.W.typeIn K (.ref O6)=some (.type "type"))
  (n_NothingDone:PySem.W.nsIn K mainGlobals "NothingDone" = some (some (.ref C7))) {cd_NothingDone:ClassData} (y_NothingDone:PySem.W.clsIn K C7=some cd_NothingDone) (t_NothingDone:PySem.W.typeIn K (.ref C7)=some (.type "type"))
  (S0:PySem.W.excIn K C3 bmV "ValueError.__new__" = true)
  (aI2:PySem.W.excIn K P2 bmV "ValueError.__new__" = true)
  (aD0:PySem.W.excIn K M6 bmV "ValueError.__new__" = true)
  (aN4:PySem.W.excIn K T3 bmV "ValueError.__new__" = true)
  (aI9:PySem.W.excIn K P3 bmV "ValueError.__new__" = true)
  (aC6:PySem.W.excIn K K7 bmV "ValueError.__new__" = true)
  (aG9:PySem.W.excIn K O6 bmV "ValueError.__new__" = true)
  (W8:PySem.W.excIn K C7 bmV "ValueError.__new__" = true)
  (xo_NoArrows:PySem.W.subIn K (.ref A4) (.type "object")=some true) (xb_NoArrows:PySem.W.subIn K (.ref A4) (.type "BaseException")=some true) (xg_NoArrows:PySem.W.findIn K (.ref A4) "__getattribute__" = some (some (.builtin "BaseException.__getattribute__"))) (xt_NoArrows:PySem.W.findIn K (.ref A4) "__getattr__" = some none) (xc_NoArrows:PySem.W.findIn K (.ref A4) "__class__" = some (some (.builtin "object.__class__")))
  (G3:PySem.W.subIn K (.ref A4) (.ref C3)=some true)
  (G9:PySem.W.subIn K (.ref A4) (.ref K6)=some false)
  (N4:PySem.W.subIn K (.ref A4) (.ref S7)=some false)
  (N3:PySem.W.subIn K (.ref A4) (.ref S8)=some false)
  (P4:PySem.W.subIn K (.ref A4) (.ref m6)=some false)
  (J9:PySem.W.subIn K (.ref A4) (.ref A4)=some true)
  (N6:PySem.W.subIn K (.ref A4) (.ref P2)=some false)
  (L5:PySem.W.subIn K (.ref A4) (.ref M6)=some false)
  (O4:PySem.W.subIn K (.ref A4) (.ref T3)=some false)
  (N5:PySem.W.subIn K (.ref A4) (.ref P3)=some false)
  (L4:PySem.W.subIn K (.ref A4) (.ref K7)=some false)
  (N7:PySem.W.subIn K (.ref A4) (.ref O6)=some false)
  (E7:PySem.W.subIn K (.ref A4) (.ref C7)=some false)
  (G5:PySem.W.subIn K (.ref A4) (.type "ValueError")=some true)
  {no_NoArrows:Addr} {nm_NoArrows qn_NoArrows:Str} {bs_NoArrows:List Value} {hd0_NoArrows:Bool} {sn_NoArrows:List Str} {sub_NoArrows:List Value} {ab_NoArrows:Bool} {co_NoArrows:Option Bool} {dd_NoArrows:Option Addr} {k0_NoArrows k1_NoArrows k2_NoArrows k3_NoArrows k5_NoArrows:Option Value}
  (ho_NoArrows:K.lookup A4=some (excClassObj nm_NoArrows qn_NoArrows A4 no_NoArrows bs_NoArrows (.ref C3::bmV) hd0_NoArrows sn_NoArrows sub_NoArrows ab_NoArrows co_NoArrows dd_NoArrows k0_NoArrows k1_NoArrows k2_NoArrows k3_NoArrows k5_NoArrows "ValueError.__new__"))
  (hn0_NoArrows:PySem.W.nsOkIn K no_NoArrows=true) (ni_NoArrows:PySem.W.nsIn K no_NoArrows "__init__" = some (some (.ref E5)))
  {od_NoArrows_init an_NoArrows_init:Option Addr} {sl_NoArrows_init:Array (Option Value)} {oc_NoArrows_init kV_NoArrows_init dc_NoArrows_init pm_NoArrows_init cd_NoArrows_init ct_NoArrows_init:Value}
  (l_NoArrows_init:K.lookup E5=some ⟨oc_NoArrows_init,od_NoArrows_init,.func (PySem.W.fnOf "__init__" "NoArrows.__init__" (E1 M5) (D1 M5) (A8 M5) .none kV_NoArrows_init dc_NoArrows_init pm_NoArrows_init an_NoArrows_init cd_NoArrows_init ct_NoArrows_init),sl_NoArrows_init⟩) (i_NoArrows_init:PySem.W.isFn K (.ref E5)=true)
  (c_NoArrows_init_:PySem.W.codeIn K cd_NoArrows_init "NoArrows.__init__" = true) (k_NoArrows_init_:PySem.W.keepIn K (.ref E5)=true)
  (mo_NoArrows:PySem.W.mroIn K A4 (.type "object")=some true) (hdx_NoArrows:PySem.W.hasDictIn K A4=true) (sax_NoArrows:PySem.W.findIn K (.ref A4) "__setattr__" = some (some (.builtin "object.__setattr__"))) (gax_NoArrows:PySem.W.findIn K (.ref A4) "__getattribute__" = some (some (.builtin "BaseException.__getattribute__"))) (gtx_NoArrows:PySem.W.findIn K (.ref A4) "__getattr__" = some none) (up_NoArrows:PySem.W.mroIn K A4 (.type "BaseException")=some true) (kcx_NoArrows:PySem.W.keepIn K (.ref A4)=true)
  (J0:PySem.W.findIn K (.ref A4) "why" = some none)
  (xsp:PySem.W.specialIn K (.ref C3) "__getattribute__" = some (some (.builtin "type.__getattribute__"))) (xrd:PySem.W.readsIn K C3 (.type "type")=true) (xfc:PySem.W.findCls K (.ref C3) (.type "type") "__init__" = some (.val (.builtin "ValueError.__init__")))
  : ∃a:Ad,Tx K mg a/\a.bJ0=f20/\∀(s:Shared) (v:Value),BindsTo s a.aU3 ⟨[v],[]⟩ [("_law_script",v)]:=by
 have F0:=M1 (st:=aJ7) l0 c0 k0
 have F1:=M1 (st:=O2) l1 c1 k1
 have F2:=M1 (st:=M3) l2 c2 k2
 have F3:=M1 (st:=K9) l3 c3 k3
 have F4:=M1 (st:=T9) l4 c4 k4
 have F5:=M1 (st:=P8) l5 c5 k5
 have F6:=M1 (st:=U0) l6 c6 k6
 have F7:=M1 (st:=O7) l7 c7 k7
 have F8:=M1 (st:=S4) l8 c8 k8
 have F9:=M1 (st:=R8) l9 c9 k9
 have F10:=M1 (st:=R5) l10 c10 k10
 have F11:=M1 (st:=R4) l11 c11 k11
 have F12:=M1 (st:=S3) l12 c12 k12
 have F13:=M1 (st:=P9) l13 c13 k13
 have F14:=M1 (st:=R7) l14 c14 k14
 have F15:=M1 (st:=M7) l15 c15 k15
 have F16:=M1 (st:=R6) l16 c16 k16
 have F17:=M1 (st:=M4) l17 c17 k17
 have F18:=M1 (st:=P6) l18 c18 k18
 have F19:=M1 (st:=O5) l19 c19 k19
 have F20:=M1 (st:=aV2) l20 c20 k20
 have FF_NoArrows_init:=M1 (st:=M5) l_NoArrows_init c_NoArrows_init_ k_NoArrows_init_
 refine⟨⟨f0,_,f1,_,f2,_,f3,_,f4,_,f5,_,f6,_,f7,_,f8,_,f9,_,f10,_,f11,_,f12,_,f13,_,f14,_,f15,_,f16,_,f17,_,f18,_,f19,_,f20,_,C3,K6,S7,S8,m6,A4,P2,M6,T3,P3,K7,O6,C7,E5,_⟩,⟨F0,PySem.W.mg_of X G a0,F0.binds λ_ _ _ _ _ _ us hl=>us3 hl λ_ _ _=>rfl,F1,PySem.W.mg_of X G a1,F1.binds λ_ _ _ _ _ _ us hl=>us3 hl λ_ _ _=>rfl,F2,PySem.W.mg_of X G a2,F2.binds λ_ _ _ _ _ _ us hl=>us2 hl λ_ _=>rfl,F3,PySem.W.mg_of X G a3,F3.binds λ_ _ _ _ _ _ us hl=>us2 hl λ_ _=>rfl,F4,PySem.W.mg_of X G a4,F4.binds λ_ _ _ _ _ _ us hl=>us1 hl λ_=>rfl,F5,PySem.W.mg_of X G a5,F5.binds λ_ _ _ _ _ _ us hl=>us2 hl λ_ _=>rfl,F6,PySem.W.mg_of X G a6,F6.binds λ_ _ _ _ _ _ us hl=>us2 hl λ_ _=>rfl,F7,PySem.W.mg_of X G a7,F7.binds λ_ _ _ _ _ _ us hl=>us2 hl λ_ _=>rfl,F8,PySem.W.mg_of X G a8,F8.binds λ_ _ _ _ _ _ us hl=>us2 hl λ_ _=>rfl,F9,PySem.W.mg_of X G a9,F9.binds λ_ _ _ _ _ _ us hl=>us2 hl λ_ _=>rfl,F10,PySem.W.mg_of X G a10,F10.binds λ_ _ _ _ _ _ us hl=>us2 hl λ_ _=>rfl,F11,PySem.W.mg_of X G a11,F11.binds λ_ _ _ _ _ _ us hl=>us1 hl λ_=>rfl,F12,PySem.W.mg_of X G a12,F12.binds λ_ _ _ _ _ _ us hl=>us3 hl λ_ _ _=>rfl,F13,PySem.W.mg_of X G a13,F13.binds λ_ _ _ _ _ _ us hl=>us1 hl λ_=>rfl,F14,PySem.W.mg_of X G a14,F14.binds λ_ _ _ _ _ _ us hl=>us1 hl λ_=>rfl,F15,PySem.W.mg_of X G a15,F15.binds λ_ _ _ _ _ _ us hl=>us2 hl λ_ _=>rfl,F16,PySem.W.mg_of X G a16,F16.binds λ_ _ _ _ _ _ us hl=>us1 hl λ_=>rfl,F17,PySem.W.mg_of X G a17,F17.binds λ_ _ _ _ _ _ us hl=>us2 hl λ_ _=>rfl,F18,PySem.W.mg_of X G a18,F18.binds λ_ _ _ _ _ _ us hl=>us2 hl λ_ _=>rfl,F19,PySem.W.mg_of X G a19,F19.binds λ_ _ _ _ _ _ us hl=>us2 hl λ_ _=>rfl,F20,PySem.W.mg_of X G a20,F20.binds λ_ _ _ _ _ _ us hl=>us1 hl λ_=>rfl,PySem.W.mg_none_of X G U5,PySem.W.mg_none_of X G bJ4,PySem.W.mg_none_of X G aP3,PySem.W.mg_none_of X G X0,PySem.W.mg_none_of X G bG5,PySem.W.mg_none_of X G D8,PySem.W.mg_none_of X G V4,PySem.W.mg_none_of X G Z9,PySem.W.mg_none_of X G bD7,PySem.W.mg_none_of X G bF0,PySem.W.mg_none_of X G K5,PySem.W.mg_none_of X G T5,PySem.W.mg_none_of X G X5,PySem.W.mg_none_of X G T4,PySem.W.mg_none_of X G bH6,⟨t_CORNERS,PySem.W.mg_of X G P5⟩,⟨t_ARROWS_OUT,PySem.W.mg_of X G P1⟩,PySem.W.mg_of X G n_TreesError,⟨by rw[y_TreesError];rfl,t_TreesError⟩,PySem.W.mg_of X G n_NoDrawing,⟨by rw[y_NoDrawing];rfl,t_NoDrawing⟩,PySem.W.mg_of X G n_NoRows,⟨by rw[y_NoRows];rfl,t_NoRows⟩,PySem.W.mg_of X G n_NoText,⟨by rw[y_NoText];rfl,t_NoText⟩,PySem.W.mg_of X G n_Tied,⟨by rw[y_Tied];rfl,t_Tied⟩,PySem.W.mg_of X G n_NoArrows,⟨by rw[y_NoArrows];rfl,t_NoArrows⟩,PySem.W.mg_of X G n_NoLand,⟨by rw[y_NoLand];rfl,t_NoLand⟩,PySem.W.mg_of X G n_NoPlace,⟨by rw[y_NoPlace];rfl,t_NoPlace⟩,PySem.W.mg_of X G n_NoTie,⟨by rw[y_NoTie];rfl,t_NoTie⟩,PySem.W.mg_of X G n_NoRing,⟨by rw[y_NoRing];rfl,t_NoRing⟩,PySem.W.mg_of X G n_TooMany,⟨by rw[y_TooMany];rfl,t_TooMany⟩,PySem.W.mg_of X G n_NoLine,⟨by rw[y_NoLine];rfl,t_NoLine⟩,PySem.W.mg_of X G n_NothingDone,⟨by rw[y_NothingDone];rfl,t_NothingDone⟩,S0,aI2,aD0,aN4,aI9,aC6,aG9,W8,⟨xo_NoArrows,xb_NoArrows,xg_NoArrows,xt_NoArrows,xc_NoArrows⟩,G3,G9,N4,N3,P4,J9,N6,L5,O4,N5,L4,N7,E7,G5,cK3 ho_NoArrows S0 hn0_NoArrows ni_NoArrows l_NoArrows_init i_NoArrows_init mo_NoArrows hdx_NoArrows sax_NoArrows gax_NoArrows gtx_NoArrows up_NoArrows kcx_NoArrows,J0,FF_NoArrows_init,FF_NoArrows_init.binds λ_ _ _ _ _ _ us hl=>us2 hl λ_ _=>rfl,⟨xsp,xrd,xfc,rfl⟩⟩,rfl,λs v=>.of_eq rfl⟩
theorem sc__law_grown:D5 ["_law_first", "_law_second", "_law_outs", "_law_ins", "_law_path", "_law_heap", "_law_i", "_law_ahead", "_law_k", "_law_place", "_law_turns", "_law_v", "_law_came", "_law_row"] ["_law_first", "_law_second"] (A8 R5):=⟨rfl,rfl,rfl,by decide +kernel,rfl,by decide +kernel,by decide +kernel⟩
def rh (m:Nat)(F G:Nat->Nat)(o i:OT)(p h:List Nat)(x6 x7 x8 x9:Sl):List Sl:=
 [.val (lI (fl F m)),.val (lI (fl G m)),.tr o,.tr i,.own (nI p.reverse),.own (nI h.reverse),x6,x7,x8,x9,.no,.no,.no,.no]
theorem i3 {m:Nat}{F G:Nat->Nat}{o i:OT}{p h:List Nat}{x6 x7 x8 x9:Sl}(h6:x6.nb=true)(h7:x7.nb=true)(h8:x8.nb=true)(h9:x9.nb=true):X4 (rh m F G o i p h x6 x7 x8 x9)=true:=by
 unfold rh;simp only[v7,h6,h7,h8,h9,Bool.true_and];rfl
def rh2 (m:Nat)(F G:Nat->Nat)(o i:PyData)(p h:List PyData)(x6 x7 x8 x9 x10 x11 x12 x13:Sl):List Sl:=
 [.val (lI (fl F m)),.val (lI (fl G m)),.val o,.val i,.own p,.own h,x6,x7,x8,x9,x10,x11,x12,x13]
theorem bL0 {m:Nat}{F G:Nat->Nat}{o i:PyData}{p h:List PyData}{x6 x7 x8 x9 x10 x11 x12 x13:Sl}(h6:x6.nb=true)(h7:x7.nb=true)(h8:x8.nb=true)(h9:x9.nb=true)(h10:x10.nb=true)(h11:x11.nb=true)(h12:x12.nb=true)(h13:x13.nb=true):X4 (rh2 m F G o i p h x6 x7 x8 x9 x10 x11 x12 x13)=true:=by
 unfold rh2;simp only[v7,h6,h7,h8,h9,h10,h11,h12,h13,Bool.true_and];rfl
def cD8 (ds:List PyData)(d:PyData):Prop:=∃F G m,TT.Rws F G m/\m<=1000/\ds=[lI (fl F m),lI (fl G m)] /\
 d=.tuple [.list ((List.range (m+3)).map λv=>lN ((TT.gst F G m).row v)),.list ((List.range m).map λv=>lN [(TT.gst F G m).o0 (v+3),(TT.gst F G m).o1 (v+3),(TT.gst F G m).o2 (v+3)])]
section
variable {P:Program}{w:World}{K:PySem.W.Frag}{mg:Str->Option Value}{base:Heap}{a:Ad}
theorem cE7 (T:Tx K mg a):E4 P w K mg base CX0 1 a.u5 a.t7 ["_law_first", "_law_second"] (spV K cD8):=by
 refine T.aI0.ok sc__law_grown (aA4 λds d ⟨_,_,_,_,_,e,_⟩=>by rw[e];rfl) (λcdv A outer s H vs Q E hr h=>?_)
 obtain ⟨ds,S,d,hS,r,⟨F,G,m,R,hm,rfl,rfl⟩,k⟩:=h;refine⟨_,(A5 (B8 (i:=2) sc__law_grown.nd rfl (Or.inl rfl) (C4 A2))
   (A5 (B8 (i:=3) sc__law_grown.nd rfl (Or.inl rfl) (C4 (A0 (K1 (A0 (C4 A2) (A0 (C4 A2) (A0 (C4 A2) A2)))) (A0 (K1 (A0 (C4 A2) (A0 (C4 A2) (A0 (C4 A2) A2)))) (A0 (K1 (A0 (C4 A2) (A0 (C4 A2) (A0 (C4 A2) A2)))) A2)))))
   (A5 (B8 (i:=4) sc__law_grown.nd rfl (Or.inl rfl) (C4 (A0 A6 A2)))
   (A5 (B8 (i:=5) sc__law_grown.nd rfl (Or.inl rfl) (C4 (A0 A6 A2)))
   (A5 (T7 PassesOwn.never rfl (K8 rfl T.K5 (A0 (B9 N2 (by rfl) T.V4 PySem.boot_len (A0 (pv 0) A2)) A2)) (C5 (i:=6) sc__law_grown.nd rfl (Or.inl rfl)) (A5 (B8 (i:=7) sc__law_grown.nd rfl (Or.inl rfl) (C4 (A0 A6 (A0 A6 A2))))
   (A5 (V6 (H9 aW3 (pv 6) A6 (K3 _)) (B0 (B8 (i:=7) sc__law_grown.nd rfl (Or.inl rfl) (C4 (A0 (C0 C1 (pv 0) (B4 aB1 (pv 6) A6) (λ_ _=>rfl)) (A0 (C0 C1 (pv 1) (B4 aB1 (pv 6) A6) (λ_ _=>rfl)) A2))))) L9)
   (A5 (T7 PassesOwn.never rfl (K8 rfl T.K5 (A0 (B4 aB1 (C0 C1 (pv 0) (pv 6) (λ_ _=>rfl)) (C0 C1 (pv 7) A6 (λ_ _=>rfl))) A2)) (C5 (i:=8) sc__law_grown.nd rfl (Or.inl rfl)) (B0 (N8 (U8 Ab1 PySem.F.slot_list_append PySem.F.type_list_append E8 (pv 5) (A0 (bC9 Ab1 PySem.F.slot_list_pop PySem.F.type_list_pop bA6 (pv 4)) A2)))))
   (A5 (N8 (U8 Ab1 PySem.F.slot_list_append PySem.F.type_list_append E8 (pv 3) (A0 (K1 (A0 (C4 A2) (A0 (C4 A2) (A0 (C4 A2) A2)))) A2)))
   (A5 (T7 PassesOwn.never rfl (K8 rfl T.K5 (A0 (B4 aB1 (C0 C1 (pv 1) (pv 6) (λ_ _=>rfl)) (C0 C1 (pv 7) A6 (λ_ _=>rfl))) A2)) (C5 (i:=8) sc__law_grown.nd rfl (Or.inl rfl)) (A5 (B8 (i:=9) sc__law_grown.nd rfl (Or.inl rfl) (bC9 Ab1 PySem.F.slot_list_pop PySem.F.type_list_pop bA6 (pv 5)))
   (A5 (aJ1 (B4 E9 A6 (pv 6)) (bN1 (C0 C1 (pv 2) (B4 aB1 (pv 9) A6) (λ_ _=>rfl)) A6 aO8))
   (B0 (N8 (U8 Ab1 PySem.F.slot_list_append PySem.F.type_list_append E8 (C0 C1 (C0 C1 (pv 3) (B4 E9 A6 (pv 6)) (λ_ _=>rfl)) A6 (λ_ _=>rfl)) (A0 (pv 9) A2)))))))
   (A5 (N8 (U8 Ab1 PySem.F.slot_list_append PySem.F.type_list_append E8 (pv 2) (A0 (C4 (A0 (C0 C1 (pv 4) (aR1 aF4 A6) (λ_ _=>rfl)) (A0 (C0 C1 (pv 5) (aR1 aF4 A6) (λ_ _=>rfl)) (A0 A6 A2)))) A2)))
   (A5 (N8 (U8 Ab1 PySem.F.slot_list_append PySem.F.type_list_append E8 (C0 C1 (C0 C1 (pv 3) (C0 C1 (pv 4) (aR1 aF4 A6) (λ_ _=>rfl)) (λ_ _=>rfl)) A6 (λ_ _=>rfl)) (A0 (B4 E9 A6 (pv 6)) A2)))
   (A5 (N8 (U8 Ab1 PySem.F.slot_list_append PySem.F.type_list_append E8 (C0 C1 (C0 C1 (pv 3) (C0 C1 (pv 5) (aR1 aF4 A6) (λ_ _=>rfl)) (λ_ _=>rfl)) A6 (λ_ _=>rfl)) (A0 (B4 E9 A6 (pv 6)) A2)))
   (B0 (N8 (U8 Ab1 PySem.F.slot_list_append PySem.F.type_list_append E8 (pv 4) (A0 (B4 E9 A6 (pv 6)) A2)))))))))))))
   (A5 (bH2 PassesOwn.never (H9 aW3 (B9 N2 (by rfl) T.V4 PySem.boot_len (A0 (pv 4) A2)) A6 (K3 _)) (B0 (N8 (U8 Ab1 PySem.F.slot_list_append PySem.F.type_list_append E8 (pv 5) (A0 (bC9 Ab1 PySem.F.slot_list_pop PySem.F.type_list_pop bA6 (pv 4)) A2)))))
   (A5 (bH2 PassesOwn.never (H9 aW3 (B9 N2 (by rfl) T.V4 PySem.boot_len (A0 (pv 5) A2)) A6 (K3 _)) (B0 (N8 (U8 Ab1 PySem.F.slot_list_append PySem.F.type_list_append E8 (C0 C1 (C0 C1 (pv 3) A6 (λ_ _=>rfl)) A6 (λ_ _=>rfl)) (A0 (bC9 Ab1 PySem.F.slot_list_pop PySem.F.type_list_pop bA6 (pv 5)) A2)))))
   (A5 (B8 (i:=10) sc__law_grown.nd rfl (Or.inl rfl) (C4 (A0 (B4 (K0 K) (B4 (K0 K) (C4 (A0 A6 A2)) (C0 C1 (C0 C1 (pv 3) A6 (λ_ _=>rfl)) A6 (λ_ _=>rfl))) (C4 (A0 A6 A2))) A2)))
   (A5 (N8 (U8 Ab1 PySem.F.slot_list_append PySem.F.type_list_append E8 (pv 10) (A0 (B4 (K0 K) (B4 (K0 K) (C4 (A0 A6 A2)) (aF1 K rfl (by rfl) T.Z9 (by rfl) T.T5 (C0 C1 (C0 C1 (pv 3) A6 (λ_ _=>rfl)) A6 (λ_ _=>rfl)))) (C4 (A0 A6 A2))) A2)))
   (A5 (N8 (U8 Ab1 PySem.F.slot_list_append PySem.F.type_list_append E8 (pv 10) (A0 (B4 (K0 K) (B4 (K0 K) (C4 (A0 A6 A2)) (C0 C1 (C0 C1 (pv 3) A6 (λ_ _=>rfl)) A6 (λ_ _=>rfl))) (C4 (A0 A6 A2))) A2)))
   (A5 (T7 PassesOwn.never rfl (K8 rfl T.K5 (A0 (B9 N2 (by rfl) T.V4 PySem.boot_len (A0 (pv 2) A2)) A2)) (C5 (i:=11) sc__law_grown.nd rfl (Or.inl rfl)) (A5 (B8 (i:=12) sc__law_grown.nd rfl (Or.inl rfl) (C0 C1 (pv 3) (B4 E9 A6 (pv 11)) (λ_ _=>rfl)))
   (A5 (B8 (i:=13) sc__law_grown.nd rfl (Or.inl rfl) (B4 (K0 K) (B4 (K0 K) (B4 (K0 K) (C4 (A0 (C0 C1 (C0 C1 (pv 2) (pv 11) (λ_ _=>rfl)) A6 (λ_ _=>rfl)) A2)) (C0 C1 (pv 12) A6 (λ_ _=>rfl))) (C4 (A0 (C0 C1 (C0 C1 (pv 2) (pv 11) (λ_ _=>rfl)) A6 (λ_ _=>rfl)) A2))) (C0 C1 (pv 12) A6 (λ_ _=>rfl))))
   (B0 (N8 (U8 Ab1 PySem.F.slot_list_append PySem.F.type_list_append E8 (pv 10) (A0 (B4 (K0 K) (B4 (K0 K) (pv 13) (C4 (A0 (C0 C1 (C0 C1 (pv 2) (pv 11) (λ_ _=>rfl)) A6 (λ_ _=>rfl)) A2))) (aF1 K rfl (by rfl) T.Z9 (by rfl) T.T5 (C0 C1 (pv 12) A6 (λ_ _=>rfl)))) A2)))))))
   (B0 (D6 (K1 (A0 (pv 10) (A0 (pv 2) A2)))))))))))))))),S6 hS r ?_ k⟩
 refine B2 (cB0 (P0 K4) ?_);refine B2 (cB0 (P0 (G1 (aO0 (G1 (P0 K4) (G1 (P0 K4) (G1 (P0 K4) K4)))) (G1 (aO0 (G1 (P0 K4) (G1 (P0 K4) (G1 (P0 K4) K4)))) (G1 (aO0 (G1 (P0 K4) (G1 (P0 K4) (G1 (P0 K4) K4)))) K4)))) ?_);refine B2 (K2 (G8 (A1 A9 A7)) ?_);refine B2 (K2 (G8 (A1 A9 A7)) ?_);show W K _ (rh m F G (O1 0 (TT.gst F G 0).o0 (TT.gst F G 0).o1 (TT.gst F G 0).o2) (G0 (0+3) (TT.gst F G 0).i0 (TT.gst F G 0).i1 (TT.gst F G 0).i2) (TT.gst F G 0).path (TT.gst F G 0).heap .no .no .no .no) _;have cG9:((fl F m).map PyData.int).length=m:=by simp[fl]
 refine B2 (Z8 (V8 (A1 (Z7 (A1 (A3 rfl) A7)) A7) ?_ ?_) (λi ρ=>∃x6 x7 x8 x9,(x6.nb=true/\x7.nb=true/\x8.nb=true/\x9.nb=true) /\
  ρ=rh m F G (O1 i (TT.gst F G i).o0 (TT.gst F G i).o1 (TT.gst F G i).o2) (G0 (i+3) (TT.gst F G i).i0 (TT.gst F G i).i1 (TT.gst F G i).i2) (TT.gst F G i).path (TT.gst F G i).heap x6 x7 x8 x9) ⟨_,_,_,_,⟨rfl,rfl,rfl,rfl⟩,rfl⟩ ?_ ?_)
 ·rw[cG9];omega
 ·rw[cG9];omega
 ·rintro i d _ hd ⟨x6,x7,x8,x9,⟨b6,b7,b8,b9⟩,rfl⟩;obtain ⟨rfl,hi⟩:=W6 hd;have hi:i<m:=by
   have:=hi
   simp[fl]at this
   omega
  obtain ⟨sk,sa,sb,spl,shl,slo,spx,shy,se0,se1⟩:=TT.aX9 R hi;have hst:TT.gst F G (i+1)=(TT.gst F G i).step (F i-TT.pv F i) (G i-TT.pv G i):=rfl;have f1:=R.f1 i hi;have g1:=R.g1 i hi;have hFi:=R.f2 i hi;have hGi:=R.g2 i hi;generalize hs:TT.gst F G i=s at sk sa sb spl shl slo spx shy se0 se1 hst ⊢;refine⟨_,D7,?_⟩;refine B2 (K2 (G8 (A1 A9 (A1 A9 A7))) ?_ (show 7<14 by decide))
  refine B2 (cR2 (rh m F G (O1 i s.o0 s.o1 s.o2) (G0 (i+3) s.i0 s.i1 s.i2) s.path s.heap (.val (.int (i:Int))) (.own [.int (TT.pv F i:Nat),.int (TT.pv G i:Nat)]) x8 x9) (O0 (bE7 (A3 rfl) A9))
   (λh=>(K2 (ds:=[.int (F (i-1):Nat),.int (G (i-1):Nat)]) (G8 (A1 (J8 (A3 rfl) (S1 (A3 rfl) A9) rfl ?_) (A1 (J8 (A3 rfl) (S1 (A3 rfl) A9) rfl ?_) A7))) ?_ (show 7<14 by decide))) (λh=>Q6 ?_) ?_)
  ·have h:(i:Int)>0:=of_decide_eq_true h
   have e:(i:Int)-1=((i-1:Nat):Int):=by omega
   rw[e];exact bQ7 (by omega)
  ·have h:(i:Int)>0:=of_decide_eq_true h
   have e:(i:Int)-1=((i-1:Nat):Int):=by omega
   rw[e];exact bQ7 (by omega)
  ·have h:(i:Int)>0:=of_decide_eq_true h
   obtain ⟨j,rfl⟩:∃j,i=j+1:=⟨i-1,by omega⟩
   rfl
  ·have h:¬(i:Int)>0:=of_decide_eq_false h
   have:i=0:=by omega
   subst this;rfl
  generalize hA:F i-TT.pv F i=na at sa sb shl slo spx shy hst;generalize hB:G i-TT.pv G i=nb at sb slo shy hst;refine B2 (Z8 (V8 (A1 (S1 (J8 (A3 rfl) (A3 rfl) rfl (bQ7 hi)) (J8 (Q2 rfl) A9 rfl rfl)) A7) ?_ ?_) (λj ρ=>∃x8,x8.nb=true /\
   ρ=rh m F G (O1 i s.o0 s.o1 s.o2) (G0 (i+3) s.i0 s.i1 s.i2) (s.path.drop j) (s.h1 j) (.val (.int (i:Int))) (.own [.int (TT.pv F i:Nat),.int (TT.pv G i:Nat)]) x8 x9) ⟨x8,b8,rfl⟩ ?_ ?_)
  ·omega
  ·omega
  ·rintro j d _ hd ⟨y8,c8,rfl⟩;obtain ⟨rfl,hj⟩:=W6 hd;have hj:j<na:=by omega
   refine⟨_,D7,?_⟩;obtain ⟨x,hx⟩:∃x,s.path[j]? = some x:=⟨_,Aa2 (by omega)⟩
   have e1:s.path.drop j=x::s.path.drop (j+1):=by
    obtain ⟨h1,h2⟩:=Ab0.mp hx;rw[<- h2];exact List.drop_eq_getElem_cons h1
   have e2:s.h1 (j+1)=x::s.h1 j:=by
    unfold TT.S.h1;obtain ⟨h1,h2⟩:=Ab0.mp hx;rw[List.take_succ_eq_append_getElem h1,h2];simp
   show W K _ (rh m F G (O1 i s.o0 s.o1 s.o2) (G0 (i+3) s.i0 s.i1 s.i2) (s.path.drop j) (s.h1 j) (.val (.int (i:Int))) (.own [.int (TT.pv F i:Nat),.int (TT.pv G i:Nat)]) (.val (.int (j:Int))) x9) _
   refine aK4 (ds:=nI (s.h1 j).reverse) (bN4 (d:=.int (x:Int)) (ds:=nI (s.path.drop (j+1)).reverse) ?_ (i3 rfl rfl rfl b9)) rfl rfl ?_ ⟨.val (.int (j:Int)),rfl,?_⟩ ?_
   ·show some (Sl.own (nI (s.path.drop j).reverse))=_
    rw[e1];simp[nI]
   ·rw[N9,Ad9];unfold TT.S.h1 at shl ⊢;unfold PySem.sizeLine;simp only[Ab7,Ad9,Ad0]at shl ⊢;omega
   ·rw[e2];unfold rh
    simp[nI]
   ·exact i3 (p:=s.path.drop (j+1)) (h:=s.h1 j) rfl rfl rfl b9
  rintro _ ⟨y8,c8,rfl⟩;rw[Q1];have ea:((F i:Int)-(TT.pv F i:Int)).toNat=na:=by omega
  rw[ea];refine B2 (r9 (u0:=G0 (i+3) s.i0 s.i1 s.i2) aF5 rfl rfl (aO0 (G1 (P0 K4) (G1 (P0 K4) (G1 (P0 K4) K4)))) ?_ ?_ (i3 rfl rfl c8 b9))
  ·rw[Aa3,List.length_range];unfold PySem.sizeLine;omega
  have ei:(G0 (i+3) s.i0 s.i1 s.i2).put [] (.lst (((List.range (i+3)).map λq=>OT.tup [oN (s.i0 q),oN (s.i1 q),oN (s.i2 q)])++[.tup [.lst [],.lst [],.lst []]]))=G0 (i+4) s.i0 s.i1 (TT.put s.i2 (i+3) []):=by
   rw[OT.put_nil,cK4]
   congr 1
   ·funext q;by_cases e:q=i+3
    ·rw[e,TT.B5,se0]
    ·rw[TT.B6 e]
   ·funext q;by_cases e:q=i+3
    ·rw[e,TT.B5,se1]
    ·rw[TT.B6 e]
  show W K _ ((rh m F G (O1 i s.o0 s.o1 s.o2) (G0 (i+3) s.i0 s.i1 s.i2) (s.path.drop na) (s.h1 na) (.val (.int (i:Int))) (.own [.int (TT.pv F i:Nat),.int (TT.pv G i:Nat)]) y8 x9).set 3 (.tr ((G0 (i+3) s.i0 s.i1 s.i2).put [] (.lst (((List.range (i+3)).map λq=>OT.tup [oN (s.i0 q),oN (s.i1 q),oN (s.i2 q)])++[.tup [.lst [],.lst [],.lst []]]))))) _
  rw[ei];show W K _ (rh m F G (O1 i s.o0 s.o1 s.o2) (G0 (i+4) s.i0 s.i1 (TT.put s.i2 (i+3) [])) (s.path.drop na) (s.h1 na) (.val (.int (i:Int))) (.own [.int (TT.pv F i:Nat),.int (TT.pv G i:Nat)]) y8 x9) _;generalize hh:s.h1 na=h at sb shl slo shy ⊢;refine B2 (Z8 (V8 (A1 (S1 (J8 (A3 rfl) (A3 rfl) rfl (bQ7 hi)) (J8 (Q2 rfl) A9 rfl rfl)) A7) ?_ ?_) (λj ρ=>∃x8 x9,x8.nb=true/\x9.nb=true /\
   ρ=rh m F G (O1 i s.o0 s.o1 (λq=>if q∈h.take j then i+3 else s.o2 q)) (G0 (i+4) s.i0 s.i1 (TT.put s.i2 (i+3) (h.take j))) (s.path.drop na) (h.drop j) (.val (.int (i:Int))) (.own [.int (TT.pv F i:Nat),.int (TT.pv G i:Nat)]) x8 x9) ⟨y8,x9,c8,b9,by simp⟩ ?_ ?_)
  ·omega
  ·omega
  ·rintro j d _ hd ⟨z8,z9,c8,c9,rfl⟩;obtain ⟨rfl,hj⟩:=W6 hd;have hj:j<nb:=by omega
   refine⟨_,D7,?_⟩;obtain ⟨x,hx⟩:∃x,h[j]? = some x:=⟨_,Aa2 (by omega)⟩
   obtain ⟨hx1,hx2⟩:=Ab0.mp hx;have e1:h.drop j=x::h.drop (j+1):=by rw[<- hx2];exact List.drop_eq_getElem_cons hx1
   have e2:h.take (j+1)=h.take j++[x]:=by rw[<- hx2];exact List.take_succ_eq_append_getElem hx1
   obtain ⟨x3,xi⟩:=slo x (by
    refine List.mem_of_getElem? (i:=j) ?_;rw[List.getElem?_take,if_pos hj];exact hx)
   refine B2 (dE6 (ds:=nI (h.drop (j+1)).reverse) (d:=.int (x:Int)) ?_ ?_ (i3 (x8:=.val (.int (j:Int))) rfl rfl rfl c9))
   ·show some (Sl.own (nI (h.drop j).reverse))=_
    rw[e1];simp[nI]
   have e3:(3:Int)+(i:Int)=((i+3:Nat):Int):=by omega
   have hx3:x-3+3=x:=by omega
   show W K _ (rh m F G (O1 i s.o0 s.o1 (λq=>if q∈h.take j then i+3 else s.o2 q)) (G0 (i+4) s.i0 s.i1 (TT.put s.i2 (i+3) (h.take j))) (s.path.drop na) (h.drop (j+1)) (.val (.int (i:Int))) (.own [.int (TT.pv F i:Nat),.int (TT.pv G i:Nat)]) (.val (.int (j:Int))) (.val (.int (x:Int)))) _
   have eo:(O1 i s.o0 s.o1 (λq=>if q∈h.take j then i+3 else s.o2 q)).put [x-3] (oN [s.o0 (x-3+3),s.o1 (x-3+3),i+3])=O1 i s.o0 s.o1 (λq=>if q∈h.take (j+1) then i+3 else s.o2 q):=by
    rw[cN7 (by omega)]
    congr 1
    funext q
    rw[hx3,e2];by_cases e:q=x
    ·rw[e,TT.B5];simp
    ·rw[TT.B6 e];simp[e]
   refine B2 (cU8 (u0:=O1 i s.o0 s.o1 (λq=>if q∈h.take j then i+3 else s.o2 q)) (us:=[.leaf (.int (s.o0 (x-3+3):Nat)),.leaf (.int (s.o1 (x-3+3):Nat)),.leaf (.int ((if x-3+3∈h.take j then i+3 else s.o2 (x-3+3):Nat):Int))]) (π:=[]++[x-3]) 2 (S1 A9 (A3 rfl)) (aJ0 (x-3) aF5 (S1 (A3 rfl) A9) (by omega) (λu _=>⟨u,rfl⟩)) A9 rfl (by decide:2<3) rfl (cX0 (by omega)) ?_ (i3 rfl rfl rfl rfl))
   show W K _ ((rh m F G (O1 i s.o0 s.o1 (λq=>if q∈h.take j then i+3 else s.o2 q)) (G0 (i+4) s.i0 s.i1 (TT.put s.i2 (i+3) (h.take j))) (s.path.drop na) (h.drop (j+1)) (.val (.int (i:Int))) (.own [.int (TT.pv F i:Nat),.int (TT.pv G i:Nat)]) (.val (.int (j:Int))) (.val (.int (x:Int)))).set 2
    (.tr ((O1 i s.o0 s.o1 (λq=>if q∈h.take j then i+3 else s.o2 q)).put [x-3] (.lst [.leaf (.int (s.o0 (x-3+3):Nat)),.leaf (.int (s.o1 (x-3+3):Nat)),.leaf (.int (3+(i:Int)))])))) _
   rw[e3];show W K _ ((rh m F G (O1 i s.o0 s.o1 (λq=>if q∈h.take j then i+3 else s.o2 q)) (G0 (i+4) s.i0 s.i1 (TT.put s.i2 (i+3) (h.take j))) (s.path.drop na) (h.drop (j+1)) (.val (.int (i:Int))) (.own [.int (TT.pv F i:Nat),.int (TT.pv G i:Nat)]) (.val (.int (j:Int))) (.val (.int (x:Int)))).set 2
    (.tr ((O1 i s.o0 s.o1 (λq=>if q∈h.take j then i+3 else s.o2 q)).put [x-3] (oN [s.o0 (x-3+3),s.o1 (x-3+3),i+3])))) _
   rw[eo];show W K _ (rh m F G (O1 i s.o0 s.o1 (λq=>if q∈h.take (j+1) then i+3 else s.o2 q)) (G0 (i+4) s.i0 s.i1 (TT.put s.i2 (i+3) (h.take j))) (s.path.drop na) (h.drop (j+1)) (.val (.int (i:Int))) (.own [.int (TT.pv F i:Nat),.int (TT.pv G i:Nat)]) (.val (.int (j:Int))) (.val (.int (x:Int)))) _
   refine r9 (u0:=G0 (i+4) s.i0 s.i1 (TT.put s.i2 (i+3) (h.take j))) (π:=[]++[i+3]++[2]) (aJ0 2 (aJ0 (i+3) aF5 (S1 A9 (A3 rfl)) (by omega) (λu _=>⟨u,rfl⟩)) A9 rfl (λu0 h=>by cases h;exact⟨_,aE9 (by omega)⟩)) rfl (bR6 (by omega)) (aV8 (A3 rfl)) ?_ ?_ (i3 rfl rfl rfl rfl)
   ·rw[Aa3,TT.B5,Ad0];unfold PySem.sizeLine;omega
   refine⟨.val (.int (j:Int)),.val (.int (x:Int)),rfl,rfl,?_⟩;rw[bG1 (by omega),bS6,TT.B5,<- e2]
   rfl
  rintro _ ⟨z8,z9,c8,c9,rfl⟩;rw[Q1];have eb:((G i:Int)-(TT.pv G i:Int)).toNat=nb:=by omega
  rw[eb];obtain ⟨x,r1,ex,xlt,xlen⟩:=spx;obtain ⟨y,r2,ey,ylt,ylen⟩:=shy;have e3:(3:Int)+(i:Int)=((i+3:Nat):Int):=by omega
  have hpl:atI (nI (s.path.drop na).reverse) (-1)=some (.int (x:Int)):=by rw[ex,List.reverse_cons,aO7];exact aN6
  have hhl:atI (nI (h.drop nb).reverse) (-1)=some (.int (y:Int)):=by rw[ey,List.reverse_cons,aO7];exact aN6
  refine B2 (r9 (u0:=O1 i s.o0 s.o1 (λq=>if q∈h.take nb then i+3 else s.o2 q)) aF5 rfl rfl (P0 (G1 (aV8 (LV.E.imm (d:=.int (x:Int)) (J8 (Q2 rfl) (aS4 A9) rfl hpl))) (G1 (aV8 (LV.E.imm (d:=.int (y:Int)) (J8 (Q2 rfl) (aS4 A9) rfl hhl))) (G1 (aV8 A9) K4)))) ?_ ?_ (i3 rfl rfl c8 c9))
  ·rw[Aa3,List.length_range];unfold PySem.sizeLine;omega
  have eo:(O1 i s.o0 s.o1 (λq=>if q∈h.take nb then i+3 else s.o2 q)).put [] (.lst (((List.range i).map λj=>oN [s.o0 (j+3),s.o1 (j+3),(λq=>if q∈h.take nb then i+3 else s.o2 q) (j+3)])++[.lst [.leaf (.int (x:Int)),.leaf (.int (y:Int)),.leaf (.int ((2:Nat):Int))]]))=O1 (i+1) (TT.put s.o0 (i+3) x) (TT.put s.o1 (i+3) y) (TT.put (λq=>if q∈h.take nb then i+3 else s.o2 q) (i+3) 2):=by rw[OT.put_nil];exact cO3 (k:=i) (o0:=s.o0) (o1:=s.o1) (o2:=λq=>if q∈h.take nb then i+3 else s.o2 q) x y 2
  show W K _ ((rh m F G (O1 i s.o0 s.o1 (λq=>if q∈h.take nb then i+3 else s.o2 q)) (G0 (i+4) s.i0 s.i1 (TT.put s.i2 (i+3) (h.take nb))) (s.path.drop na) (h.drop nb) (.val (.int (i:Int))) (.own [.int (TT.pv F i:Nat),.int (TT.pv G i:Nat)]) z8 z9).set 2 (.tr ((O1 i s.o0 s.o1 (λq=>if q∈h.take nb then i+3 else s.o2 q)).put [] (.lst (((List.range i).map λj=>oN [s.o0 (j+3),s.o1 (j+3),(λq=>if q∈h.take nb then i+3 else s.o2 q) (j+3)])++[.lst [.leaf (.int (x:Int)),.leaf (.int (y:Int)),.leaf (.int ((2:Nat):Int))]]))))) _
  rw[eo];show W K _ (rh m F G (O1 (i+1) (TT.put s.o0 (i+3) x) (TT.put s.o1 (i+3) y) (TT.put (λq=>if q∈h.take nb then i+3 else s.o2 q) (i+3) 2)) (G0 (i+4) s.i0 s.i1 (TT.put s.i2 (i+3) (h.take nb))) (s.path.drop na) (h.drop nb) (.val (.int (i:Int))) (.own [.int (TT.pv F i:Nat),.int (TT.pv G i:Nat)]) z8 z9) _
  refine B2 (r9 (u0:=G0 (i+4) s.i0 s.i1 (TT.put s.i2 (i+3) (h.take nb))) (π:=[]++[x]++[0]) (aJ0 0 (aJ0 x aF5 (J8 (Q2 rfl) (aS4 A9) rfl hpl) rfl (λu _=>⟨u,rfl⟩)) A9 rfl (λu0 h=>by cases h;exact⟨_,aE9 (by omega)⟩)) rfl (cK7 (by omega)) (aV8 (S1 A9 (A3 rfl))) ?_ ?_ (i3 rfl rfl c8 c9))
  ·rw[Aa3];unfold PySem.sizeLine;omega
  have ej:=cG5 (n:=i+4) (q:=x) (i0:=s.i0) (i1:=s.i1) (i2:=TT.put s.i2 (i+3) (h.take nb)) (by omega) (i+3)
  rw[<- e3]at ej;show W K _ ((rh m F G (O1 (i+1) (TT.put s.o0 (i+3) x) (TT.put s.o1 (i+3) y) (TT.put (λq=>if q∈h.take nb then i+3 else s.o2 q) (i+3) 2)) (G0 (i+4) s.i0 s.i1 (TT.put s.i2 (i+3) (h.take nb))) (s.path.drop na) (h.drop nb) (.val (.int (i:Int))) (.own [.int (TT.pv F i:Nat),.int (TT.pv G i:Nat)]) z8 z9).set 3 (.tr ((G0 (i+4) s.i0 s.i1 (TT.put s.i2 (i+3) (h.take nb))).put ([]++[x]++[0]) (.lst (((s.i0 x).map λ(x:Nat)=>OT.leaf (.int (x:Int)))++[.leaf (.int (3+(i:Int)))]))))) _
  rw[ej];show W K _ (rh m F G (O1 (i+1) (TT.put s.o0 (i+3) x) (TT.put s.o1 (i+3) y) (TT.put (λq=>if q∈h.take nb then i+3 else s.o2 q) (i+3) 2)) (G0 (i+4) (TT.put s.i0 x (s.i0 x++[i+3])) s.i1 (TT.put s.i2 (i+3) (h.take nb))) (s.path.drop na) (h.drop nb) (.val (.int (i:Int))) (.own [.int (TT.pv F i:Nat),.int (TT.pv G i:Nat)]) z8 z9) _
  refine B2 (r9 (u0:=G0 (i+4) (TT.put s.i0 x (s.i0 x++[i+3])) s.i1 (TT.put s.i2 (i+3) (h.take nb))) (π:=[]++[y]++[1]) (aJ0 1 (aJ0 y aF5 (J8 (Q2 rfl) (aS4 A9) rfl hhl) rfl (λu _=>⟨u,rfl⟩)) A9 rfl (λu0 h=>by cases h;exact⟨_,aE9 (by omega)⟩)) rfl (cQ3 (by omega)) (aV8 (S1 A9 (A3 rfl))) ?_ ?_ (i3 rfl rfl c8 c9))
  ·rw[Aa3];unfold PySem.sizeLine;omega
  have ek:=bY8 (n:=i+4) (q:=y) (i0:=TT.put s.i0 x (s.i0 x++[i+3])) (i1:=s.i1) (i2:=TT.put s.i2 (i+3) (h.take nb)) (by omega) (i+3)
  rw[<- e3]at ek;show W K _ ((rh m F G (O1 (i+1) (TT.put s.o0 (i+3) x) (TT.put s.o1 (i+3) y) (TT.put (λq=>if q∈h.take nb then i+3 else s.o2 q) (i+3) 2)) (G0 (i+4) (TT.put s.i0 x (s.i0 x++[i+3])) s.i1 (TT.put s.i2 (i+3) (h.take nb))) (s.path.drop na) (h.drop nb) (.val (.int (i:Int))) (.own [.int (TT.pv F i:Nat),.int (TT.pv G i:Nat)]) z8 z9).set 3 (.tr ((G0 (i+4) (TT.put s.i0 x (s.i0 x++[i+3])) s.i1 (TT.put s.i2 (i+3) (h.take nb))).put ([]++[y]++[1]) (.lst (((s.i1 y).map λ(x:Nat)=>OT.leaf (.int (x:Int)))++[.leaf (.int (3+(i:Int)))]))))) _
  rw[ek];show W K _ (rh m F G (O1 (i+1) (TT.put s.o0 (i+3) x) (TT.put s.o1 (i+3) y) (TT.put (λq=>if q∈h.take nb then i+3 else s.o2 q) (i+3) 2)) (G0 (i+4) (TT.put s.i0 x (s.i0 x++[i+3])) (TT.put s.i1 y (s.i1 y++[i+3])) (TT.put s.i2 (i+3) (h.take nb))) (s.path.drop na) (h.drop nb) (.val (.int (i:Int))) (.own [.int (TT.pv F i:Nat),.int (TT.pv G i:Nat)]) z8 z9) _
  refine d4 (ds:=nI (s.path.drop na).reverse) rfl (S1 A9 (A3 rfl)) ?_ ⟨.val (.int (i:Int)),.own [.int (TT.pv F i:Nat),.int (TT.pv G i:Nat)],z8,z9,⟨rfl,rfl,c8,c9⟩,?_⟩ (i3 rfl rfl c8 c9)
  ·rw[N9,Ad9,List.length_drop];unfold PySem.sizeLine;omega
  rw[hst];simp only[TT.S.step,sk,hh,ex,ey,List.headD_cons];rw[e3];unfold rh
  simp[nI]
  rfl
 ·rintro _ ⟨x6,x7,x8,x9,⟨b6,b7,b8,b9⟩,rfl⟩;have em:(W4 0 (((fl F m).map PyData.int).length:Int).toNat).length=m:=by rw[Q1,cG9];omega
  rw[em];have GI:=TT.T1 R m (Aa7 _);have Lm:=TT.aN7 GI.inv;have I2:=TT.cB3 R m (Aa7 _);have pl:=GI.p;have hl:=GI.h;have gk:=GI.k;have gle:=GI.le;have gle2:=GI.le2;obtain ⟨p,hp⟩:=GI.inv.pe;obtain ⟨h,hh⟩:=GI.inv.he;have R2:=cK6 hp hh;have R0:=TT.aH6 (s:=TT.gst F G m);have R1:=TT.aR0 (s:=TT.gst F G m);have RI:∀q,3<=q->q<m+3->(TT.gst F G m).row q=_:=λq h1 h2=>TT.Q4 h1 (by rw[gk];exact h2)
  generalize hs:TT.gst F G m=s at Lm I2 pl hl gk hp hh R2 R0 R1 RI k ⊢;rw[gk]at Lm;refine B2 (bR9 (λk ρ=>∃j,j+k+1=s.path.length/\ρ=rh m F G (O1 m s.o0 s.o1 s.o2) (G0 (m+3) s.i0 s.i1 s.i2) (s.path.drop j) (s.h1 j) x6 x7 x8 x9) ⟨s.path.length-1,0,by rw[hp];simp,rfl⟩ ?_)
  rintro k0 _ ⟨j,hj,rfl⟩;refine⟨_,O0 (bE7 (Z7 (A1 (Q2 rfl) A7)) A9),?_⟩;have el:(nI (s.path.drop j).reverse).length=k0+1:=by rw[N9,Ad9,List.length_drop];omega
  rw[el];by_cases hk:k0=0
  ·subst hk;rw[if_neg (by simp)]
   have ej:s.path.drop j=[0]:=by
    rw[hp,Ab7]at hj;rw[hp,List.drop_append,List.drop_of_length_le (by simp at hj;omega)]
    have:j-p.length=0:=by simp at hj;omega
    rw[this];rfl
   have eh:s.h1 j=(p.reverse++h)++[1]:=by
    unfold TT.S.h1;rw[hp,Ab7]at hj;rw[hp,hh,List.take_append_of_le_length (by simp at hj;omega),List.take_of_length_le (by simp at hj;omega)]
    simp
   rw[ej,eh];generalize hq:p.reverse++h=q at R2;have ql:q.length<=3000:=by
    have:=Lm 2
    rw[R2]at this;simp at this;omega
   have ei:s.i2=TT.put s.i2 2 (q.take 0):=by
    funext z;by_cases e:z=2
    ·rw[e,TT.B5,I2];rfl
    ·rw[TT.B6 e]
   rw[ei];refine B2 (bR9 (λk ρ=>∃j,j+k=q.length/\ρ=rh m F G (O1 m s.o0 s.o1 s.o2) (G0 (m+3) s.i0 s.i1 (TT.put s.i2 2 (q.take j))) [0] ((q++[1]).drop j) x6 x7 x8 x9) ⟨q.length,0,by omega,rfl⟩ ?_)
   rintro k1 _ ⟨j1,hj1,rfl⟩;refine⟨_,O0 (bE7 (Z7 (A1 (Q2 rfl) A7)) A9),?_⟩;have el:(nI ((q++[1]).drop j1).reverse).length=k1+1:=by rw[N9,Ad9,List.length_drop];simp;omega
   rw[el];by_cases hk:k1=0
   ·subst hk;rw[if_neg (by simp)]
    have ej1:j1=q.length:=by omega
    subst ej1;rw[List.take_length];refine cD0 (i:=3) rfl (cD0 (i:=2) rfl ?_);rw[bU6,bU4];show W K _ (rh2 m F G (.list ((List.range m).map λj=>lN [s.o0 (j+3),s.o1 (j+3),s.o2 (j+3)])) (.list ((List.range (m+3)).map λz=>.tuple [lN (s.i0 z),lN (s.i1 z),lN (TT.put s.i2 2 q z)])) (nI ([0]:List Nat).reverse) (nI ((q++[1]).drop q.length).reverse) x6 x7 x8 x9 .no .no .no .no) _
    generalize hiD:(PyData.list ((List.range (m+3)).map λz=>.tuple [lN (s.i0 z),lN (s.i1 z),lN (TT.put s.i2 2 q z)]))=iD
    generalize hoD:(PyData.list ((List.range m).map λj=>lN [s.o0 (j+3),s.o1 (j+3),s.o2 (j+3)]))=oD
    generalize hpD:nI ([0]:List Nat).reverse=pD;generalize hhD:nI ((q++[1]).drop q.length).reverse=hD;show W K _ (rh2 m F G oD iD pD hD x6 x7 x8 x9 .no .no .no .no) _;have sqi:sq iD=some ((List.range (m+3)).map λz=>.tuple [lN (s.i0 z),lN (s.i1 z),lN (TT.put s.i2 2 q z)]):=by rw[<- hiD];rfl
    have sqo:sq oD=some ((List.range m).map λj=>lN [s.o0 (j+3),s.o1 (j+3),s.o2 (j+3)]):=by rw[<- hoD];rfl
    have L0:=Lm 0
    have L1:=Lm 1
    have L2':=Lm 2
    rw[R0]at L0;rw[R1]at L1;rw[R2]at L2';simp only[List.length_cons,Ab7,Ad9,List.length_nil]at L0 L1 L2';refine B2 (K2 (ds:=[lN (s.row 0)]) (G8 (A1 (EF.toN (V3 (l:=[1]++s.i0 0) (l':=[2]) (EF.e' (V3 (l:=[1]) (l':=s.i0 0) (EF.e' (G8 (A1 A9 A7))) (J8 (J8 (A3 rfl) A9 sqi (aH9 (q:=0) (by omega))) A9 rfl rfl) (by simp;omega))) (EF.e' (G8 (A1 A9 A7))) (by simp;omega)) (by rw[R0];simp)) A7)) ?_ (show 10<14 by decide))
    show W K _ (rh2 m F G oD iD pD hD x6 x7 x8 x9 (.own [lN (s.row 0)]) .no .no .no) _
    refine B2 (d4 (d:=lN (s.row 1)) rfl (EF.toN (V3 (l:=[2]++(s.i1 1).reverse) (l':=[0]) (EF.e' (V3 (l:=[2]) (l':=(s.i1 1).reverse) (EF.e' (G8 (A1 A9 A7))) (EF.e' (bR4 (J8 (J8 (A3 rfl) A9 sqi (aH9 (q:=1) (by omega))) A9 rfl rfl))) (by simp;omega))) (EF.e' (G8 (A1 A9 A7))) (by simp;omega)) (by rw[R1];simp)) (by show 1<_;unfold PySem.sizeLine;omega) ?_ (bL0 b6 b7 b8 b9 rfl rfl rfl rfl))
    show W K _ (rh2 m F G oD iD pD hD x6 x7 x8 x9 (.own [lN (s.row 0),lN (s.row 1)]) .no .no .no) _
    refine B2 (d4 (d:=lN (s.row 2)) rfl (EF.toN (V3 (l:=[0]++TT.put s.i2 2 q 2) (l':=[1]) (EF.e' (V3 (l:=[0]) (l':=TT.put s.i2 2 q 2) (EF.e' (G8 (A1 A9 A7))) (J8 (J8 (A3 rfl) A9 sqi (aH9 (q:=2) (by omega))) A9 rfl rfl) (by rw[TT.B5];simp;omega))) (EF.e' (G8 (A1 A9 A7))) (by rw[TT.B5];simp;omega)) (by rw[R2,TT.B5];simp)) (by show 2<_;unfold PySem.sizeLine;omega) ?_ (bL0 b6 b7 b8 b9 rfl rfl rfl rfl))
    show W K _ (rh2 m F G oD iD pD hD x6 x7 x8 x9 (.own ((List.range (0+3)).map λz=>lN (s.row z))) .no .no .no) _
    refine B2 (Z8 (V8 (A1 (Z7 (A1 (A3 rfl) A7) sqo) A7) ?_ ?_) (λv ρ=>∃x11 x12 x13,(x11.nb=true/\x12.nb=true/\x13.nb=true)/\ρ=rh2 m F G oD iD pD hD x6 x7 x8 x9 (.own ((List.range (v+3)).map λz=>lN (s.row z))) x11 x12 x13) ⟨.no,.no,.no,⟨rfl,rfl,rfl⟩,rfl⟩ ?_ ?_)
    ·simp <;> omega
    ·simp <;> omega
    ·rintro v d _ hd ⟨x11,x12,x13,⟨b11,b12,b13⟩,rfl⟩;obtain ⟨rfl,hv⟩:=W6 hd;have hv:v<m:=by simpa using hv
     have e3:(3:Int)+(v:Int)=((v+3:Nat):Int):=by omega
     have i2v:TT.put s.i2 2 q (v+3)=s.i2 (v+3):=TT.B6 (by omega)
     have Rv:=RI (v+3) (by omega) (by omega)
     have Lv:=Lm (v+3)
     rw[Rv]at Lv;simp only[List.length_cons,Ab7,Ad9]at Lv;refine⟨_,D7,?_⟩;refine B2 (Q8 (d:=.tuple [lN (s.i0 (v+3)),lN (s.i1 (v+3)),lN (s.i2 (v+3))]) (J8 (A3 rfl) (S1 A9 (A3 rfl)) sqi ?_) ?_)
     ·rw[e3,aH9 (by omega),i2v]
     show W K _ (rh2 m F G oD iD pD hD x6 x7 x8 x9 (.own ((List.range (v+3)).map λz=>lN (s.row z))) (.val (.int (v:Int))) (.val (.tuple [lN (s.i0 (v+3)),lN (s.i1 (v+3)),lN (s.i2 (v+3))])) x13) _
     refine B2 (K2 (ds:=nI ([s.o0 (v+3)]++s.i2 (v+3)++[s.o1 (v+3)]++s.i0 (v+3))) (V3 (EF.e' (V3 (l':=[s.o1 (v+3)]) (EF.e' (V3 (l:=[s.o0 (v+3)]) (EF.e' (G8 (A1 (J8 (d':=.int (s.o0 (v+3):Nat)) (J8 (A3 rfl) (A3 rfl) sqo (aH9 hv)) A9 rfl rfl) A7) (show 1<=16777216 by decide))) (J8 (A3 rfl) A9 rfl rfl) (by simp;omega)))
      (EF.e' (G8 (A1 (J8 (d':=.int (s.o1 (v+3):Nat)) (J8 (A3 rfl) (A3 rfl) sqo (aH9 hv)) A9 rfl rfl) A7) (show 1<=16777216 by decide))) (by simp;omega))) (J8 (A3 rfl) A9 rfl rfl) (by simp;omega)) ?_ (show 13<14 by decide))
     show W K _ (rh2 m F G oD iD pD hD x6 x7 x8 x9 (.own ((List.range (v+3)).map λz=>lN (s.row z))) (.val (.int (v:Int))) (.val (.tuple [lN (s.i0 (v+3)),lN (s.i1 (v+3)),lN (s.i2 (v+3))])) (.own (nI ([s.o0 (v+3)]++s.i2 (v+3)++[s.o1 (v+3)]++s.i0 (v+3))))) _
     refine d4 (ds:=(List.range (v+3)).map λz=>lN (s.row z)) (d:=lN (s.row (v+3))) rfl (EF.toN (V3 (l:=[s.o0 (v+3)]++s.i2 (v+3)++[s.o1 (v+3)]++s.i0 (v+3)++[s.o2 (v+3)]) (l':=(s.i1 (v+3)).reverse) (EF.e' (V3 (l:=[s.o0 (v+3)]++s.i2 (v+3)++[s.o1 (v+3)]++s.i0 (v+3)) (l':=[s.o2 (v+3)]) (Q2 rfl) (EF.e' (G8 (A1 (J8 (d':=.int (s.o2 (v+3):Nat)) (J8 (A3 rfl) (A3 rfl) sqo (aH9 hv)) A9 rfl rfl) A7) (show 1<=16777216 by decide))) (by simp;omega)))
      (EF.e' (bR4 (J8 (A3 rfl) A9 rfl rfl))) (by simp;omega)) (by rw[Rv];simp)) ?_ ⟨.val (.int (v:Int)),.val (.tuple [lN (s.i0 (v+3)),lN (s.i1 (v+3)),lN (s.i2 (v+3))]),.own (nI ([s.o0 (v+3)]++s.i2 (v+3)++[s.o1 (v+3)]++s.i0 (v+3))),⟨rfl,rfl,rfl⟩,?_⟩ (bL0 b6 b7 b8 b9 rfl rfl rfl rfl)
     ·rw[Aa3,List.length_range];unfold PySem.sizeLine;omega
     ·have er:(List.range (v+3)).map (λz=>lN (s.row z))++[lN (s.row (v+3))]=(List.range (v+1+3)).map λz=>lN (s.row z):=by
       rw[show v+1+3=(v+3)+1 by omega,List.range_succ (n:=v+3),Ad1];rfl
      rw[er];rfl
    rintro _ ⟨x11,x12,x13,⟨b11,b12,b13⟩,rfl⟩;rw[Q1];have e4:((((List.range m).map λj=>lN [s.o0 (j+3),s.o1 (j+3),s.o2 (j+3)]).length:Int)).toNat=m:=by simp
    rw[e4];refine aQ8 (i:=10) rfl ?_;exact Q3 (X3 (A1 (A3 rfl) (A1 (A3 rfl) A7))) (by rw[<- hoD])
   ·have hd:decide (((k1+1:Nat):Int)>1)=true:=by simp;omega
    rw[hd,if_pos rfl];have hlt:j1<q.length:=by omega
    have e1:(q++[1]).drop j1=q[j1]::(q++[1]).drop (j1+1):=by
     rw[List.drop_eq_getElem_cons (by simp;omega),List.getElem_append_left hlt]
    have e2:q.take (j1+1)=q.take j1++[q[j1]]:=List.take_succ_eq_append_getElem hlt
    refine bN6 (i:=3) (j:=5) (d:=.int (q[j1]:Nat)) (u0:=G0 (m+3) s.i0 s.i1 (TT.put s.i2 2 (q.take j1))) (π:=[]++[2]++[2]) (aJ0 2 (aJ0 2 aF5 A9 rfl (λu _=>⟨u,rfl⟩)) A9 rfl (λu0 h=>by cases h;exact⟨_,aE9 (by omega)⟩))
     (bN4 (ds:=nI ((q++[1]).drop (j1+1)).reverse) ?_ (i3 b6 b7 b8 b9)) (by decide) ⟨_,rfl,rfl⟩ rfl rfl (bR6 (by omega)) ?_ ⟨k1-1,by omega,j1+1,by omega,?_⟩ (i3 (m:=m) (F:=F) (G:=G) (o:=O1 m s.o0 s.o1 s.o2) (i:=G0 (m+3) s.i0 s.i1 (TT.put s.i2 2 (q.take j1))) (p:=[0]) (h:=(q++[1]).drop (j1+1)) b6 b7 b8 b9)
    ·show some (Sl.own (nI ((q++[1]).drop j1).reverse))=_
     rw[e1,List.reverse_cons,aO7];rfl
    ·rw[Aa3,TT.B5,Ad0];unfold PySem.sizeLine;omega
    ·rw[bG1 (by omega),bS6,TT.B5,<- e2];rfl
  ·have hd:decide (((k0+1:Nat):Int)>1)=true:=by simp;omega
   rw[hd,if_pos rfl];obtain ⟨x,hx⟩:∃x,s.path[j]? = some x:=⟨_,Aa2 (by omega)⟩
   have e1:s.path.drop j=x::s.path.drop (j+1):=by
    obtain ⟨h1,h2⟩:=Ab0.mp hx;rw[<- h2];exact List.drop_eq_getElem_cons h1
   have e2:s.h1 (j+1)=x::s.h1 j:=by
    unfold TT.S.h1;obtain ⟨h1,h2⟩:=Ab0.mp hx;rw[List.take_succ_eq_append_getElem h1,h2];simp
   refine aK4 (ds:=nI (s.h1 j).reverse) (bN4 (d:=.int (x:Int)) (ds:=nI (s.path.drop (j+1)).reverse) ?_ (i3 b6 b7 b8 b9)) rfl rfl ?_ ⟨k0-1,by omega,j+1,by omega,?_⟩ (i3 (m:=m) (F:=F) (G:=G) (o:=O1 m s.o0 s.o1 s.o2) (i:=G0 (m+3) s.i0 s.i1 s.i2) (p:=s.path.drop (j+1)) (h:=s.h1 j) b6 b7 b8 b9)
   ·show some (Sl.own (nI (s.path.drop j).reverse))=_
    rw[e1];simp[nI]
   ·rw[N9,Ad9];unfold TT.S.h1 PySem.sizeLine;simp only[Ab7,Ad9,Ad0];omega
   ·rw[e2];unfold rh
    simp[nI]
end
theorem aL7:D5 ["_law_script", "_law_k"] ["_law_script", "_law_k"] (A8 O7):=⟨rfl,rfl,rfl,by decide +kernel,rfl,by decide +kernel,by decide +kernel⟩
theorem sc__law_begun:D5 ["_law_turn", "_law_at"] ["_law_turn"] (A8 R4):=⟨rfl,rfl,rfl,by decide +kernel,rfl,by decide +kernel,by decide +kernel⟩
theorem aT3:D5 ["_law_found"] ["_law_found"] (A8 R7):=⟨rfl,rfl,rfl,by decide +kernel,rfl,by decide +kernel,by decide +kernel⟩
theorem cL5 {K:PySem.W.Frag}{pre:List PyData->List PyData->Prop}{n:Nat}(h:∀ds d,pre ds d->ds.length=n):∀vs H Q E,spL K pre vs H Q E->vs.length=n:=λvs H Q E ⟨ds,S,d,_,r,p,_⟩=>by
 have e:=r.length
 rw[e];exact h ds d p
def cl (ns:List Int)(k:Int):Int:=(ns[k.toNat]?).getD 0
def cO4 (ds:List PyData)(d:PyData):Prop:=∃ns k,0<=k/\ds=[lI ns,.int k]/\d=.int (cl ns k)
def bH1 (ds:List PyData)(d:PyData):Prop:=∃i,ds=[.int i]/\d=.bool true
def tN (l:List Nat):PyData:=.tuple (nI l)
def bZ9 (ds:List PyData)(d:PyData):Prop:=∃l:List Nat,l≠[]/\l.length<=10000/\ds=[lN l]/\d=tN (TT.Z3 l)
theorem bJ2 (M:Nat):∀l:List Nat,(l.map λ(x:Nat)=>(x:Int)).idxOf (M:Int)=l.idxOf M
 | []=>rfl
 | b::l=>by
  rw[Ac6,List.idxOf_cons,List.idxOf_cons,bJ2 M l];by_cases e:b=M
  ·subst e;simp
  ·have e':¬(b:Int)=(M:Int):=by omega
   have h1:(b==M)=false:=by simpa using e
   have h2:((b:Int)==(M:Int))=false:=by simpa using e'
   rw[h1,h2]
section
variable {P:Program}{w:World}{K:PySem.W.Frag}{mg:Str->Option Value}{base:Heap}{a:Ad}
theorem bO1 (T:Tx K mg a):E4 P w K mg base CX0 1 a.d5 a.Z0 ["_law_script", "_law_k"] (spV K cO4):=by
 refine T.O8.ok aL7 (aA4 λds d ⟨_,_,_,e,_⟩=>by rw[e];rfl) (λcdv A outer s H vs Q E hr h=>?_)
 obtain ⟨ds,S,d,hS,r,⟨ns,k,h0,rfl,rfl⟩,q⟩:=h;refine⟨_,(A5 (V6 (H9 cT2 (pv 1) (B9 N2 (by rfl) T.V4 PySem.boot_len (A0 (pv 0) A2)) (K3 _)) (B0 (D6 (C0 C1 (pv 0) (pv 1) (λ_ _=>rfl)))) L9)
   (B0 (D6 A6))),S6 hS r ?_ q⟩
 refine B2 (aC3 (O0 (bE7 (A3 rfl) (Z7 (A1 (A3 rfl) A7)))) (λh=>(Q3 (d:=.int (cl ns k)) (J8 (A3 rfl) (A3 rfl) rfl ?_) rfl)) (λh=>Q6 ?_))
 ·have h:k<(ns.map PyData.int).length:=of_decide_eq_true h
  rw[Aa3]at h;refine Q0 k.toNat (by omega) ?_
  have hl:k.toNat<ns.length:=by omega
  rw[Aa9,Aa2 hl];unfold cl;rw[Aa2 hl];rfl
 have h:¬k<((ns.map PyData.int).length:Int):=of_decide_eq_false h
 rw[Aa3]at h;refine(Q3 A9 ?_);show PyData.int 0=.int (cl ns k);unfold cl;rw[Ad4 (by omega)];rfl
theorem cD9 (T:Tx K mg a):E4 P w K mg base CX0 1 a.t9 a.y6 ["_law_found"] (spV K bH1):=by
 refine T.aG8.ok aT3 (aA4 λds d ⟨_,e,_⟩=>by rw[e];rfl) (λcdv A outer s H vs Q E hr h=>?_)
 obtain ⟨ds,S,d,hS,r,⟨i,rfl,rfl⟩,q⟩:=h;refine⟨_,(B0 (D6 (aS0 (B9 aQ6 (by rfl) T.D8 boot_isinstance (A0 (pv 0) (A0 (bE2 rfl T.bG5 boot_int) A2))) (aC1 (cH1 (B9 aQ6 (by rfl) T.D8 boot_isinstance (A0 (pv 0) (A0 (bE2 rfl T.aP3 boot_bool) A2)))))))),S6 hS r ?_ q⟩
 refine(Q3 (bJ1 (bQ4 (A3 rfl)) λh=>(cR5 (bQ4 (A3 rfl)))) ?_)
 rfl
theorem cD6 (T:Tx K mg a):E4 P w K mg base CX0 1 a.w4 a.v9 ["_law_turn"] (spV K bZ9):=by
 refine T.aG4.ok sc__law_begun (aA4 λds d ⟨_,_,_,e,_⟩=>by rw[e];rfl) (λcdv A outer s H vs Q E hr h=>?_)
 obtain ⟨ds,S,d,hS,r,⟨l,hne,hl,rfl,rfl⟩,q⟩:=h;refine⟨_,(A5 (B8 (i:=1) sc__law_begun.nd rfl (Or.inl rfl) (U8 Ab1 PySem.F.slot_list_index PySem.F.type_list_index (bV6 K) (pv 0) (A0 (B9 (bX3 K rfl) (by rfl) T.bF0 boot_min (A0 (pv 0) A2)) A2)))
   (B0 (D6 (P7 S9 (by rfl) T.T4 boot_tuple (A0 (B4 (K0 K) (R3 bC5 (pv 0) (V1 (pv 1)) V2) (R3 bC5 (pv 0) V2 (V1 (pv 1)))) A2))))),S6 hS r ?_ q⟩
 obtain ⟨hm1,hm2⟩:=TT.cQ4 hne;have el:lN l=lI (l.map λ(x:Nat)=>(x:Int)):=by unfold lN lI nI;simp
 have hM:((TT.mn l:Nat):Int)∈(l.map λ(x:Nat)=>(x:Int))/\∀z∈(l.map λ(x:Nat)=>(x:Int)),((TT.mn l:Nat):Int)<=z:=⟨Aa8.mpr ⟨_,hm1,rfl⟩,λz hz=>by
  obtain ⟨y,hy,rfl⟩:=Aa8.mp hz
  have:=hm2 y hy
  omega⟩
 have hix:=bJ2 (TT.mn l) l
 have hidx:l.idxOf (TT.mn l)<=l.length:=Nat.le_of_lt (List.idxOf_lt_length_of_mem hm1)
 refine B2 (Q8 (d:=.int (l.idxOf (TT.mn l):Nat)) ?_ ?_)
 ·have h:=cD4 (K:=K) (m:=true) (ρ:=sl0 ["_law_turn", "_law_at"].length [lI (l.map λ(x:Nat)=>(x:Int))]) (ta:=Q7 0) (A3 (i:=0) rfl) (dE1 (A1 (A3 (i:=0) rfl) A7) hM) hM.1
  rw[hix]at h;rw[el];exact h
 refine Q3 (aD7 (A1 (EF.e' (t6 (EF.e' (aV6 (ds:=nI l) (A3 rfl) (aJ5 (A3 rfl)) aJ9 (S5 l))) (EF.e' (aV6 (ds:=nI l) (A3 rfl) aJ9 (aJ5 (A3 rfl)) (S5 l))) (aA6 _ _ (S5 l)) (aA6 _ _ (S5 l)) ?_)) A7) ?_) ?_
 ·rw[bN0 (by rw[N9];exact hidx),aZ1 (by rw[N9];exact hidx),List.length_drop,Ad0,N9];unfold PySem.sizeLine;omega
 ·rw[aI7,aA6 _ _ (S5 l),aA6 _ _ (S5 l)];rfl
 ·show PyData.tuple _=tN _
  rw[bN0 (by rw[N9];exact hidx),aZ1 (by rw[N9];exact hidx)]
  unfold tN TT.Z3 nI
  simp
end
end K12
namespace LV
open PySem L2
section
variable {K:PySem.W.Frag}{ρ ρ' ρ1:List Sl}{m m':Bool}{t ta tb tc:TE}{d d':PyData}{ds es:List PyData}
theorem cH3 {i:Nat}{k:Int}{R:AE}(n:Nat)(he:E K true t ρ d)(hi:ρ[i]? = some (.own ds))(hk:E K false tb ρ (.int k))(hkn:k=n)(hn':n<ds.length)(hn:R.nx (ρ.set i (.own (ds.set n d))))(nb:X4 ρ=true:=by rfl) :
  W K (aM8 t (cY3 (Q7 i) tb cI5)) ρ R:=λS B D σ H o I s=>by
 refine he S B σ H o I _ λx H0 s0 rx=>?_
 obtain ⟨p,hp,a,xs,b,c⟩:=(I.grow s0).own i ds hi;refine⟨_,a,?_⟩;refine hk S B σ H0 o (I.grow s0) _ λw H2 s2 rw_=>?_
 cases rw_
 have hl:=c.length
 refine⟨p,xs,k,n,rfl,rfl,s2 _ _ b,by unfold ixN;rw[if_pos (by omega),if_pos (by omega)];simp[hkn],?_⟩
 exact s.nx _ σ _ _ (((I.grow s0).grow s2).upd hi hp ((c.mono (M9 s2)).set n (rx.mono (M9 s2))) (O3 nb)) hn
theorem Reps.rep {H:Hp}{xs:List V}(r:Reps K H xs ds):∀n:Nat,Reps K H (List.replicate n xs).flatten (List.replicate n ds).flatten
 | 0=>.nil
 | n+1=>by
  rw[List.replicate_succ,List.replicate_succ,List.flatten_cons,List.flatten_cons];exact r.append (Reps.rep r n)
theorem bD8 (h:M2 ds=true):∀n:Nat,M2 (List.replicate n ds).flatten=true
 | 0=>rfl
 | n+1=>by rw[List.replicate_succ,List.flatten_cons,aI7,h,bD8 h n];rfl
theorem cE2 {k:Int}(ha:EF K ta ρ ds)(hb:E K false tb ρ (.int k))(hi:M2 ds=true)(h1 : -(2^63)<=k)(h2:k<2^63)(hl:ds.length*k.toNat<=sizeLine):EF K (tOp dC8 ta tb) ρ (List.replicate k.toNat ds).flatten:=λS B σ H o I Q q=>
 ha S B σ H o I _ λp xs H1 s1 n1 e1 r1=>hb S B σ H1 o (I.grow s1) _ λy H2 s2 ry=>by
  cases ry
  have r2:Reps K H2 xs ds:=(r1.mono X6).mono s2
  refine⟨p,k,xs,rfl,rfl,s2 _ _ e1,h1,h2,by rw[r2.length];exact hl,λp' hp'=>?_⟩
  exact q p' _ _ (L2.Same.tr (L2.Same.tr s1 s2) (E6 hp')) (Y5 (L2.Same.tr s1 s2) hp') B7 (aA8 (I.grow (L2.Same.tr s1 s2)).lists hp' (r2.rep _) (bD8 hi _))
end
section
variable {K:PySem.W.Frag}{ρ ρ' ρ1:List Sl}{m m':Bool}{t ta tb tc:TE}{d d':PyData}{ds es:List PyData}
theorem bD9 {H:Hp}:∀{ts:List (List Int)} {vs:List V},Reps K H vs (ts.map tI)->(∀t∈ts,t≠[])->TupsV K H vs ts
 | [],_,r,_=>by cases r;exact trivial
 | t::ts,_,r,h=>by
  cases r with
  | cons a b=>
   refine⟨?_,bD9 b λt ht=>h t (by simp[ht])⟩
   cases a with
   | tup s r=>rw[r.ints]at s;exact⟨_,rfl,s,h t (by simp)⟩
theorem aX1 {H:Hp}{vs:List V}{ts:List (List Int)}(r:Reps K H vs (ts.map tI)):∀{q:List Nat},(∀i∈q,i<vs.length)->Reps K H (q.map λi=>vs.getD i .non) ((q.map λi=>ts.getD i []).map tI)
 | [],_=>.nil
 | i::q,h=>by
  have hi:=h i (by simp)
  have hl:=r.length
  rw[Aa3]at hl;obtain ⟨v,h1,h2⟩:=r.get' (i:=i) (d:=tI (ts.getD i [])) (by
   rw[Aa9,Aa2 (by omega)]
   simp[List.getD,Aa2 (show i<ts.length by omega)])
  have e:vs.getD i .non=v:=by simp[List.getD,h1]
  rw[Ac6,Ac6,Ac6,e];exact .cons h2 (aX1 r λj hj=>h j (by simp[hj]))
theorem aP2 {t:TA}{ts ss:List (List Int)}(ha:A K false t ρ [.list (ts.map tI)])(hne:∀t∈ts,t≠[])(h64:ts.length<64)(hp:ss.Perm ts)(hs:ss.Pairwise M0) :
  EF K (tCB (λxs H Q=>∃(p:Addr) (ys:List V) (ts:List (List Int)),xs=[.ref p]/\SqL K H p ys/\TupsV K H ys ts/\ys.length<64 /\
   ∀a (q:List Nat),H a=none->q.Perm (List.range ys.length)->(q.map λi=>ts.getD i []).Pairwise M0->Q (.ref a) (upd H a (.lst (q.map λi=>ys.getD i .non)))) t) ρ (ss.map tI):=
 cT4 ha (aH3 cC0 ss) λH vs Q r q=>by
  cases r with
  | cons a b=>
   cases b
   cases a with
   | @lst p xs _ s r=>
    have hl:=r.length
    rw[Aa3]at hl;refine⟨p,xs,ts,rfl,s,bD9 r hne,by omega,λa qs h1 h2 h3=>q a _ h1 ?_⟩
    have e:(qs.map λi=>ts.getD i [])=ss:=by
     have hperm:(qs.map λi=>ts.getD i []).Perm ts:=by
      have h4:(qs.map λi=>ts.getD i []).Perm ((List.range xs.length).map λi=>ts.getD i []):=h2.map _
      have h5:(List.range xs.length).map (λi=>ts.getD i [])=ts:=by
       refine List.ext_getElem? λj=>?_
       by_cases hj:j<xs.length
       ·rw[U7 hj];simp[List.getD,Aa2 (show j<ts.length by omega)]
       ·rw[Ad4 (by simp;omega),Ad4 (by omega)]
      rw[h5]at h4;exact h4
     exact List.Perm.eq_of_pairwise (le:=M0) (λa b _ _ h1 h2=>aQ7 a b h1 h2) h3 hs (hperm.trans hp.symm)
    have:=aX1 r (q:=qs) λi hi=>Ab5.mp (h2.mem_iff.mp hi)
    rw[e]at this;exact this
end
end LV
namespace K12
open PySem L2 LV PyProof.Rows
theorem aT4:D5 ["_law_cell", "_law_k"] ["_law_cell", "_law_k"] (A8 S4):=⟨rfl,rfl,rfl,by decide +kernel,rfl,by decide +kernel,by decide +kernel⟩
theorem bY3 {i j:Int}(h : -1000000000000000000<i/\i<1000000000000000000)(h' : -1000000000000000000<j/\j<1000000000000000000):CMulB i j:=by
 have:(1000000000000000000:Nat)<2^512:=by decide
 constructor <;> omega
def mx0 (c k:Int):Int:=(c % 1000000007*(k+3)*48271+(k+1)*(k+5)*69621) % 2147483647
def mx (c k:Int):Int:=mx0 c k*40692 % 2147483399
theorem dE7 (c k:Int):0<=mx0 c k/\mx0 c k<2147483647:=⟨Int.emod_nonneg _ (by decide),Int.emod_lt_of_pos _ (by decide)⟩
theorem dH5 (c k:Int):0<=mx c k/\mx c k<2147483399:=⟨Int.emod_nonneg _ (by decide),Int.emod_lt_of_pos _ (by decide)⟩
def aG1 (ds:List PyData)(d:PyData):Prop:=∃c k,(0<=k/\k<=1000)/\ds=[.int c,.int k]/\d=.int (mx c k)
theorem cB6 {x y A B:Int}(h:0<=x/\x<=A)(h':0<=y/\y<=B):0<=x*y/\x*y<=A*B:=⟨Int.mul_nonneg h.1 h'.1,Int.mul_le_mul h.2 h'.2 h'.1 (Int.le_trans h.1 h.2)⟩
section
variable {P:Program}{w:World}{K:PySem.W.Frag}{mg:Str->Option Value}{base:Heap}{a:Ad}
theorem aF9 (T:Tx K mg a):E4 P w K mg base CX0 1 a.w6 a.v8 ["_law_cell", "_law_k"] (spV K aG1):=by
 refine T.U4.ok aT4 (aA4 λds d ⟨_,_,_,e,_⟩=>by rw[e];rfl) (λcdv A outer s H vs Q E hr h=>?_)
 obtain ⟨ds,S,d,hS,r,⟨c,k,⟨h0,h1⟩,rfl,rfl⟩,q⟩:=h;have b1:0<=c % 1000000007/\c % 1000000007<=1000000007:=⟨Int.emod_nonneg _ (by decide),Int.le_of_lt (Int.emod_lt_of_pos _ (by decide))⟩
 have b2:=cB6 b1 (y:=k+3) (B:=2000) ⟨by omega,by omega⟩
 have b3:=cB6 (x:=k+1) (A:=2000) (y:=k+5) (B:=2000) ⟨by omega,by omega⟩ ⟨by omega,by omega⟩
 have b4:=dE7 c k
 refine⟨_,(B0 (D6 (B4 U6 (B4 aI1 (B4 U6 (B4 E9 (B4 aI1 (B4 aI1 (B4 U6 (pv 0) A6) (B4 E9 (pv 1) A6)) A6) (B4 aI1 (B4 aI1 (B4 E9 (pv 1) A6) (B4 E9 (pv 1) A6)) A6)) A6) A6) A6))),S6 hS r ?_ q⟩;refine Q3 (d:=.int (mx c k)) (e_i (e_i (i:=mx0 c k) (e_i (S1 (e_i (e_i (e_i (A3 rfl) A9 ?_) (S1 (A3 rfl) A9) ?_) A9 ?_) (e_i (e_i (S1 (A3 rfl) A9) (S1 (A3 rfl) A9) ?_) A9 ?_)) A9 ?_) A9 (bY3 (by omega) (by omega))) A9 (by decide)) rfl
 ·decide
 ·exact bY3 (by omega) (by omega)
 ·exact bY3 (by omega) (by omega)
 ·exact bY3 (by omega) (by omega)
 ·exact bY3 (by omega) (by omega)
 ·decide
end
end K12
namespace TT
def pk:Nat->Int->List Nat->List Nat
 | 0,_,_=>[]
 | n+1,r,l=>l.getD (r % l.length).toNat 0::pk n (r / l.length) (l.eraseIdx (r % l.length).toNat)
theorem bT1 {r:Int}{l:List Nat}(h:l≠[]):(r % l.length).toNat<l.length:=by
 have hl:0<l.length:=List.length_pos_iff.mpr h
 have h1:=Int.emod_nonneg r (b:=(l.length:Int)) (by omega)
 have h2:=Int.emod_lt_of_pos r (b:=(l.length:Int)) (by omega)
 omega
theorem aP0:∀(l:List Nat) (i:Nat) (h:i<l.length),(l[i]::l.eraseIdx i).Perm l
 | a::l,0,h=>.refl _
 | a::l,i+1,h=>by
  have ih:=aP0 l i (by simpa using h)
  simp only[List.getElem_cons_succ,List.eraseIdx_cons_succ];exact(List.Perm.swap _ _ _).trans (ih.cons a)
theorem bB7:∀(n:Nat) (r:Int) (l:List Nat),l.length=n->(pk n r l).Perm l
 | 0,r,l,h=>by rw[List.length_eq_zero_iff.mp h];exact .nil
 | n+1,r,l,h=>by
  have hne:l≠[]:=λe=>by rw[e]at h;simp at h
  have hi:=bT1 (r:=r) hne
  unfold pk;have e:l.getD (r % l.length).toNat 0=l[(r % l.length).toNat]:=by simp[List.getD,Aa2 hi]
  rw[e];have ih:=bB7 n (r / l.length) (l.eraseIdx (r % l.length).toNat) (by rw[List.length_eraseIdx_of_lt hi];omega)
  exact(ih.cons _).trans (aP0 l _ hi)
theorem dD1 {m:Nat}{l:List Nat}(h:l.Perm ((List.range m).map (· + 3))):Nm (m+3) λv=>([0,1,2]++l).getD v 0:=by
 have hl:l.length=m:=by rw[h.length_eq];simp
 have nd:([0,1,2]++l).Nodup:=by
  have h1:l.Nodup:=h.nodup_iff.mpr (Ad8.mpr (List.nodup_range.imp λh e=>h (by omega)))
  have h2:∀x∈l,3<=x:=λx hx=>by
   obtain ⟨y,_,e⟩:=Aa8.mp (h.mem_iff.mp hx);omega
  refine Aa4.mpr ⟨by decide,h1,λa ha b hb e=>?_⟩
  have:=h2 b hb
  simp at ha;omega
 have lt:∀x∈[0,1,2]++l,x<m+3:=λx hx=>by
  rcases Aa0.mp hx with hx | hx
  ·simp at hx;omega
  ·obtain ⟨y,hy,e⟩:=Aa8.mp (h.mem_iff.mp hx)
   have:=Ab5.mp hy
   omega
 have len:([0,1,2]++l).length=m+3:=by simp[hl]
 have at_:∀v,(hv:v<m+3)->([0,1,2]++l).getD v 0=([0,1,2]++l)[v]'(by omega):=λv hv=>by rw[Ac0,Aa2 (by omega)];rfl
 refine⟨λv hv=>?_,λv w hv hw e=>?_,rfl,rfl,rfl⟩
 ·show([0,1,2]++l).getD v 0<m+3
  rw[at_ v hv];exact lt _ (List.getElem_mem _)
 ·have e:([0,1,2]++l).getD v 0=([0,1,2]++l).getD w 0:=e
  rw[at_ v hv,at_ w hw]at e;exact(List.getElem_inj nd).mp e
end TT
namespace K12
open PySem L2 LV PyProof.Rows
theorem sc__law_names:D5 ["_law_cell", "_law_m", "_law_names_here", "_law_rest", "_law_k", "_law_left", "_law_ranks"] ["_law_cell", "_law_m"] (A8 R8):=⟨rfl,rfl,rfl,by decide +kernel,rfl,by decide +kernel,by decide +kernel⟩
def rs (c:Int):Nat->Int
 | 0=>c / 2
 | j+1=>rs c j / 4096
def prs (c:Int)(m:Nat):List (List Int):=(List.range m).map λ(k:Nat)=>[mx c (40+(k:Int)),(k:Int)]
def srt (c:Int)(m:Nat):List (List Int):=(prs c m).mergeSort λa b => !HT.j7 b a
def nm (c:Int)(m:Nat):List Nat:=[0,1,2]++(if c % 2=1 then TT.pk m (rs c m) ((List.range m).map (· + 3)) else(srt c m).map λt=>(t.getD 1 0).toNat+3)
theorem aA7 (c:Int)(m:Nat):(srt c m).Perm (prs c m):=List.mergeSort_perm _ _
theorem bY0 (c:Int)(m:Nat):(srt c m).Pairwise M0:=by
 have:=List.pairwise_mergeSort (le:=λa b:List Int => !HT.j7 b a) (λa b d h1 h2=>by
  have:=aC7 a b d (by unfold M0;simpa using h1) (by unfold M0;simpa using h2)
  unfold M0 at this;simp[this]) (λa b=>by
  rcases aW4 a b with h | h <;> unfold M0 at h <;> simp[h]) (prs c m)
 refine this.imp λh=>?_
 unfold M0;simpa using h
theorem dF7 (c:Int)(m:Nat):TT.Nm (m+3) λv=>(nm c m).getD v 0:=by
 unfold nm;refine TT.dD1 ?_;split
 ·exact TT.bB7 _ _ _ (by simp)
 ·refine((aA7 c m).map _).trans ?_
  have:(prs c m).map (λt=>(t.getD 1 0).toNat+3)=(List.range m).map (· + 3):=by
   unfold prs;rw[Ae0];rfl
  rw[this]
theorem cX7 (c:Int)(m:Nat):(nm c m).length=m+3:=by
 unfold nm;split
 ·rw[Ab7,(TT.bB7 m (rs c m) _ (by simp)).length_eq];simp;omega
 ·rw[Ab7,Aa3,(aA7 c m).length_eq];simp[prs];omega
def cG3 (ds es:List PyData):Prop:=∃(c:Int) (m:Nat),m<=20/\ds=[.int c,.int (m:Int)]/\es=nI (nm c m)
theorem aU4 {α β:Type}{f:α->β}:∀(l:List α) (n:Nat),(l.map f).eraseIdx n=(l.eraseIdx n).map f
 | [],n=>rfl
 | a::l,0=>rfl
 | a::l,n+1=>by simp[List.eraseIdx_cons_succ,aU4 l n]
def f1 (c:Int):PyData->Option PyData
 | .int k=>some (tI [mx c (40+k),k])
 | _=>none
def f2:PyData->Option PyData
 | .tuple [_,.int k]=>some (.int (3+k))
 | _=>none
theorem X1 {α β:Type}{f g:α->Option β}:∀{l:List α},(∀x∈l,f x=g x)->l.filterMap f=l.filterMap g
 | [],_=>rfl
 | a::l,h=>by rw[List.filterMap_cons,List.filterMap_cons,h a (by simp),X1 λx hx=>h x (by simp[hx])]
theorem cW7 (c:Int)(m:Nat):(W4 0 m).filterMap (f1 c)=(prs c m).map tI:=by
 unfold W4 prs;rw[List.filterMap_map,Ae0,<- List.filterMap_eq_map];refine X1 λx _=>?_
 show f1 c (.int (0+(x:Int)))=_
 rw[Int.zero_add];rfl
theorem bR5 {c:Int}{m:Nat}{t:List Int}(h:t∈srt c m):∃k:Nat,t=[mx c (40+(k:Int)),(k:Int)]:=by
 have:=(aA7 c m).mem_iff.mp h
 obtain ⟨k,_,e⟩:=Aa8.mp this;exact⟨k,e.symm⟩
theorem cX3 (c:Int)(m:Nat):((srt c m).map tI).filterMap f2=nI ((srt c m).map λt=>(t.getD 1 0).toNat+3):=by
 unfold nI;rw[List.filterMap_map,Ae0,<- List.filterMap_eq_map];refine X1 λt ht=>?_
 obtain ⟨k,rfl⟩:=bR5 ht;show some (PyData.int (3+(k:Int)))=some (PyData.int ((((k:Int)).toNat+3:Nat):Int))
 congr 2
 omega
theorem nd1:(["_law_k", "_law_cell"]:List Str).Nodup:=by decide +kernel
theorem nd2:(["_law_rank"]:List Str).Nodup:=by decide +kernel
section
variable {P:Program}{w:World}{K:PySem.W.Frag}{mg:Str->Option Value}{base:Heap}{a:Ad}
theorem cA2 (T:Tx K mg a):E4 P w K mg base CX0 2 a.y7 a.y9 ["_law_cell", "_law_m"] (spL K cG3):=by
 have G__law_mixed:E4 P w K mg base CX0 1 _ _ _ _:=aF9 T
 refine T.aH0.ok sc__law_names (cL5 λds d ⟨_,_,_,e,_⟩=>by rw[e];rfl) (λcdv A outer s H vs Q E hr h=>?_)
 obtain ⟨ds,S,es,hS,r,⟨c,m,hm,rfl,rfl⟩,q⟩:=h;refine⟨_,(A5 (B8 (i:=2) sc__law_names.nd rfl (Or.inl rfl) (C4 (A0 A6 (A0 A6 (A0 A6 A2)))))
   (A5 (V6 (H9 bH4 (B4 U6 (pv 0) A6) A6 (K3 _)) (A5 (B8 (i:=3) sc__law_names.nd rfl (Or.inl rfl) (B4 u8 (pv 0) A6))
   (A5 (T7 PassesOwn.never rfl (K8 rfl T.K5 (A0 (pv 1) A2)) (C5 (i:=4) sc__law_names.nd rfl (Or.inl rfl)) (B0 (B8 (i:=3) sc__law_names.nd rfl (Or.inl rfl) (B4 u8 (pv 3) A6))))
   (A5 (B8 (i:=5) sc__law_names.nd rfl (Or.inl rfl) (P7 (aU1 rfl) (by rfl) T.Z9 boot_list (A0 (cL9 rfl T.K5 (A0 A6 (A0 (B4 E9 (pv 1) A6) A2))) A2)))
   (A5 (T7 PassesOwn.never rfl (K8 rfl T.K5 (A0 (pv 1) A2)) (C5 (i:=4) sc__law_names.nd rfl (Or.inl rfl)) (A5 (N8 (U8 Ab1 PySem.F.slot_list_append PySem.F.type_list_append E8 (pv 2) (A0 (U8 Ab1 PySem.F.slot_list_pop PySem.F.type_list_pop cG0 (pv 5) (A0 (B4 U6 (pv 3) (B9 N2 (by rfl) T.V4 PySem.boot_len (A0 (pv 5) A2))) A2)) A2)))
   (B0 (B8 (i:=3) sc__law_names.nd rfl (Or.inl rfl) (B4 u8 (pv 3) (B4 E9 (B9 N2 (by rfl) T.V4 PySem.boot_len (A0 (pv 5) A2)) A6))))))
   (B0 (D6 (pv 2))))))) L9)
   (A5 (B8 (i:=6) sc__law_names.nd rfl (Or.inl rfl) (B9 (t5 K) (by rfl) T.X5 boot_sorted (A0 (i4 (T:=["_law_k"]) (N':=["_law_k", "_law_cell"]) (is:=[0]) rfl (.of rfl rfl rfl (by exact⟨rfl,trivial⟩) rfl rfl rfl (by first | exact⟨⟨_,rfl,.inl rfl,.inl rfl⟩,trivial⟩ | exact⟨⟨_,rfl,.inr rfl,.inl rfl⟩,trivial⟩)) (K8 rfl T.K5 (A0 (pv 1) A2)) (Y6 (by decide)) λ_ _ _ _=>⟨(C5 (i:=0) nd1 rfl (Or.inl rfl)),V0,(K1 (A0 (C6 G__law_mixed (hr.mono (by decide)) rfl T.Y8 T.U4.kp T.Y7 .nil L8 (A0 (pv 1) (A0 (B4 E9 A6 (pv 0)) A2))) (A0 (pv 0) A2)))⟩) A2)))
   (B0 (D6 (B4 (K0 K) (pv 2) (i4 (T:=["_law_rank"]) (N':=["_law_rank"]) (is:=[]) rfl (.of rfl rfl rfl trivial rfl rfl rfl trivial) (aD2 (pv 6)) (Y6 (by decide)) λ_ _ _ _=>⟨(C5 (i:=0) nd2 rfl (Or.inl rfl)),V0,(B4 E9 A6 (C0 (ixK K) (pv 0) A6 (λ_ _=>rfl)))⟩))))))),bC0 hS r ?_ q⟩
 refine B2 (K2 (G8 (A1 A9 (A1 A9 (A1 A9 A7)))) ?_ (show 2<7 by decide))
 show W K _ [.val (.int c),.val (.int (m:Int)),.own (nI [0,1,2]),.no,.no,.no,.no] _
 refine B2 (aC3 (O0 (bH5 (e_i (A3 rfl) A9 (by decide)) A9)) (λh=>?_) (λh=>Q6 ?_))
 ·have h:c % 2=1:=of_decide_eq_true h
  refine B2 (Q8 (d:=.int (rs c 0)) (e_i (A3 rfl) A9 ⟨by decide,by decide⟩) ?_)
  refine B2 (Z8 (V8 (A1 (A3 rfl) A7) ?_ ?_) (λj ρ=>∃x4,x4.nb=true/\ρ=[.val (.int c),.val (.int (m:Int)),.own (nI [0,1,2]),.val (.int (rs c j)),x4,.no,.no]) ⟨.no,rfl,rfl⟩ ?_ ?_)
  ·omega
  ·omega
  ·rintro j d _ hd ⟨x4,b4,rfl⟩;obtain ⟨rfl,hj⟩:=W6 hd;refine⟨_,D7,?_⟩;exact Q8 (d:=.int (rs c (j+1))) (e_i (A3 rfl) A9 ⟨by decide,by decide⟩) ⟨.val (.int (j:Int)),rfl,rfl⟩
  rintro _ ⟨x4,b4,rfl⟩;rw[Q1,Ac7];refine B2 (K2 (ds:=nI ((List.range m).map (· + 3))) ?_ ?_ (show 5<7 by decide))
  ·have:=dA8 (K:=K) (ρ:=[.val (.int c),.val (.int (m:Int)),.own (nI [0,1,2]),.val (.int (rs c m)),x4,.no,.no]) (i:=3) (j:=(m:Int)+3) (A1 A9 (A1 (S1 (A3 (i:=1) rfl) A9) A7)) (by omega)
   have e:W4 3 ((m:Int)+3-3).toNat=nI ((List.range m).map (· + 3)):=by
    have e':((m:Int)+3-3).toNat=m:=by omega
    rw[e'];unfold W4 nI;rw[Ae0];refine List.map_congr_left λx _=>?_
    show PyData.int (3+(x:Int))=PyData.int ((x+3:Nat):Int)
    congr 1;omega
   rw[e]at this;exact this
  refine B2 (Z8 (V8 (A1 (A3 rfl) A7) ?_ ?_) (λj ρ=>∃x4 pre l r,x4.nb=true/\TT.pk m (rs c m) ((List.range m).map (· + 3))=pre++TT.pk (m-j) r l/\l.length=m-j/\pre.length<=j/\ρ=[.val (.int c),.val (.int (m:Int)),.own (nI ([0,1,2]++pre)),.val (.int r),x4,.own (nI l),.no]) ⟨x4,[],(List.range m).map (· + 3),rs c m,b4,by simp,by simp,by simp,rfl⟩ ?_ ?_)
  ·omega
  ·omega
  ·rintro j d _ hd ⟨x4,pre,l,r0,b4,hpk,hll,hpl,rfl⟩;obtain ⟨rfl,hj⟩:=W6 hd;have hj:j<m:=by omega
   have hne:l≠[]:=λe=>by rw[e]at hll;simp at hll;omega
   have hpos:0<l.length:=List.length_pos_iff.mpr hne
   have hlt:=TT.bT1 (r:=r0) hne
   have hnn:=Int.emod_nonneg r0 (b:=(l.length:Int)) (by omega)
   generalize hn:(r0 % (l.length:Int)).toNat=n at hlt;refine⟨_,D7,?_⟩;show W K _ [.val (.int c),.val (.int (m:Int)),.own (nI ([0,1,2]++pre)),.val (.int r0),.val (.int (j:Int)),.own (nI l),.no] _;refine B2 (aK4 (i:=2) (j:=5) (ds:=nI ([0,1,2]++pre)) (d:=.int (l[n]:Nat)) (cC3 n (ds:=nI l) rfl (e_i (A3 rfl) (Z7 (A1 (Q2 rfl) A7)) ?_) ?_ ?_ ?_) rfl rfl ?_ ?_)
   ·rw[N9];omega
   ·rw[N9,<- hn];omega
   ·unfold nI;rw[Aa9,Aa2 hlt];rfl
   ·omega
   ·rw[N9];simp;unfold PySem.sizeLine;omega
   have el:(nI l).eraseIdx n=nI (l.eraseIdx n):=by unfold nI;rw[aU4]
   have el2:((nI (l.eraseIdx n)).length:Int)+1=(l.length:Int):=by rw[N9,List.length_eraseIdx_of_lt hlt];omega
   have ea:nI ([0,1,2]++pre)++[PyData.int (l[n]:Nat)]=nI ([0,1,2]++(pre++[l[n]])):=by simp[nI]
   show W K _ [.val (.int c),.val (.int (m:Int)),.own (nI ([0,1,2]++pre)++[PyData.int (l[n]:Nat)]),.val (.int r0),.val (.int (j:Int)),.own ((nI l).eraseIdx n),.no] _
   rw[el,ea];refine Q8 (d:=.int (r0 / (l.length:Int))) ?_ ⟨.val (.int (j:Int)),pre++[l[n]],l.eraseIdx n,r0 / (l.length:Int),rfl,?_,?_,?_,rfl⟩
   ·rw[<- el2];exact e_i (A3 rfl) (S1 (Z7 (A1 (Q2 rfl) A7)) A9) ⟨by omega,by omega⟩
   ·rw[hpk];obtain ⟨k,hk⟩:∃k,m-j=k+1:=⟨m-j-1,by omega⟩
    have hk':m-(j+1)=k:=by omega
    rw[hk,hk'];show pre++(l.getD (r0 % (l.length:Int)).toNat 0::TT.pk k (r0 / (l.length:Int)) (l.eraseIdx (r0 % (l.length:Int)).toNat))=_;rw[hn,Ac0,Aa2 hlt]
    simp
   ·rw[List.length_eraseIdx_of_lt hlt];omega
   ·simp;omega
  rintro _ ⟨x4,pre,l,r0,b4,hpk,hll,hpl,rfl⟩;rw[Q1,Ac7,Nat.sub_self]at hpk;refine dA5 (ds:=nI ([0,1,2]++pre)) rfl ?_;show nI _=nI (nm c m);unfold nm;rw[if_pos h,hpk];simp[TT.pk]
 have h:¬c % 2=1:=of_decide_eq_false h
 have hsl:(srt c m).length=m:=by rw[(aA7 c m).length_eq];simp[prs]
 have c1:=Y9 (K:=K) (m:=true) (ρ:=[.val (.int c),.val (.int (m:Int)),.own (nI [0,1,2]),.no,.no,.no,.no]) (n:=1) (is:=[0]) (g:=U1 0) (tt:=aO4)
  (te:=bJ5 (N0 (aL3 (spV K aG1) [] E0 (N0 (Q7 1) (N0 (tOp (rI0 λi j=>V.int (i+j)) (tC (.int 40)) (Q7 0)) p8))) (N0 (Q7 0) p8))) (f1 c) (V8 (A1 (A3 (i:=1) rfl) A7) (by omega) (by omega)) (by rw[Q1];unfold PySem.sizeLine;omega) (λd hd=>by
   obtain ⟨i,hi⟩:=List.mem_iff_getElem?.mp hd;obtain ⟨rfl,hi⟩:=W6 hi;have hi:i<m:=by omega
   exact⟨_,D7,aD9,X3 (A1 (G6 (A1 (A3 rfl) (A1 (S1 A9 (A3 rfl)) A7)) ⟨c,40+(i:Int),by omega,rfl,rfl⟩) (A1 (A3 rfl) A7))⟩)
 rw[Ac7,cW7]at c1;refine B2 (K2 (ds:=(srt c m).map tI) (aP2 (ts:=prs c m) (A1 (EF.e' c1) A7) (λt ht=>?_) ?_ (aA7 c m) (bY0 c m)) ?_ (show 6<7 by decide))
 ·obtain ⟨k,_,rfl⟩:=Aa8.mp ht;simp
 ·simp[prs];omega
 show W K _ [.val (.int c),.val (.int (m:Int)),.own (nI [0,1,2]),.no,.no,.no,.own ((srt c m).map tI)] _
 have c2:=Y9 (K:=K) (m:=false) (ρ:=[.val (.int c),.val (.int (m:Int)),.own (nI [0,1,2]),.no,.no,.no,.own ((srt c m).map tI)]) (n:=1) (is:=[]) (g:=U1 0) (tt:=aO4)
  (te:=tOp (rI0 λi j=>V.int (i+j)) (tC (.int 3)) (tOp (rIx K) (Q7 0) (tC (.int 1)))) f2 (aJ4 (Q2 (i:=6) rfl)) (by rw[Aa3,hsl];unfold PySem.sizeLine;omega) (λd hd=>by
   obtain ⟨t,ht,rfl⟩:=Aa8.mp hd;obtain ⟨k,rfl⟩:=bR5 ht;exact⟨_,D7,aD9,S1 A9 (J8 (bS0 rfl) A9 rfl rfl)⟩)
 rw[cX3]at c2
 have:=aZ7 (R:={nx:=λ_=>False,rl:=λe=>e=nI (nm c m)}) (t6 (Q2 (i:=2) rfl) (EF.e' c2) (S5 _) (S5 _) (by rw[N9,N9,Aa3,hsl];unfold PySem.sizeLine;simp;omega)) (by
  show _=nI (nm c m)
  unfold nm;rw[if_neg h,<- aO7])
 exact this
end
end K12
namespace TT
def pfg (N:Nat->Int):Nat->Nat×Nat
 | 0=>(0,0)
 | j+1=>((pfg N j).1+(N j % ((j:Int)+1-(pfg N j).1)).toNat,(pfg N j).2+(N j / 64 % ((((pfg N j).1+(N j % ((j:Int)+1-(pfg N j).1)).toNat:Nat):Int)+1-(pfg N j).2)).toNat)
def rF (N:Nat->Int)(j:Nat):Nat:=(pfg N (j+1)).1
def rG (N:Nat->Int)(j:Nat):Nat:=(pfg N (j+1)).2
theorem dD2 (N:Nat->Int):∀j,pv (rF N) j=(pfg N j).1
 | 0=>rfl
 | _+1=>rfl
theorem dG2 (N:Nat->Int):∀j,pv (rG N) j=(pfg N j).2
 | 0=>rfl
 | _+1=>rfl
theorem bD3 (N:Nat->Int)(j:Nat):rF N j=(pfg N j).1+(N j % ((j:Int)+1-(pfg N j).1)).toNat:=rfl
theorem bZ6 (N:Nat->Int)(j:Nat):rG N j=(pfg N j).2+(N j / 64 % ((rF N j:Int)+1-(pfg N j).2)).toNat:=rfl
theorem bA2 (N:Nat->Int):∀j,(pfg N j).1<=j/\(pfg N j).2<=(pfg N j).1/\(pfg N (j+1)).1<=j/\(pfg N (j+1)).2<=(pfg N (j+1)).1
 | j=>by
  have base:(pfg N j).1<=j/\(pfg N j).2<=(pfg N j).1:=by
   cases j with
   | zero=>exact⟨Aa7 _,Aa7 _⟩
   | succ i=>
    have:=bA2 N i
    exact⟨by omega,this.2.2.2⟩
  have h1:rF N j<=j:=by
   rw[bD3];have h:=Int.emod_lt_of_pos (N j) (b:=(j:Int)+1-(pfg N j).1) (by omega)
   have h':=Int.emod_nonneg (N j) (b:=(j:Int)+1-(pfg N j).1) (by omega)
   omega
  have h3:(pfg N j).1<=rF N j:=by rw[bD3];omega
  have h2:rG N j<=rF N j:=by
   rw[bZ6];have h:=Int.emod_lt_of_pos (N j / 64) (b:=(rF N j:Int)+1-(pfg N j).2) (by omega)
   have h':=Int.emod_nonneg (N j / 64) (b:=(rF N j:Int)+1-(pfg N j).2) (by omega)
   omega
  exact⟨base.1,base.2,h1,h2⟩
theorem y4 (N:Nat->Int)(m:Nat):Rws (rF N) (rG N) m where
 f1:=λi _=>by rw[dD2,bD3];omega
 f2:=λi _=>(bA2 N i).2.2.1
 g1:=λi _=>by rw[dG2,bZ6];omega
 g2:=λi _=>(bA2 N i).2.2.2
end TT
namespace K12
open PySem L2 LV PyProof.Rows
theorem sc__law_built:D5 ["_law_cell", "_law_cells", "_law_m", "_law_first", "_law_second", "_law_rest", "_law_i", "_law_number", "_law_low", "_law_turns", "_law_outs", "_law_names_here", "_law_called", "_law_triples", "_law_v"] ["_law_cell", "_law_cells", "_law_m"] (A8 S3):=⟨rfl,rfl,rfl,by decide +kernel,rfl,by decide +kernel,by decide +kernel⟩
def rr (c:Int)(j:Nat):Int:=if c % 2=1 then rs c j else c / 2
def nu (c:Int)(cells:List Int)(j:Nat):Int:=if c % 2=1 then rs c j % 4096 else mx (cl cells j) j
def nf (c:Int)(m:Nat)(v:Nat):Nat:=(nm c m).getD v 0
def bX8 (ds:List PyData)(d:PyData):Prop:=∃(c:Int) (cells:List Int) (m:Nat) (dr tr:List (List Nat)),m<=7/\TT.Bt (TT.rF (nu c cells)) (TT.rG (nu c cells)) m (nf c m) dr tr/\ds=[.int c,lI cells,.int (m:Int)]/\d=.tuple [.tuple (dr.map tN),.tuple (tr.map tN)]
def rb (c:Int)(cells:List Int)(m:Nat)(f g:List Int)(r:Int)(x6 x7 x8:Sl):List Sl:=[.val (.int c),.val (lI cells),.val (.int (m:Int)),.own (f.map PyData.int),.own (g.map PyData.int),.val (.int r),x6,x7,x8,.no,.no,.no,.no,.no,.no]
theorem cS8 {c:Int}{cells:List Int}{m:Nat}{f g:List Int}{r:Int}{x6 x7 x8:Sl}(h6:x6.nb=true)(h7:x7.nb=true)(h8:x8.nb=true):X4 (rb c cells m f g r x6 x7 x8)=true:=by
 unfold rb;simp only[v7,h6,h7,h8,Bool.true_and];rfl
theorem aN1 (F:Nat->Nat)(j:Nat):fl F (j+1)=fl F j++[(F j:Int)]:=by simp[fl,List.range_succ]
def rc (c:Int)(cells:List Int)(m:Nat)(x3 x4 r:PyData)(x6 x7 x8:Sl)(tD oD:PyData)(nmD L T:List PyData)(x14:Sl):List Sl:=[.val (.int c),.val (lI cells),.val (.int (m:Int)),.val x3,.val x4,.val r,x6,x7,x8,.val tD,.val oD,.own nmD,.own L,.own T,x14]
theorem cR7 {c:Int}{cells:List Int}{m:Nat}{x3 x4 r:PyData}{x6 x7 x8:Sl}{tD oD:PyData}{nmD L T:List PyData}{x14:Sl}(h6:x6.nb=true)(h7:x7.nb=true)(h8:x8.nb=true)(h14:x14.nb=true):X4 (rc c cells m x3 x4 r x6 x7 x8 tD oD nmD L T x14)=true:=by
 unfold rc;simp only[v7,h6,h7,h8,h14,Bool.true_and];rfl
def f3 (f:Nat->Nat):PyData->Option PyData
 | .int k=>some (.int (f k.toNat:Nat))
 | _=>none
theorem cF9 (f:Nat->Nat)(l:List Nat):(nI l).filterMap (f3 f)=nI (l.map f):=by
 unfold nI;rw[List.filterMap_map,Ae0,<- List.filterMap_eq_map];exact X1 λx _=>rfl
theorem aR9 {α:Type}(a:α):∀n:Nat,(List.replicate n [a]).flatten=List.replicate n a
 | 0=>rfl
 | n+1=>by rw[List.replicate_succ,List.flatten_cons,aR9 a n];rfl
theorem EF.to {K:PySem.W.Frag}{t:TE}{ρ:List Sl}{ds es:List PyData}(h:LV.EF K t ρ ds)(e:ds=es):LV.EF K t ρ es:=e▸h
theorem cY2 {F G:Nat->Nat}{m v:Nat}(R:TT.Rws F G m)(hv:v<m+3):(TT.gst F G m).row v≠[]:=by
 have GI:=TT.T1 R m (Aa7 _)
 obtain ⟨p,hp⟩:=GI.inv.pe;by_cases h0:v=0
 ·subst h0;rw[TT.aH6];simp
 ·by_cases h1:v=1
  ·subst h1;rw[TT.aR0];simp
  ·by_cases h2:v=2
   ·subst h2;rw[TT.aH2,hp];simp
   ·rw[TT.Q4 (by omega) (by rw[GI.k];exact hv)];simp
theorem bP4 {c:Int}{m p:Nat}(h:p<m+3):atI (nI (nm c m)) (p:Int)=some (.int (nf c m p:Nat)):=by
 refine Q0 p rfl ?_;unfold nI nf;rw[Aa9,Ac0,Aa2 (by rw[cX7];exact h)];rfl
theorem bD4 {L:List PyData}{f:Nat->Nat}{n j:Nat}{g:Nat->PyData}{x:PyData}(hj:f j<L.length)(inj:∀v,v<j->f v≠f j)(h:∀v,v<j->L[f v]? = some (g v))(hx:x=g j):∀v,v<j+1->(L.set (f j) x)[f v]? = some (g v):=λv hv=>by
 by_cases e:v=j
 ·subst e;rw[List.getElem?_set_self hj,hx]
 ·rw[Ac9 (λz=>inj v (by omega) z.symm)];exact h v (by omega)
theorem aR3 {x:PyData}(hx:imm x=true):∀{L:List PyData} (n:Nat),M2 L=true->M2 (L.set n x)=true
 | [],_,h=>h
 | a::L,0,h=>by simp[M2]at h ⊢;exact⟨hx,h.2⟩
 | a::L,n+1,h=>by simp[M2]at h ⊢;exact⟨h.1,aR3 hx n h.2⟩
theorem cF5 (l:List Nat):imm (tN l)=true:=by unfold tN;simp[imm,S5]
theorem nd3:(["_law_place", "_law_names_here"]:List Str).Nodup:=by decide +kernel
section
variable {P:Program}{w:World}{K:PySem.W.Frag}{mg:Str->Option Value}{base:Heap}{a:Ad}
theorem cB4 (T:Tx K mg a):E4 P w K mg base CX0 3 a.t4 a.u7 ["_law_cell", "_law_cells", "_law_m"] (spV K bX8):=by
 have G__law_mixed:E4 P w K mg base CX0 1 _ _ _ _:=aF9 T
 have G__law_cell_at:E4 P w K mg base CX0 1 _ _ _ _:=bO1 T
 have G__law_grown:E4 P w K mg base CX0 1 _ _ _ _:=cE7 T
 have G__law_names:E4 P w K mg base CX0 2 _ _ _ _:=cA2 T
 have G__law_begun:E4 P w K mg base CX0 1 _ _ _ _:=cD6 T
 refine T.aG0.ok sc__law_built (aA4 λds d ⟨_,_,_,_,_,_,_,e,_⟩=>by rw[e];rfl) (λcdv A outer s H vs Q E hr h=>?_)
 obtain ⟨ds,S,d,hS,r,⟨c,cells,m,dr,tr,hm,B,rfl,rfl⟩,q⟩:=h;refine⟨_,(A5 (B8 (i:=3) sc__law_built.nd rfl (Or.inl rfl) (C4 A2))
   (A5 (B8 (i:=4) sc__law_built.nd rfl (Or.inl rfl) (C4 A2))
   (A5 (B8 (i:=5) sc__law_built.nd rfl (Or.inl rfl) (B4 u8 (pv 0) A6))
   (A5 (T7 PassesOwn.never rfl (K8 rfl T.K5 (A0 (pv 2) A2)) (C5 (i:=6) sc__law_built.nd rfl (Or.inl rfl)) (A5 (B8 (i:=7) sc__law_built.nd rfl (Or.inl rfl) (C6 G__law_mixed (hr.mono (by decide)) rfl T.Y8 T.U4.kp T.Y7 .nil L8 (A0 (C6 G__law_cell_at (hr.mono (by decide)) rfl T.Q5 T.O8.kp T.Q9 .nil L8 (A0 (pv 1) (A0 (pv 6) A2))) (A0 (pv 6) A2))))
   (A5 (V6 (H9 bH4 (B4 U6 (pv 0) A6) A6 (K3 _)) (A5 (B8 (i:=7) sc__law_built.nd rfl (Or.inl rfl) (B4 U6 (pv 5) A6))
   (B0 (B8 (i:=5) sc__law_built.nd rfl (Or.inl rfl) (B4 u8 (pv 5) A6)))) L9)
   (A5 (B8 (i:=8) sc__law_built.nd rfl (Or.inl rfl) (bF8 (H9 aW3 (pv 6) A6 (K3 _)) (C0 C1 (pv 3) (aR1 aF4 A6) (λ_ _=>rfl)) A6))
   (A5 (N8 (U8 Ab1 PySem.F.slot_list_append PySem.F.type_list_append E8 (pv 3) (A0 (B4 E9 (pv 8) (B4 U6 (pv 7) (B4 aB1 (B4 E9 (pv 6) A6) (pv 8)))) A2)))
   (A5 (B8 (i:=8) sc__law_built.nd rfl (Or.inl rfl) (bF8 (H9 aW3 (pv 6) A6 (K3 _)) (C0 C1 (pv 4) (aR1 aF4 A6) (λ_ _=>rfl)) A6))
   (B0 (N8 (U8 Ab1 PySem.F.slot_list_append PySem.F.type_list_append E8 (pv 4) (A0 (B4 E9 (pv 8) (B4 U6 (B4 u8 (pv 7) A6) (B4 aB1 (B4 E9 (C0 C1 (pv 3) (aR1 aF4 A6) (λ_ _=>rfl)) A6) (pv 8)))) A2))))))))))
   (A5 (aJ1 (C6 G__law_grown (hr.mono (by decide)) rfl T.aY1 T.aI0.kp T.bA9 .nil L8 (A0 (pv 3) (A0 (pv 4) A2))) (aO6 (n:=2) rfl (T0 (C5 (i:=9) sc__law_built.nd rfl (Or.inl rfl)) (T0 (C5 (i:=10) sc__law_built.nd rfl (Or.inl rfl)) aI6))))
   (A5 (B8 (i:=11) sc__law_built.nd rfl (Or.inr rfl) (C6 G__law_names (hr.mono (by decide)) rfl T.bA0 T.aH0.kp T.aZ2 .nil L8 (A0 (pv 0) (A0 (pv 2) A2))))
   (A5 (B8 (i:=12) sc__law_built.nd rfl (Or.inl rfl) (B4 cJ0 (C4 (A0 (K1 A2) A2)) (B4 E9 (pv 2) A6)))
   (A5 (B8 (i:=13) sc__law_built.nd rfl (Or.inl rfl) (B4 cJ0 (C4 (A0 (K1 A2) A2)) (pv 2)))
   (A5 (T7 PassesOwn.never rfl (K8 rfl T.K5 (A0 (B4 E9 (pv 2) A6) A2)) (C5 (i:=14) sc__law_built.nd rfl (Or.inl rfl)) (B0 (aJ1 (C6 G__law_begun (hr.mono (by decide)) rfl T.aX8 T.aG4.kp T.bC3 .nil L8 (A0 (i4 (T:=["_law_place"]) (N':=["_law_place", "_law_names_here"]) (is:=[11]) rfl (.of rfl rfl rfl (by exact⟨rfl,trivial⟩) rfl rfl rfl (by first | exact⟨⟨_,rfl,.inl rfl,.inl rfl⟩,trivial⟩ | exact⟨⟨_,rfl,.inr rfl,.inl rfl⟩,trivial⟩)) (aD2 (C0 C1 (pv 9) (pv 14) (λ_ _=>rfl))) (Y6 (by decide)) λ_ _ _ _=>⟨(C5 (i:=0) nd3 rfl (Or.inl rfl)),V0,(C0 (ixK K) (pv 1) (pv 0) (λ_ _=>rfl))⟩) A2)) (bN1 (pv 12) (C0 C1 (pv 11) (pv 14) (λ_ _=>rfl)) aO8))))
   (A5 (T7 PassesOwn.never rfl (K8 rfl T.K5 (A0 (pv 2) A2)) (C5 (i:=14) sc__law_built.nd rfl (Or.inl rfl)) (B0 (aJ1 (P7 S9 (by rfl) T.T4 boot_tuple (A0 (i4 (T:=["_law_place"]) (N':=["_law_place", "_law_names_here"]) (is:=[11]) rfl (.of rfl rfl rfl (by exact⟨rfl,trivial⟩) rfl rfl rfl (by first | exact⟨⟨_,rfl,.inl rfl,.inl rfl⟩,trivial⟩ | exact⟨⟨_,rfl,.inr rfl,.inl rfl⟩,trivial⟩)) (aD2 (C0 C1 (pv 10) (pv 14) (λ_ _=>rfl))) (Y6 (by decide)) λ_ _ _ _=>⟨(C5 (i:=0) nd3 rfl (Or.inl rfl)),V0,(C0 (ixK K) (pv 1) (pv 0) (λ_ _=>rfl))⟩) A2)) (bN1 (pv 13) (B4 aB1 (C0 C1 (pv 11) (B4 E9 A6 (pv 14)) (λ_ _=>rfl)) A6) aO8))))
   (B0 (D6 (K1 (A0 (P7 S9 (by rfl) T.T4 boot_tuple (A0 (pv 12) A2)) (A0 (P7 S9 (by rfl) T.T4 boot_tuple (A0 (pv 13) A2)) A2))))))))))))))),S6 hS r ?_ q⟩
 generalize hN:nu c cells=N at B;refine B2 (K2 (G8 A7) ?_ (show 3<15 by decide))
 refine B2 (K2 (G8 A7) ?_ (show 4<15 by decide))
 refine B2 (Q8 (d:=.int (c / 2)) (e_i (A3 rfl) A9 ⟨by decide,by decide⟩) ?_)
 have r0:rr c 0=c / 2:=by unfold rr rs;split <;> rfl
 rw[<- r0];refine B2 (Z8 (V8 (A1 (A3 rfl) A7) ?_ ?_) (λj ρ=>∃x6 x7 x8,(x6.nb=true/\x7.nb=true/\x8.nb=true)/\ρ=rb c cells m (fl (TT.rF N) j) (fl (TT.rG N) j) (rr c j) x6 x7 x8) ⟨.no,.no,.no,⟨rfl,rfl,rfl⟩,rfl⟩ ?_ ?_)
 ·omega
 ·omega
 ·rintro j d _ hd ⟨x6,x7,x8,⟨b6,b7,b8⟩,rfl⟩;obtain ⟨rfl,hj⟩:=W6 hd;have hj:j<m:=by omega
  have PF:=TT.bA2 N j
  have nuj:N j=nu c cells j:=by rw[hN]
  have nn:0<=N j:=by
   rw[nuj];unfold nu;split
   ·exact Int.emod_nonneg _ (by decide)
   ·exact(dH5 _ _).1
  refine⟨_,D7,?_⟩;refine B2 (Q8 (d:=.int (mx (cl cells j) j)) (G6 (A1 (G6 (A1 (A3 rfl) (A1 (A3 rfl) A7)) ⟨cells,j,by omega,rfl,rfl⟩) (A1 (A3 rfl) A7)) ⟨_,j,by omega,rfl,rfl⟩) ?_)
  show W K _ (rb c cells m (fl (TT.rF N) j) (fl (TT.rG N) j) (rr c j) (.val (.int (j:Int))) (.val (.int (mx (cl cells j) j))) x8) _
  refine B2 (cR2 (rb c cells m (fl (TT.rF N) j) (fl (TT.rG N) j) (rr c (j+1)) (.val (.int (j:Int))) (.val (.int (N j))) x8) (O0 (bH5 (e_i (A3 rfl) A9 (by decide)) A9)) (λh=>B2 (Q8 (d:=.int (rr c j % 4096)) (e_i (A3 rfl) A9 (by decide)) (Q8 (d:=.int (rr c j / 4096)) (e_i (A3 rfl) A9 ⟨by decide,by decide⟩) ?_))) (λh=>Q6 ?_) ?_)
  ·have h:c % 2=1:=of_decide_eq_true h
   have e1:rr c (j+1)=rr c j / 4096:=by unfold rr;rw[if_pos h,if_pos h];rfl
   have e2:N j=rr c j % 4096:=by rw[nuj];unfold nu rr;rw[if_pos h,if_pos h]
   rw[e1,e2];rfl
  ·have h:¬c % 2=1:=of_decide_eq_false h
   have e1:rr c (j+1)=rr c j:=by unfold rr;rw[if_neg h,if_neg h]
   have e2:N j=mx (cl cells j) j:=by rw[nuj];unfold nu;rw[if_neg h]
   rw[e1,e2]
  have low:∀(X:Nat->Nat) (p:Nat),p=TT.pv X j->((j:Int)>0->atI ((fl X j).map PyData.int) (-1)=some (.int (p:Int))):=λX p hp h=>by
   obtain ⟨i,rfl⟩:∃i,j=i+1:=⟨j-1,by omega⟩
   rw[aN1,Ad1,hp];exact aN6
  refine B2 (Q8 (d:=.int ((TT.pfg N j).1:Nat)) (dG8 (O0 (bE7 (A3 rfl) A9)) (λh=>LV.E.imm (J8 (Q2 rfl) (aS4 A9) rfl (low (TT.rF N) _ (TT.dD2 N j).symm (of_decide_eq_true h)))) (λh=>?_)) ?_)
  ·have h:¬(j:Int)>0:=of_decide_eq_false h
   have:j=0:=by omega
   subst this;exact A9
  show W K _ (rb c cells m (fl (TT.rF N) j) (fl (TT.rG N) j) (rr c (j+1)) (.val (.int (j:Int))) (.val (.int (N j))) (.val (.int ((TT.pfg N j).1:Nat)))) _
  have eF:((TT.pfg N j).1:Int)+N j % ((j:Int)+1-((TT.pfg N j).1:Int))=(TT.rF N j:Int):=by
   rw[TT.bD3]
   have:=Int.emod_nonneg (N j) (b:=(j:Int)+1-(TT.pfg N j).1) (by omega)
   omega
  refine B2 (d4 rfl (S1 (A3 rfl) (e_i (A3 rfl) (S1 (S1 (A3 rfl) A9) (A3 rfl)) (by omega))) (by rw[Aa3];simp[fl];unfold PySem.sizeLine;omega) ?_ (cS8 rfl rfl rfl))
  rw[eF];have eF2:(fl (TT.rF N) j).map PyData.int++[PyData.int (TT.rF N j:Int)]=(fl (TT.rF N) (j+1)).map PyData.int:=by rw[aN1];simp
  rw[eF2];show W K _ (rb c cells m (fl (TT.rF N) (j+1)) (fl (TT.rG N) j) (rr c (j+1)) (.val (.int (j:Int))) (.val (.int (N j))) (.val (.int ((TT.pfg N j).1:Nat)))) _;refine B2 (Q8 (d:=.int ((TT.pfg N j).2:Nat)) (dG8 (O0 (bE7 (A3 rfl) A9)) (λh=>LV.E.imm (J8 (Q2 rfl) (aS4 A9) rfl (low (TT.rG N) _ (TT.dG2 N j).symm (of_decide_eq_true h)))) (λh=>?_)) ?_)
  ·have h:¬(j:Int)>0:=of_decide_eq_false h
   have:j=0:=by omega
   subst this;exact A9
  show W K _ (rb c cells m (fl (TT.rF N) (j+1)) (fl (TT.rG N) j) (rr c (j+1)) (.val (.int (j:Int))) (.val (.int (N j))) (.val (.int ((TT.pfg N j).2:Nat)))) _
  have rFj:TT.rF N j=(TT.pfg N (j+1)).1:=rfl
  have rFle:(TT.pfg N j).1<=TT.rF N j:=by rw[TT.bD3];omega
  have eG:((TT.pfg N j).2:Int)+N j / 64 % ((TT.rF N j:Int)+1-((TT.pfg N j).2:Int))=(TT.rG N j:Int):=by
   rw[TT.bZ6]
   have:=Int.emod_nonneg (N j / 64) (b:=(TT.rF N j:Int)+1-(TT.pfg N j).2) (by omega)
   omega
  have hlF:atI ((fl (TT.rF N) (j+1)).map PyData.int) (-1)=some (.int (TT.rF N j:Int)):=by rw[aN1,Ad1];exact aN6
  refine d4 rfl (S1 (A3 rfl) (e_i (e_i (A3 rfl) A9 ⟨by decide,by decide⟩) (S1 (S1 (J8 (Q2 rfl) (aS4 A9) rfl hlF) A9) (A3 rfl)) (by omega))) (by rw[Aa3];simp[fl];unfold PySem.sizeLine;omega) ?_ (cS8 rfl rfl rfl)
  rw[eG];have eG2:(fl (TT.rG N) j).map PyData.int++[PyData.int (TT.rG N j:Int)]=(fl (TT.rG N) (j+1)).map PyData.int:=by rw[aN1];simp
  rw[eG2];exact⟨.val (.int (j:Int)),.val (.int (N j)),.val (.int ((TT.pfg N j).2:Nat)),⟨rfl,rfl,rfl⟩,rfl⟩
 rintro _ ⟨x6,x7,x8,⟨b6,b7,b8⟩,rfl⟩;rw[Q1,Ac7];refine aQ8 (i:=3) rfl (aQ8 (i:=4) rfl ?_);refine B2 (bR3 (m:=true) (G6 (A1 (A3 rfl) (A1 (A3 rfl) A7)) ⟨TT.rF N,TT.rG N,m,TT.y4 N m,by omega,rfl,rfl⟩) (bG9 (W7 D7 (W7 D7 aQ4))) ?_)
 refine B2 (K2 (aD3 (A1 (A3 rfl) (A1 (A3 rfl) A7)) ⟨c,m,by omega,rfl,rfl⟩) ?_ (show 11<15 by decide))
 have ND:=B.N
 have LT:=(TT.T1 (TT.y4 N m) m (Aa7 _)).inv.lt
 have LR:=TT.aN7 (TT.T1 (TT.y4 N m) m (Aa7 _)).inv
 rw[(TT.T1 (TT.y4 N m) m (Aa7 _)).k]at LT LR;refine B2 (K2 (ds:=List.replicate (m+3) (.tuple [])) ?_ ?_ (show 12<15 by decide))
 ·refine EF.to (cE2 (k:=(m:Int)+3) (ds:=[.tuple []]) (G8 (A1 (X3 A7) A7)) (S1 (A3 rfl) A9) rfl (by omega) (by omega) ?_) ?_
  ·show 1*((m:Int)+3).toNat<=_;unfold PySem.sizeLine;omega
  ·have e:((m:Int)+3).toNat=m+3:=by omega
   rw[aR9,e]
 refine B2 (K2 (ds:=List.replicate m (.tuple [])) ?_ ?_ (show 13<15 by decide))
 ·refine EF.to (cE2 (k:=(m:Int)) (ds:=[.tuple []]) (G8 (A1 (X3 A7) A7)) (A3 rfl) rfl (by omega) (by omega) ?_) ?_
  ·show 1*(m:Int).toNat<=_;unfold PySem.sizeLine;omega
  ·rw[aR9,Ac7]
 generalize htD:(PyData.list ((List.range (m+3)).map λv=>lN ((TT.gst (TT.rF N) (TT.rG N) m).row v)))=tD
 generalize hoD:(PyData.list ((List.range m).map λv=>lN [(TT.gst (TT.rF N) (TT.rG N) m).o0 (v+3),(TT.gst (TT.rF N) (TT.rG N) m).o1 (v+3),(TT.gst (TT.rF N) (TT.rG N) m).o2 (v+3)]))=oD
 show W K _ (rc c cells m (lI (fl (TT.rF N) m)) (lI (fl (TT.rG N) m)) (.int (rr c m)) x6 x7 x8 tD oD (nI (nm c m)) (List.replicate (m+3) (.tuple [])) (List.replicate m (.tuple [])) .no) _
 have sqt:sq tD=some ((List.range (m+3)).map λv=>lN ((TT.gst (TT.rF N) (TT.rG N) m).row v)):=by rw[<- htD];rfl
 have sqo:sq oD=some ((List.range m).map λv=>lN [(TT.gst (TT.rF N) (TT.rG N) m).o0 (v+3),(TT.gst (TT.rF N) (TT.rG N) m).o1 (v+3),(TT.gst (TT.rF N) (TT.rG N) m).o2 (v+3)]):=by rw[<- hoD];rfl
 have imr:∀n:Nat,M2 (List.replicate n (PyData.tuple []))=true:=λn=>by
  induction n with
  | zero=>rfl
  | succ n ih=>rw[List.replicate_succ];simp[M2,ih];rfl
 refine B2 (Z8 (V8 (A1 (S1 (A3 rfl) A9) A7) ?_ ?_) (λj ρ=>∃x14 L,x14.nb=true/\L.length=m+3/\M2 L=true/\(∀v,v<j->L[nf c m v]? = some (tN (TT.Z3 (((TT.gst (TT.rF N) (TT.rG N) m).row v).map (nf c m)))))/\ρ=rc c cells m (lI (fl (TT.rF N) m)) (lI (fl (TT.rG N) m)) (.int (rr c m)) x6 x7 x8 tD oD (nI (nm c m)) L (List.replicate m (.tuple [])) x14) ⟨.no,_,rfl,by simp,imr _,λv hv=>by omega,rfl⟩ ?_ ?_)
 ·omega
 ·omega
 ·rintro j d _ hd ⟨x14,L,b14,hL,hiL,hv,rfl⟩;obtain ⟨rfl,hj⟩:=W6 hd;have hj:j<m+3:=by omega
  refine⟨_,D7,?_⟩;show W K _ (rc c cells m (lI (fl (TT.rF N) m)) (lI (fl (TT.rG N) m)) (.int (rr c m)) x6 x7 x8 tD oD (nI (nm c m)) L (List.replicate m (.tuple [])) (.val (.int (j:Int)))) _;have cm:=Y9 (K:=K) (m:=true) (ρ:=rc c cells m (lI (fl (TT.rF N) m)) (lI (fl (TT.rG N) m)) (.int (rr c m)) x6 x7 x8 tD oD (nI (nm c m)) L (List.replicate m (.tuple [])) (.val (.int (j:Int)))) (n:=1) (is:=[11]) (g:=U1 0) (tt:=aO4) (te:=tOp (rIx K) (Q7 1) (Q7 0)) (f3 (nf c m)) (aJ4 (ds:=nI ((TT.gst (TT.rF N) (TT.rG N) m).row j)) (J8 (A3 (i:=9) rfl) (A3 (i:=14) rfl) sqt (aH9 hj))) (by rw[N9];have:=LR j;unfold PySem.sizeLine;omega) (λd hd=>by
   obtain ⟨p,hp,rfl⟩:=Aa8.mp hd;exact⟨_,D7,aD9,LV.E.imm (d:=.int (nf c m p:Nat)) (J8 (bS0 rfl) (A3 rfl) rfl (bP4 (LT j p hp)))⟩)
  rw[cF9]at cm;refine cH3 (nf c m j) (G6 (A1 (EF.e' cm) A7) ⟨_,?_,?_,rfl,rfl⟩) rfl (J8 (Q2 rfl) (A3 rfl) rfl (bP4 hj)) rfl ?_ ⟨.val (.int (j:Int)),L.set (nf c m j) (tN (TT.Z3 (((TT.gst (TT.rF N) (TT.rG N) m).row j).map (nf c m)))),rfl,by rw[List.length_set];exact hL,aR3 (cF5 _) _ hiL,bD4 (n:=0) (by rw[hL];exact ND.lt j hj) (λv hv e=>by have:=ND.inj v j (by omega) hj e;omega) hv rfl,rfl⟩ (cR7 b6 b7 b8 rfl)
  ·intro e;exact cY2 (TT.y4 N m) hj (List.map_eq_nil_iff.mp e)
  ·rw[Aa3];have:=LR j;omega
  ·rw[hL];exact ND.lt j hj
 rintro _ ⟨x14,L,b14,hL,hiL,hv,rfl⟩;have e3:(W4 0 ((m:Int)+3).toNat).length=m+3:=by rw[Q1];omega
 rw[e3]at hv;refine B2 (Z8 (V8 (A1 (A3 rfl) A7) ?_ ?_) (λj ρ=>∃x14 T,x14.nb=true/\T.length=m/\M2 T=true/\(∀v,v<j->T[nf c m (v+3)-3]? = some (tN [nf c m ((TT.gst (TT.rF N) (TT.rG N) m).o0 (v+3)),nf c m ((TT.gst (TT.rF N) (TT.rG N) m).o1 (v+3)),nf c m ((TT.gst (TT.rF N) (TT.rG N) m).o2 (v+3))]))/\ρ=rc c cells m (lI (fl (TT.rF N) m)) (lI (fl (TT.rG N) m)) (.int (rr c m)) x6 x7 x8 tD oD (nI (nm c m)) L T x14) ⟨x14,_,b14,by simp,imr _,λv hv=>by omega,rfl⟩ ?_ ?_)
 ·omega
 ·omega
 ·rintro j d _ hd ⟨y14,T',c14,hT,hiT,hvT,rfl⟩;obtain ⟨rfl,hj⟩:=W6 hd;have hj:j<m:=by omega
  refine⟨_,D7,?_⟩;have rI:(TT.gst (TT.rF N) (TT.rG N) m).row (j+3)=_:=TT.Q4 (by omega) (by rw[(TT.T1 (TT.y4 N m) m (Aa7 _)).k];omega)
  have l0:(TT.gst (TT.rF N) (TT.rG N) m).o0 (j+3)<m+3:=LT (j+3) _ (by rw[rI];simp)
  have l1:(TT.gst (TT.rF N) (TT.rG N) m).o1 (j+3)<m+3:=LT (j+3) _ (by rw[rI];simp)
  have l2:(TT.gst (TT.rF N) (TT.rG N) m).o2 (j+3)<m+3:=LT (j+3) _ (by rw[rI];simp)
  have ge3:3<=nf c m (j+3):=by
   have:=ND.lo (by omega) (q:=j+3) (by omega)
   omega
  have lt3:nf c m (j+3)<m+3:=ND.lt (j+3) (by omega)
  have hat:atI (nI (nm c m)) (3+(j:Int))=some (.int (nf c m (j+3):Nat)):=by
   rw[show(3:Int)+(j:Int)=((j+3:Nat):Int) by omega];exact bP4 (by omega)
  show W K _ (rc c cells m (lI (fl (TT.rF N) m)) (lI (fl (TT.rG N) m)) (.int (rr c m)) x6 x7 x8 tD oD (nI (nm c m)) L T' (.val (.int (j:Int)))) _
  have cm:=Y9 (K:=K) (m:=true) (ρ:=rc c cells m (lI (fl (TT.rF N) m)) (lI (fl (TT.rG N) m)) (.int (rr c m)) x6 x7 x8 tD oD (nI (nm c m)) L T' (.val (.int (j:Int)))) (n:=1) (is:=[11]) (g:=U1 0) (tt:=aO4) (te:=tOp (rIx K) (Q7 1) (Q7 0)) (f3 (nf c m)) (aJ4 (ds:=nI [(TT.gst (TT.rF N) (TT.rG N) m).o0 (j+3),(TT.gst (TT.rF N) (TT.rG N) m).o1 (j+3),(TT.gst (TT.rF N) (TT.rG N) m).o2 (j+3)]) (J8 (A3 (i:=10) rfl) (A3 (i:=14) rfl) sqo (aH9 hj))) (by rw[N9];show 3<_;unfold PySem.sizeLine;omega) (λd hd=>by
   obtain ⟨p,hp,rfl⟩:=Aa8.mp hd;have hp:p<m+3:=by
    rcases Aa1.mp hp with rfl | hp
    ·exact l0
    ·rcases Aa1.mp hp with rfl | hp
     ·exact l1
     ·rw[Ad6.mp hp];exact l2
   exact⟨_,D7,aD9,LV.E.imm (d:=.int (nf c m p:Nat)) (J8 (bS0 rfl) (A3 rfl) rfl (bP4 hp))⟩)
  rw[cF9]at cm;refine cH3 (nf c m (j+3)-3) (aD7 (A1 (EF.e' cm) A7) (S5 _)) rfl (S1 (J8 (Q2 rfl) (S1 A9 (A3 rfl)) rfl hat) A9) (by omega) ?_ ⟨.val (.int (j:Int)),T'.set (nf c m (j+3)-3) (tN [nf c m ((TT.gst (TT.rF N) (TT.rG N) m).o0 (j+3)),nf c m ((TT.gst (TT.rF N) (TT.rG N) m).o1 (j+3)),nf c m ((TT.gst (TT.rF N) (TT.rG N) m).o2 (j+3))]),rfl,by rw[List.length_set];exact hT,aR3 (cF5 _) _ hiT,bD4 (n:=0) (f:=λv=>nf c m (v+3)-3) (g:=λv=>tN [nf c m ((TT.gst (TT.rF N) (TT.rG N) m).o0 (v+3)),nf c m ((TT.gst (TT.rF N) (TT.rG N) m).o1 (v+3)),nf c m ((TT.gst (TT.rF N) (TT.rG N) m).o2 (v+3))]) (by rw[hT];show nf c m (j+3)-3<m;omega) (λv hv e=>by
   have e:nf c m (v+3)-3=nf c m (j+3)-3:=e
   have g3:=ND.lo (by omega) (q:=v+3) (by omega)
   have:=ND.inj (v+3) (j+3) (by omega) (by omega) (by omega)
   omega) hvT rfl,rfl⟩ (cR7 b6 b7 b8 rfl)
  rw[hT];omega
 rintro _ ⟨y14,T',c14,hT,hiT,hvT,rfl⟩;rw[Q1,Ac7]at hvT;refine Q3 (X3 (A1 (aD7 (A1 (Q2 rfl) A7) hiL) (A1 (aD7 (A1 (Q2 rfl) A7) hiT) A7))) ?_;have eL:L=dr.map tN:=by
  refine List.ext_getElem? λz=>?_
  by_cases hz:z<m+3
  ·obtain ⟨v,hv1,rfl⟩:=ND.surj z hz;rw[hv v hv1,Aa9,B.dr v hv1];rfl
  ·rw[Ad4 (by omega),Ad4 (by rw[Aa3,B.dl];omega)]
 have eT:T'=tr.map tN:=by
  refine List.ext_getElem? λz=>?_
  by_cases hz:z<m
  ·obtain ⟨v,hv1,hv2⟩:=ND.surj (z+3) (by omega)
   have h3:3<=v:=by
    have:=ND.lo (by omega) hv1
    omega
   obtain ⟨u,rfl⟩:∃u,v=u+3:=⟨v-3,by omega⟩
   have hzz:z=nf c m (u+3)-3:=by omega
   rw[hzz,hvT u (by omega),Aa9,B.tr (u+3) h3 hv1];rfl
  ·rw[Ad4 (by omega),Ad4 (by rw[Aa3,B.tl];omega)]
 rw[eL,eT]
end
theorem dD4 {F G:Nat->Nat}{m:Nat}{f:Nat->Nat}(R:TT.Rws F G m)(N:TT.Nm (m+3) f):∃dr tr,TT.Bt F G m f dr tr:=by
 have ex:∀q,∃v,q<m+3->v<m+3/\f v=q:=λq=>by
  by_cases h:q<m+3
  ·obtain ⟨v,h1,h2⟩:=N.surj q h;exact⟨v,λ_=>⟨h1,h2⟩⟩
  ·exact⟨0,λz=>absurd z h⟩
 have ⟨g,hg⟩:∃g:Nat->Nat,∀q,q<m+3->g q<m+3/\f (g q)=q:=⟨λq=>Classical.choose (ex q),λq h=>Classical.choose_spec (ex q) h⟩
 have gf:∀v,v<m+3->g (f v)=v:=λv hv=>N.inj _ _ (hg _ (N.lt v hv)).1 hv (hg _ (N.lt v hv)).2
 refine⟨(List.range (m+3)).map λq=>TT.Z3 (((TT.gst F G m).row (g q)).map f),(List.range m).map λq=>[f ((TT.gst F G m).o0 (g (q+3))),f ((TT.gst F G m).o1 (g (q+3))),f ((TT.gst F G m).o2 (g (q+3)))],R,N,by simp,λv hv=>?_,by simp,λv h3 hv=>?_⟩
 ·rw[U7 (N.lt v hv),gf v hv]
 ·have h:=N.lo (by omega) hv
  have hl:=N.lt v hv
  rw[U7 (by omega)]
  have e:f v-3+3=f v:=by omega
  rw[e,gf v hv]
end K12
namespace TT
variable {F G:Nat->Nat}{m:Nat}{f:Nat->Nat}{d t:List (List Nat)}
end TT
namespace LV
open PySem PyProof.Rows L2
end LV
namespace K12
open PySem L2 LV PyProof.Rows
theorem cO1:D5 ["drawing", "p", "q"] ["drawing", "p", "q"] (A8 aJ7):=⟨rfl,rfl,rfl,by decide +kernel,rfl,by decide +kernel,by decide +kernel⟩
theorem aM6:D5 ["drawing", "p", "q"] ["drawing", "p", "q"] (A8 O2):=⟨rfl,rfl,rfl,by decide +kernel,rfl,by decide +kernel,by decide +kernel⟩
theorem sc_is_told_ahead:D5 ["pairs", "k", "p", "q"] ["pairs", "k"] (A8 M3):=⟨rfl,rfl,rfl,by decide +kernel,rfl,by decide +kernel,by decide +kernel⟩
theorem sc_fault_of_pairs:D5 ["drawing", "pairs", "k", "pair", "starts", "p"] ["drawing", "pairs"] (A8 K9):=⟨rfl,rfl,rfl,by decide +kernel,rfl,by decide +kernel,by decide +kernel⟩
theorem bB9:D5 ["pairs"] ["pairs"] (A8 T9):=⟨rfl,rfl,rfl,by decide +kernel,rfl,by decide +kernel,by decide +kernel⟩
theorem aQ2:D5 ["drawing", "pairs"] ["drawing", "pairs"] (A8 P8):=⟨rfl,rfl,rfl,by decide +kernel,rfl,by decide +kernel,by decide +kernel⟩
theorem dF4 (l:List Nat):tN l=tI (l.map λ(x:Nat)=>(x:Int)):=by unfold tN tI nI;simp
structure Dw (m:Nat)(dr tr:List (List Nat)):Prop where
 m7:m<=7
 bt:∃F G f,TT.Bt F G m f dr tr
theorem Dw.len {m:Nat}{dr tr:List (List Nat)}(h:Dw m dr tr):dr.length=m+3:=by
 obtain ⟨_,_,_,_,B⟩:=h;exact B.dl
theorem dA0 {dr:List (List Nat)}{p:Nat}(h:p<dr.length):dr[p]? = some (TT.trn dr p):=by
 unfold TT.trn;rw[Aa2 h];rfl
def pD (x:Int×Int):PyData:=tI [x.1,x.2]
theorem bM0 (x y:Int×Int):PyData.eqv (pD x) (pD y)=decide (x=y):=by
 unfold pD;rw[cX8];refine decide_eq_decide.mpr ?_;constructor
 ·intro h;simp at h;exact Prod.ext h.1 h.2
 ·rintro rfl;rfl
theorem bY1 (x:Int×Int):imm (pD x)=true:=cC0 _
theorem G7 (ps:List (Int×Int)):M2 (ps.map pD)=true:=aH3 bY1 ps
theorem bZ7 (x:Int×Int)(ps:List (Int×Int)):(ps.map pD).any (λz=>PyData.eqv z (pD x))=decide (x∈ps):=by
 induction ps with
 | nil=>rfl
 | cons y ps ih=>
  rw[Ac6,List.any_cons,ih,bM0];by_cases h:y=x
  ·subst h;simp
  ·have:¬x=y:=λz=>h z.symm
   simp[h,this]
theorem cW2 (q:Int)(l:List Nat):(nI l).any (λz=>PyData.eqv z (.int q))=decide (q∈l.map λ(x:Nat)=>(x:Int)):=by
 unfold nI;induction l with
 | nil=>rfl
 | cons y l ih=>
  rw[Ac6,List.any_cons,ih,bO9];by_cases h:(y:Int)=q
  ·subst h;simp
  ·have:¬q=(y:Int):=λz=>h z.symm
   simp[h,this]
theorem aY4 (x:Int×Int):FitN 1 (pD x):=cE4 _
theorem aS2 (ps:List (Int×Int)):Fit (.list (ps.map pD)):=(cI8 (n:=1) λd hd=>by obtain ⟨x,_,rfl⟩:=Aa8.mp hd;exact aY4 x).fit
def td (dr:List (List Nat))(p q:Int):Bool:=(decide (0<=p)&&decide (p<(dr.length:Int)))&&decide (q∈(TT.trn dr p.toNat).map λ(x:Nat)=>(x:Int))
def it (dr:List (List Nat))(x:Int×Int):Bool:=td dr x.1 x.2&&decide (max x.1 x.2≥3)
def cK2 (ds:List PyData)(d:PyData):Prop:=∃(dr:List (List Nat)) (p q:Int),ds=[.tuple (dr.map tN),.int p,.int q]/\d=.bool (td dr p q)
def dC5 (ds:List PyData)(d:PyData):Prop:=∃(dr:List (List Nat)) (p q:Int),ds=[.tuple (dr.map tN),.int p,.int q]/\d=.bool (it dr (p,q))
def gp (ps:List (Int×Int))(k:Nat):Int×Int:=ps.getD k (0,0)
theorem aE1 {ps:List (Int×Int)}{k:Nat}(h:k<ps.length):ps[k]? = some (gp ps k):=by
 unfold gp;rw[Aa2 h,Ac0,Aa2 h];rfl
def tb (ps:List (Int×Int))(k:Nat):Bool:=decide (gp ps k∈ps.take k)||decide (((gp ps k).2,(gp ps k).1)∈ps.take k)
def dC4 (ds:List PyData)(d:PyData):Prop:=∃(ps:List (Int×Int)) (k:Nat),k<ps.length/\ds=[.list (ps.map pD),.int (k:Int)]/\d=.bool (tb ps k)
def fs (n:Nat)(b:Nat->Bool):Option Nat:=(List.range n).find? b
theorem bA4 {n i:Nat}{b:Nat->Bool}(hi:i<n)(h:∀j,j<i->b j=false)(hb:b i=true):fs n b=some i:=by
 unfold fs;rw[List.find?_range_eq_some];exact⟨hb,Ab5.mpr hi,λj hj=>by simp[h j hj]⟩
theorem aD4 {n:Nat}{b:Nat->Bool}(h:∀j,j<n->b j=false):fs n b=none:=by
 unfold fs;rw[List.find?_eq_none];intro x hx
 simp[h x (Ab5.mp hx)]
def flt (m:Nat)(dr:List (List Nat))(ps:List (Int×Int)):PyData:=
 match fs ps.length λk => !it dr (gp ps k) with
 | some k=>.tuple [.str "tie",.int (k:Int)]
 | none=>match fs ps.length λk=>tb ps k with
  | some k=>.tuple [.str "twice",.int (k:Int)]
  | none=>match fs m λp => !decide (((ps.map (·.1)).count ((p:Int)+3):Int)=3) with
   | some p=>.tuple [.str "out",.int ((p:Int)+3)]
   | none=>.none
def aJ8 (ds:List PyData)(d:PyData):Prop:=∃(m:Nat) (dr tr:List (List Nat)) (ps:List (Int×Int)),Dw m dr tr/\ps.length<=10000/\ds=[.tuple (dr.map tN),.list (ps.map pD)]/\d=flt m dr ps
def cH2 (ds es:List PyData):Prop:=∃(ps:List (Int×Int)),ps.length<=10000/\ds=[.list (ps.map pD)]/\es=ps.map pD
def fT:PyData->Option PyData
 | .tuple [a,b]=>some (.tuple [a,b])
 | _=>none
theorem cX6 (ps:List (Int×Int)):(ps.map pD).filterMap fT=ps.map pD:=by
 rw[List.filterMap_map,<- List.filterMap_eq_map];exact X1 λx _=>rfl
def f0:PyData->Option PyData
 | .tuple [a,_]=>some a
 | _=>none
theorem cV6 (ps:List (Int×Int)):(ps.map pD).filterMap f0=(ps.map (·.1)).map PyData.int:=by
 rw[List.filterMap_map,Ae0,<- List.filterMap_eq_map];exact X1 λx _=>rfl
section
variable {P:Program}{w:World}{K:PySem.W.Frag}{mg:Str->Option Value}{base:Heap}{a:Ad}
theorem cO2 (T:Tx K mg a):E4 P w K mg base CX0 1 a.bM1 a.bK0 ["drawing", "p", "q"] (spV K cK2):=by
 refine T.cF4.ok cO1 (aA4 λds d ⟨_,_,_,e,_⟩=>by rw[e];rfl) (λcdv A outer s H vs Q E hr h=>?_)
 obtain ⟨ds,S,d,hS,r,⟨dr,p,q,rfl,rfl⟩,k⟩:=h;refine⟨_,(B0 (D6 (aS0 (cJ3 dG6 cT2 A6 (pv 1) (B9 (bI3 K) (by rfl) T.V4 PySem.boot_len (A0 (pv 0) A2))) (aC1 (t8 (bM6 K hr) (pv 2) (C0 (ixK K) (pv 0) (pv 1) (λ_ _=>rfl)) rfl))))),S6 hS r ?_ k⟩
 refine Q3 (d:=.bool (td dr p q)) ?_ rfl;have hl:(dr.map tN).length=dr.length:=Aa3 _;have h:=bJ1 (K:=K) (m:=true) (ρ:=sl0 ["drawing", "p", "q"].length [.tuple (dr.map tN),.int p,.int q]) (b:=decide (q∈(TT.trn dr p.toNat).map λ(x:Nat)=>(x:Int))) (cO0 (r:=rI0 λi j=>.bl (decide (i<=j))) (r':=rI0 λi j=>.bl (decide (i<j))) (g:=λi j=>decide (i<=j)) (g':=λi j=>decide (i<j)) (A9 (i:=0)) (A3 (i:=1) rfl) (Z7 (ds:=dr.map tN) (A1 (A3 (i:=0) rfl) A7))) (λh=>by
  rw[hl]at h;have h':=Bool.and_eq_true _ _▸h;have h1:(0:Int)<=p:=of_decide_eq_true h'.1;have h2:p<(dr.length:Int):=of_decide_eq_true h'.2;have e:=cS3 (K:=K) (m:=false) (ρ:=sl0 ["drawing", "p", "q"].length [.tuple (dr.map tN),.int p,.int q]) (A3 (i:=2) rfl) (J8 (d':=tN (TT.trn dr p.toNat)) (ds:=dr.map tN) (A3 (i:=0) rfl) (A3 (i:=1) rfl) rfl (Q0 p.toNat (by omega) (by rw[Aa9,dA0 (by omega)];rfl))) (ds:=nI (TT.trn dr p.toNat)) rfl (cP6 _) (by rw[dF4];exact(cE4 _).fit)
  rw[cW2]at e;exact e)
 rw[hl]at h;exact h
theorem dE2 (T:Tx K mg a):E4 P w K mg base CX0 2 a.Z6 a.d8 ["drawing", "p", "q"] (spV K dC5):=by
 have G_tied:E4 P w K mg base CX0 1 _ _ _ _:=cO2 T
 refine T.aB8.ok aM6 (aA4 λds d ⟨_,_,_,e,_⟩=>by rw[e];rfl) (λcdv A outer s H vs Q E hr h=>?_)
 obtain ⟨ds,S,d,hS,r,⟨dr,p,q,rfl,rfl⟩,k⟩:=h;obtain ⟨t_CORNERS,P5⟩:=T.P5;refine⟨_,(B0 (D6 (aS0 (C6 G_tied (hr.mono (by decide)) rfl T.cV5 T.cF4.kp T.cZ2 .nil L8 (A0 (pv 0) (A0 (pv 1) (A0 (pv 2) A2)))) (aC1 (t8 dD6 (B9 (bV1 rfl) (by rfl) T.bD7 boot_max (A0 (pv 1) (A0 (pv 2) A2))) (O9 (v:=.int 3) rfl P5 ⟨t_CORNERS,rfl⟩) (K3 _)))))),S6 hS r ?_ k⟩
 exact Q3 (bJ1 (G6 (A1 (A3 rfl) (A1 (A3 rfl) (A1 (A3 rfl) A7))) ⟨dr,p,q,rfl,rfl⟩) λh=>(bE7 (cY0 (A1 (A3 rfl) (A1 (A3 rfl) A7))) A9)) rfl
theorem dD8 (T:Tx K mg a):E4 P w K mg base CX0 1 a.X9 a.Y3 ["pairs", "k"] (spV K dC4):=by
 refine T.aA3.ok sc_is_told_ahead (aA4 λds d ⟨_,_,_,e,_⟩=>by rw[e];rfl) (λcdv A outer s H vs Q E hr h=>?_)
 obtain ⟨ds,S,d,hS,r,⟨ps,i,hi,rfl,rfl⟩,k⟩:=h;refine⟨_,(A5 (B8 (i:=2) sc_is_told_ahead.nd rfl (Or.inl rfl) (C0 (ixK K) (C0 (ixK K) (pv 0) (pv 1) (λ_ _=>rfl)) A6 (λ_ _=>rfl)))
   (A5 (B8 (i:=3) sc_is_told_ahead.nd rfl (Or.inl rfl) (C0 (ixK K) (C0 (ixK K) (pv 0) (pv 1) (λ_ _=>rfl)) A6 (λ_ _=>rfl)))
   (B0 (D6 (cG2 (t8 (bM6 K hr) (K1 (A0 (pv 2) (A0 (pv 3) A2))) (R3 (bB2 K) (pv 0) V2 (V1 (pv 1))) rfl) (aC1 (t8 (bM6 K hr) (K1 (A0 (pv 3) (A0 (pv 2) A2))) (R3 (bB2 K) (pv 0) V2 (V1 (pv 1))) rfl))))))),S6 hS r ?_ k⟩
 have hat:atI (ps.map pD) (i:Int)=some (pD (gp ps i)):=Q0 i rfl (by rw[Aa9,aE1 hi];rfl)
 refine B2 (Q8 (d:=.int (gp ps i).1) (J8 (J8 (d':=pD (gp ps i)) (A3 rfl) (A3 rfl) rfl hat) A9 rfl (Q0 0 rfl rfl)) ?_);refine B2 (Q8 (d:=.int (gp ps i).2) (J8 (J8 (d':=pD (gp ps i)) (A3 rfl) (A3 rfl) rfl hat) A9 rfl (Q0 1 rfl rfl)) ?_);have hcut:aG5 (ps.map pD) none (some (i:Int))=(ps.take i).map pD:=by rw[aZ1 (by rw[Aa3];omega),List.map_take]
 refine Q3 (d:=.bool (tb ps i)) ?_ rfl;have e1:=λ(x y:Int) (j l:Nat) (h1:([.val (.list (ps.map pD)),.val (.int (i:Int)),.val (.int (gp ps i).1),.val (.int (gp ps i).2)]:List Sl)[j]? = some (.val (.int x))) (h2:([.val (.list (ps.map pD)),.val (.int (i:Int)),.val (.int (gp ps i).1),.val (.int (gp ps i).2)]:List Sl)[l]? = some (.val (.int y)))=>cS3 (K:=K) (m:=false) (ρ:=[.val (.list (ps.map pD)),.val (.int (i:Int)),.val (.int (gp ps i).1),.val (.int (gp ps i).2)]) (X3 (A1 (A3 h1) (A1 (A3 h2) A7))) (EF.e' (aV6 (ds:=ps.map pD) (A3 (i:=0) rfl) aJ9 (aJ5 (A3 (i:=1) rfl)) (G7 ps))) (ds:=aG5 (ps.map pD) none (some (i:Int))) rfl (aY4 (x,y)).fit (by rw[hcut];exact aS2 _)
 have h1:=e1 (gp ps i).1 (gp ps i).2 2 3 rfl rfl
 have h2:=e1 (gp ps i).2 (gp ps i).1 3 2 rfl rfl
 rw[hcut]at h1 h2;have h1':=(bZ7 (gp ps i) (ps.take i))▸h1;have h2':=(bZ7 ((gp ps i).2,(gp ps i).1) (ps.take i))▸h2;exact dA6 h1' λ_=>h2'
theorem cU2 (T:Tx K mg a):E4 P w K mg base CX0 1 a.aB9 a.aB3 ["pairs"] (spL K cH2):=by
 refine T.aB7.ok bB9 (cL5 λds d ⟨_,_,e,_⟩=>by rw[e];rfl) (λcdv A outer s H vs Q E hr h=>?_)
 obtain ⟨ds,S,es,hS,r,⟨ps,hl,rfl,rfl⟩,k⟩:=h;refine⟨_,(B0 (D6 (i4 (T:=["pair"]) (N':=["pair"]) (is:=[]) rfl (.of rfl rfl rfl (by exact trivial) rfl rfl rfl (by exact trivial)) (aD2 (pv 0)) (Y6 (by decide)) λ_ _ _ _=>⟨(C5 (i:=0) (by decide +kernel:(["pair"]:List Str).Nodup) rfl (Or.inl rfl)),V0,(K1 (A0 (C0 (ixK K) (pv 0) A6 (λ_ _=>rfl)) (A0 (C0 (ixK K) (pv 0) A6 (λ_ _=>rfl)) A2)))⟩))),bC0 hS r ?_ k⟩
 have cm:=Y9 (K:=K) (m:=true) (ρ:=sl0 ["pairs"].length [.list (ps.map pD)]) (n:=1) (is:=[]) (g:=U1 0) (tt:=aO4) (te:=bJ5 (N0 (tOp (rIx K) (Q7 0) (tC (.int 0))) (N0 (tOp (rIx K) (Q7 0) (tC (.int 1))) p8))) fT (aJ4 (ds:=ps.map pD) (A3 (i:=0) rfl)) (by rw[Aa3];unfold PySem.sizeLine;omega) (λd hd=>by
  obtain ⟨x,hx,rfl⟩:=Aa8.mp hd;exact⟨_,D7,aD9,X3 (A1 (J8 (d':=.int x.1) (A3 rfl) A9 rfl (Q0 0 rfl rfl)) (A1 (J8 (d':=.int x.2) (A3 rfl) A9 rfl (Q0 1 rfl rfl)) A7))⟩)
 rw[cX6]at cm;exact aZ7 cm rfl
end
theorem cQ6 {lo:Int}{n i:Nat}{d:PyData}(h:(W4 lo n)[i]? = some d):d=.int (lo+(i:Int))/\i<n:=by
 have hi:=(Ab0.mp h).1
 have hn:i<n:=by simpa[W4]using hi
 unfold W4 at h;rw[Aa9,List.getElem?_range hn]at h;exact⟨(Ab4 h).symm,hn⟩
theorem cR0 {m k:Nat}{dr:List (List Nat)}{ps:List (Int×Int)}(hk:k<ps.length)(h:∀j,j<k->it dr (gp ps j)=true)(hb:it dr (gp ps k)=false):flt m dr ps=.tuple [.str "tie",.int (k:Int)]:=by
 unfold flt;rw[bA4 hk (λj hj=>by simp[h j hj]) (by simp[hb])]
theorem bU9 {m k:Nat}{dr:List (List Nat)}{ps:List (Int×Int)}(h0:∀j,j<ps.length->it dr (gp ps j)=true)(hk:k<ps.length)(h:∀j,j<k->tb ps j=false)(hb:tb ps k=true):flt m dr ps=.tuple [.str "twice",.int (k:Int)]:=by
 unfold flt;rw[aD4 (b:=λk => !it dr (gp ps k)) (λj hj=>by simp[h0 j hj]),bA4 hk h hb]
theorem cL1 {m k:Nat}{dr:List (List Nat)}{ps:List (Int×Int)}(h0:∀j,j<ps.length->it dr (gp ps j)=true)(h1:∀j,j<ps.length->tb ps j=false)(hk:k<m)(h:∀j,j<k->((ps.map (·.1)).count ((j:Int)+3):Int)=3)(hb:¬((ps.map (·.1)).count ((k:Int)+3):Int)=3):flt m dr ps=.tuple [.str "out",.int ((k:Int)+3)]:=by
 unfold flt;rw[aD4 (b:=λk => !it dr (gp ps k)) (λj hj=>by simp[h0 j hj]),aD4 (b:=λk=>tb ps k) h1]
 dsimp only
 rw[bA4 hk (λj hj=>by simp only[h j hj,decide_true];rfl) (by simp only[decide_eq_false hb];rfl)]
theorem bI2 {m:Nat}{dr:List (List Nat)}{ps:List (Int×Int)}(h0:∀j,j<ps.length->it dr (gp ps j)=true)(h1:∀j,j<ps.length->tb ps j=false)(h:∀j,j<m->((ps.map (·.1)).count ((j:Int)+3):Int)=3):flt m dr ps=.none:=by
 unfold flt;rw[aD4 (b:=λk => !it dr (gp ps k)) (λj hj=>by simp[h0 j hj]),aD4 (b:=λk=>tb ps k) h1]
 dsimp only
 rw[aD4 (λj hj=>by simp only[h j hj,decide_true];rfl)]
section
variable {P:Program}{w:World}{K:PySem.W.Frag}{mg:Str->Option Value}{base:Heap}{a:Ad}
theorem cR1 (T:Tx K mg a):E4 P w K mg base CX0 3 a.W0 a.V7 ["drawing", "pairs"] (spV K aJ8):=by
 have G_is_inner_tie:E4 P w K mg base CX0 2 _ _ _ _:=dE2 T
 have G_is_told_ahead:E4 P w K mg base CX0 1 _ _ _ _:=dD8 T
 refine T.W5.ok sc_fault_of_pairs (aA4 λds d ⟨_,_,_,_,_,_,e,_⟩=>by rw[e];rfl) (λcdv A outer s H vs Q E hr h=>?_)
 obtain ⟨ds,S,d,hS,r,⟨m,dr,tr,ps,dw,hl,rfl,rfl⟩,q⟩:=h;obtain ⟨t_CORNERS,P5⟩:=T.P5;obtain ⟨t_ARROWS_OUT,P1⟩:=T.P1;refine⟨_,(A5 (T7 PassesOwn.never rfl (bY5 K rfl T.X0 (A0 (pv 1) A2)) (aO6 (n:=2) rfl (T0 (C5 (i:=2) sc_fault_of_pairs.nd rfl (Or.inl rfl)) (T0 (C5 (i:=3) sc_fault_of_pairs.nd rfl (Or.inl rfl)) aI6))) (B0 (V6 (aK5 (aF8 (C6 G_is_inner_tie (hr.mono (by decide)) rfl T.aS3 T.aB8.kp T.aS5 .nil L8 (A0 (pv 0) (A0 (C0 (ixK K) (pv 3) A6 (λ_ _=>rfl)) (A0 (C0 (ixK K) (pv 3) A6 (λ_ _=>rfl)) A2)))))) (B0 (D6 (K1 (A0 aS6 (A0 (pv 2) A2))))) L9)))
   (A5 (T7 PassesOwn.never rfl (K8 rfl T.K5 (A0 (B9 (bI3 K) (by rfl) T.V4 PySem.boot_len (A0 (pv 1) A2)) A2)) (C5 (i:=2) sc_fault_of_pairs.nd rfl (Or.inl rfl)) (B0 (V6 (aF8 (C6 G_is_told_ahead (hr.mono (by decide)) rfl T.aM5 T.aA3.kp T.aL8 .nil L8 (A0 (pv 1) (A0 (pv 2) A2)))) (B0 (D6 (K1 (A0 aS6 (A0 (pv 2) A2))))) L9)))
   (A5 (bL8 (i:=4) sc_fault_of_pairs.nd rfl rfl (T:=["pair"]) (N':=["pair"]) (is:=[]) rfl (.of rfl rfl rfl (by exact trivial) rfl rfl rfl (by exact trivial)) (aD2 (pv 1)) (Y6 (by decide)) λ_ _ _ _=>⟨(C5 (i:=0) (by decide +kernel:(["pair"]:List Str).Nodup) rfl (Or.inl rfl)),V0,(C0 (ixK K) (pv 0) A6 (λ_ _=>rfl))⟩)
   (A5 (T7 PassesOwn.never rfl (bV9 rfl T.K5 (A0 (O9 (v:=.int 3) rfl P5 ⟨t_CORNERS,rfl⟩) (A0 (B9 (bI3 K) (by rfl) T.V4 PySem.boot_len (A0 (pv 0) A2)) A2))) (C5 (i:=5) sc_fault_of_pairs.nd rfl (Or.inl rfl)) (B0 (V6 (H9 cT8 (U8 Ab1 PySem.F.slot_list_count PySem.F.type_list_count (bX2 K) (pv 4) (A0 (pv 5) A2)) (O9 (v:=.int 3) rfl P1 ⟨t_ARROWS_OUT,rfl⟩) (K3 _)) (B0 (D6 (K1 (A0 aS6 (A0 (pv 5) A2))))) L9)))
   (B0 (D6 aO3)))))),S6 hS r ?_ q⟩
 have hdl:=dw.len
 have m7:=dw.m7
 refine B2 (Z8 (cO6 (A1 (A3 rfl) A7)) (λi ρ=>(∀j,j<i->it dr (gp ps j)=true)/\∃x2 x3,ρ=[.val (.tuple (dr.map tN)),.val (.list (ps.map pD)),x2,x3,.no,.no]) ⟨λj hj=>by omega,.no,.no,rfl⟩ ?_ ?_)
 ·rintro i d _ hd ⟨hok,x2,x3,rfl⟩;obtain ⟨y,hy,rfl⟩:=bM2 hd;rw[Aa9]at hy;obtain ⟨x,hx,rfl⟩:=Option.map_eq_some_iff.mp hy;have hi:i<ps.length:=(Ab0.mp hx).1;have hg:gp ps i=x:=by have:=aE1 hi;rw[hx]at this;exact(Ab4 this).symm
  refine⟨_,bG9 (W7 D7 (W7 D7 aQ4)),?_⟩;refine aC3 (aV3 (t_b (G6 (d:=.bool (it dr x)) (A1 (A3 rfl) (A1 (J8 (d':=.int x.1) (A3 rfl) A9 rfl (Q0 0 rfl rfl)) (A1 (J8 (d':=.int x.2) (A3 rfl) A9 rfl (Q0 1 rfl rfl)) A7))) ⟨dr,x.1,x.2,rfl,rfl⟩))) (λh=>Q3 (X3 (A1 bI7 (A1 (A3 rfl) A7))) ?_) (λh=>Q6 ⟨λj hj=>?_,_,_,rfl⟩)
  ·exact(cR0 hi hok (by rw[hg];simpa using h)).symm
  ·by_cases e:j=i
   ·subst e;rw[hg];simpa using h
   ·exact hok j (by omega)
 rintro _ ⟨hok,x2,x3,rfl⟩;rw[bT6,Aa3]at hok;refine B2 (Z8 (V8 (A1 (Z7 (ds:=ps.map pD) (A1 (A3 rfl) A7)) A7) (by rw[Aa3];omega) (by rw[Aa3];omega)) (λi ρ=>(∀j,j<i->tb ps j=false)/\∃x2 x3,ρ=[.val (.tuple (dr.map tN)),.val (.list (ps.map pD)),x2,x3,.no,.no]) ⟨λj hj=>by omega,x2,x3,rfl⟩ ?_ ?_)
 ·rintro i d _ hd ⟨hnt,x2,x3,rfl⟩;obtain ⟨rfl,hi⟩:=W6 hd;rw[Aa3]at hi;have hi:i<ps.length:=by omega
  refine⟨_,D7,?_⟩;refine aC3 (t_b (G6 (d:=.bool (tb ps i)) (A1 (A3 rfl) (A1 (A3 rfl) A7)) ⟨ps,i,hi,rfl,rfl⟩)) (λh=>Q3 (X3 (A1 bI7 (A1 (A3 rfl) A7))) ?_) (λh=>Q6 ⟨λj hj=>?_,_,_,rfl⟩)
  ·exact(bU9 hok hi hnt h).symm
  ·by_cases e:j=i
   ·subst e;exact h
   ·exact hnt j (by omega)
 rintro _ ⟨hnt,x2,x3,rfl⟩;rw[Q1,Aa3,Ac7]at hnt;have cm:=Y9 (K:=K) (m:=true) (ρ:=[.val (.tuple (dr.map tN)),.val (.list (ps.map pD)),x2,x3,.no,.no]) (n:=1) (is:=[]) (g:=U1 0) (tt:=aO4) (te:=tOp (rIx K) (Q7 0) (tC (.int 0))) f0 (aJ4 (ds:=ps.map pD) (A3 (i:=1) rfl)) (by rw[Aa3];unfold PySem.sizeLine;omega) (λd hd=>by
  obtain ⟨x,hx,rfl⟩:=Aa8.mp hd;exact⟨_,D7,aD9,J8 (d':=.int x.1) (A3 rfl) A9 rfl (Q0 0 rfl rfl)⟩)
 rw[cV6]at cm;refine B2 (K2 cm ?_ (show 4<6 by decide))
 have hln:((dr.map tN).length:Int)=(m:Int)+3:=by rw[Aa3,hdl];omega
 refine B2 (Z8 (dA2 (A1 A9 (A1 (Z7 (ds:=dr.map tN) (A1 (A3 rfl) A7)) A7)) (by rw[hln];omega)) (λi ρ=>(∀j,j<i->((ps.map (·.1)).count ((j:Int)+3):Int)=3)/\∃x5,ρ=[.val (.tuple (dr.map tN)),.val (.list (ps.map pD)),x2,x3,.own ((ps.map (·.1)).map PyData.int),x5]) ⟨λj hj=>by omega,.no,rfl⟩ ?_ ?_)
 ·rintro i d _ hd ⟨hc,x5,rfl⟩;obtain ⟨rfl,hi⟩:=cQ6 hd;rw[hln]at hi;have hi:i<m:=by omega
  refine⟨_,D7,?_⟩;have e3:(3:Int)+(i:Int)=(i:Int)+3:=by omega
  rw[e3];refine aC3 (O0 (cU4 (cJ6 (l:=ps.map (·.1)) (k:=(i:Int)+3) (Q2 rfl) (A3 rfl)) A9)) (λh=>Q3 (X3 (A1 bI7 (A1 (A3 rfl) A7))) ?_) (λh=>Q6 ⟨λj hj=>?_,_,rfl⟩)
  ·exact(cL1 hok hnt hi hc (by simpa using h)).symm
  ·by_cases e:j=i
   ·subst e;simpa using h
   ·exact hc j (by omega)
 rintro _ ⟨hc,x5,rfl⟩;rw[show(W4 3 (((dr.map tN).length:Int)-3).toNat).length=m by rw[Q1,hln];omega]at hc
 exact Q3 bS7 (bI2 hok hnt hc).symm
theorem cS9 (T:Tx K mg a):E4 P w K mg base CX0 4 a.j8 a.m8 ["drawing", "pairs"] (spV K aJ8):=by
 have G_fault_of_pairs:E4 P w K mg base CX0 3 _ _ _ _:=cR1 T
 have G_as_tuples:E4 P w K mg base CX0 1 _ _ _ _:=cU2 T
 refine T.j9.ok aQ2 (aA4 λds d ⟨_,_,_,_,_,_,e,_⟩=>by rw[e];rfl) (λcdv A outer s H vs Q E hr h=>?_)
 obtain ⟨ds,S,d,hS,r,⟨m,dr,tr,ps,dw,hl,rfl,rfl⟩,q⟩:=h;refine⟨_,(B0 (D6 (C6 G_fault_of_pairs (hr.mono (by decide)) rfl T.q9 T.W5.kp T.q8 .nil L8 (A0 (pv 0) (A0 (C6 G_as_tuples (hr.mono (by decide)) rfl T.aL2 T.aB7.kp T.aL1 .nil L8 (A0 (pv 1) A2)) A2))))),S6 hS r ?_ q⟩
 exact Q3 (G6 (A1 (A3 rfl) (A1 (EF.e' (aD3 (A1 (A3 rfl) A7) ⟨ps,hl,rfl,rfl⟩)) A7)) ⟨m,dr,tr,ps,dw,hl,rfl,rfl⟩) rfl
end
theorem sc__law_arrows:D5 ["_law_outs", "_law_pairs", "_law_v", "_law_place"] ["_law_outs"] (A8 P9):=⟨rfl,rfl,rfl,by decide +kernel,rfl,by decide +kernel,by decide +kernel⟩
def aS8 (ts:List (List Int)):List (List Int):=ts.mergeSort λa b => !HT.j7 b a
theorem S2 (ts:List (List Int)):(aS8 ts).Perm ts:=List.mergeSort_perm _ _
theorem aC9 (ts:List (List Int)):(aS8 ts).Pairwise M0:=by
 have:=List.pairwise_mergeSort (le:=λa b:List Int => !HT.j7 b a) (λa b d h1 h2=>by
  have:=aC7 a b d (by unfold M0;simpa using h1) (by unfold M0;simpa using h2)
  unfold M0 at this;simp[this]) (λa b=>by
  rcases aW4 a b with h | h <;> unfold M0 at h <;> simp[h]) ts
 refine this.imp λh=>?_
 unfold M0;simpa using h
def toL (x:Int×Int):List Int:=[x.1,x.2]
def ofL (l:List Int):Int×Int:=(l.getD 0 0,l.getD 1 0)
def sp (ps:List (Int×Int)):List (Int×Int):=(aS8 (ps.map toL)).map ofL
theorem bP0 (ps:List (Int×Int)):(sp ps).Perm ps:=by
 have h:=(S2 (ps.map toL)).map ofL
 rw[Ae0]at h;have e:ps.map (ofL ∘ toL)=ps:=(List.map_congr_left (g:=id) (λx _=>rfl)).trans (List.map_id _)
 rw[e]at h;exact h
theorem cW3 (ps:List (Int×Int)):(aS8 (ps.map toL)).map tI=(sp ps).map pD:=by
 unfold sp;rw[Ae0];refine List.map_congr_left λl hl=>?_
 obtain ⟨x,_,rfl⟩:=Aa8.mp ((S2 _).mem_iff.mp hl);rfl
theorem bH3 {K:PySem.W.Frag}{ρ:List Sl}{t:TA}{ps:List (Int×Int)}(ha:LV.A K false t ρ [.list (ps.map pD)])(h64:ps.length<64) :
  EF K (tCB (λxs H Q=>∃(p:Addr) (ys:List V) (ts:List (List Int)),xs=[.ref p]/\SqL K H p ys/\TupsV K H ys ts/\ys.length<64 /\
   ∀a (q:List Nat),H a=none->q.Perm (List.range ys.length)->(q.map λi=>ts.getD i []).Pairwise M0->Q (.ref a) (upd H a (.lst (q.map λi=>ys.getD i .non)))) t) ρ ((sp ps).map pD):=by
 have e:ps.map pD=(ps.map toL).map tI:=by rw[Ae0];rfl
 rw[e]at ha;rw[<- cW3];exact aP2 ha (λt ht=>by obtain ⟨x,_,rfl⟩:=Aa8.mp ht;simp[toL]) (by rw[Aa3];exact h64) (S2 _) (aC9 _)
def ga {α:Type}(g:Nat->List α)(n:Nat):List α:=((List.range n).map g).flatten
theorem aG6 {α:Type}(g:Nat->List α)(n:Nat):ga g (n+1)=ga g n++g n:=by
 unfold ga;rw[List.range_succ,Ad1,List.flatten_append];simp
theorem ga_mem {α:Type}{g:Nat->List α}{n:Nat}{x:α}:x∈ga g n↔∃i,i<n/\x∈g i:=by
 unfold ga;rw[List.mem_flatten];constructor
 ·rintro ⟨l,hl,hx⟩;obtain ⟨i,hi,rfl⟩:=Aa8.mp hl;exact⟨i,Ab5.mp hi,hx⟩
 ·rintro ⟨i,hi,hx⟩;exact⟨g i,Aa8.mpr ⟨i,Ab5.mpr hi,rfl⟩,hx⟩
def ga1 (tr:List (List Nat))(v:Nat):List (Int×Int):=(tr.getD v []).map λ(q:Nat)=>(3+(v:Int),(q:Int))
def arr (tr:List (List Nat)):List (Int×Int):=ga (ga1 tr) tr.length
def cA7 (ds:List PyData)(d:PyData):Prop:=∃(m:Nat) (dr tr:List (List Nat)),Dw m dr tr/\ds=[.tuple (tr.map tN)]/\d=.tuple ((sp (arr tr)).map pD)
theorem Dw.tl {m:Nat}{dr tr:List (List Nat)}(h:Dw m dr tr):tr.length=m:=by
 obtain ⟨_,_,_,_,B⟩:=h;exact B.tl
theorem Dw.t3 {m:Nat}{dr tr:List (List Nat)}(h:Dw m dr tr){v:Nat}(hv:v<m):∃r,tr[v]? = some r/\r.length=3:=by
 obtain ⟨_,F,G,f,B⟩:=h;obtain ⟨u,hu,e⟩:=B.N.surj (v+3) (by omega)
 have u3:3<=u:=by have:=B.N.lo (by omega) hu;omega
 have:=B.tr u u3 hu
 rw[e]at this;exact⟨_,this,rfl⟩
theorem aM9 {m:Nat}{dr tr:List (List Nat)}(h:Dw m dr tr){i:Nat}(hi:i<=tr.length):(ga (ga1 tr) i).length<=3*i:=by
 induction i with
 | zero=>simp[ga]
 | succ i ih=>
  rw[aG6,Ab7]
  have:=ih (by omega)
  have hm:=h.tl
  obtain ⟨r,h1,h2⟩:=h.t3 (v:=i) (by omega)
  have:(ga1 tr i).length=3:=by unfold ga1;rw[Aa3,Ac0,h1];exact h2
  omega
section
variable {P:Program}{w:World}{K:PySem.W.Frag}{mg:Str->Option Value}{base:Heap}{a:Ad}
theorem cW4 (T:Tx K mg a):E4 P w K mg base CX0 1 a.o8 a.m5 ["_law_outs"] (spV K cA7):=by
 refine T.aE5.ok sc__law_arrows (aA4 λds d ⟨_,_,_,_,e,_⟩=>by rw[e];rfl) (λcdv A outer s H vs Q E hr h=>?_)
 obtain ⟨ds,S,d,hS,r,⟨m,dr,tr,dw,rfl,rfl⟩,q⟩:=h;refine⟨_,(A5 (B8 (i:=1) sc__law_arrows.nd rfl (Or.inl rfl) (C4 A2))
   (A5 (T7 PassesOwn.never rfl (K8 rfl T.K5 (A0 (B9 (bI3 K) (by rfl) T.V4 PySem.boot_len (A0 (pv 0) A2)) A2)) (C5 (i:=2) sc__law_arrows.nd rfl (Or.inl rfl)) (B0 (T7 PassesOwn.never rfl (cE6 (C0 (ixK K) (pv 0) (pv 2) (λ_ _=>rfl))) (C5 (i:=3) sc__law_arrows.nd rfl (Or.inl rfl)) (B0 (N8 (U8 Ab1 PySem.F.slot_list_append PySem.F.type_list_append E8 (pv 1) (A0 (K1 (A0 (B4 E9 A6 (pv 2)) (A0 (pv 3) A2))) A2)))))))
   (B0 (D6 (P7 (dG9 K) (by rfl) T.T4 boot_tuple (A0 (B9 (t5 K) (by rfl) T.X5 boot_sorted (A0 (pv 1) A2)) A2)))))),S6 hS r ?_ q⟩
 have tl:=dw.tl
 have m7:=dw.m7
 have hln:((tr.map tN).length:Int)=(m:Int):=by rw[Aa3,tl]
 refine B2 (K2 (G8 A7) ?_ (show 1<4 by decide))
 refine B2 (Z8 (V8 (A1 (Z7 (ds:=tr.map tN) (A1 (A3 rfl) A7)) A7) (by rw[hln];omega) (by rw[hln];omega)) (λi ρ=>∃x2 x3,(x2.nb=true/\x3.nb=true)/\ρ=[.val (.tuple (tr.map tN)),.own ((ga (ga1 tr) i).map pD),x2,x3]) ⟨.no,.no,⟨rfl,rfl⟩,rfl⟩ ?_ ?_)
 ·rintro i d _ hd ⟨x2,x3,⟨b2,b3⟩,rfl⟩;obtain ⟨rfl,hi⟩:=W6 hd;rw[hln]at hi;have hi:i<m:=by omega
  obtain ⟨row,h1,h2⟩:=dw.t3 hi;have hal:=aM9 dw (i:=i) (by omega)
  have eg:tr.getD i []=row:=by rw[Ac0,h1];rfl
  refine⟨_,D7,?_⟩;refine Z8 (cU1 (ds:=nI row) (J8 (d':=tN row) (A3 rfl) (A3 rfl) rfl (Q0 i rfl (by rw[Aa9,h1];rfl)))) (λj ρ=>∃x3,x3.nb=true/\ρ=[.val (.tuple (tr.map tN)),.own ((ga (ga1 tr) i++(ga1 tr i).take j).map pD),.val (.int (i:Int)),x3]) ⟨x3,b3,by simp only[List.take_zero,List.filter_nil,List.map_nil,List.append_nil];rfl⟩ ?_ ?_
  ·rintro j d _ hd ⟨x3,b3,rfl⟩;unfold nI at hd;rw[Aa9]at hd;obtain ⟨x,hx,rfl⟩:=Option.map_eq_some_iff.mp hd;have hj:j<row.length:=(Ab0.mp hx).1;have et:(ga1 tr i).take (j+1)=(ga1 tr i).take j++[(3+(i:Int),(x:Int))]:=by
    rw[List.take_succ];unfold ga1;rw[Aa9,eg,hx];rfl
   have em:(ga (ga1 tr) i++(ga1 tr i).take (j+1)).map pD=(ga (ga1 tr) i++(ga1 tr i).take j).map pD++[pD (3+(i:Int),(x:Int))]:=by
    rw[et,<- Ad5,Ad1];rfl
   refine⟨_,D7,?_⟩;show W K _ [.val (.tuple (tr.map tN)),.own ((ga (ga1 tr) i++(ga1 tr i).take j).map pD),.val (.int (i:Int)),.val (.int (x:Int))] _;refine d4 rfl (X3 (A1 (S1 A9 (A3 rfl)) (A1 (A3 rfl) A7))) ?_ ⟨.val (.int (x:Int)),rfl,?_⟩
   ·rw[Aa3,Ab7,Ad0];unfold PySem.sizeLine;omega
   ·rw[em];rfl
  ·rintro _ ⟨x3,b3,rfl⟩;refine⟨.val (.int (i:Int)),x3,⟨rfl,b3⟩,?_⟩;rw[aG6]
   have:(ga1 tr i).take (nI row).length=ga1 tr i:=List.take_of_length_le (by unfold ga1;rw[Aa3,eg,N9];exact Aa7 _)
   rw[this]
 rintro _ ⟨x2,x3,⟨b2,b3⟩,rfl⟩;have e:(W4 0 ((tr.map tN).length:Int).toNat).length=tr.length:=by rw[Q1,hln,tl];omega
 rw[e];have hal:=aM9 dw (i:=tr.length) (Aa7 _);exact Q3 (aD7 (A1 (EF.e' (bH3 (ps:=arr tr) (A1 (Q2 rfl) A7) (by unfold arr;omega))) A7) (G7 _)) rfl
end
def mn (x:Int×Int):Int×Int:=(min x.1 x.2,max x.1 x.2)
theorem cY1 (ps:List (Int×Int))(k:Nat):tb ps k=decide (mn (gp ps k)∈(ps.map mn).take k):=by
 unfold tb;rw[Bool.eq_iff_iff,Bool.or_eq_true,decide_eq_true_eq,decide_eq_true_eq,decide_eq_true_eq,<- List.map_take,Aa8];obtain ⟨p,q⟩:=gp ps k;constructor
 ·rintro (h | h)
  ·exact⟨_,h,rfl⟩
  ·refine⟨_,h,?_⟩;unfold mn;exact Prod.ext (by simp only;omega) (by simp only;omega)
 ·rintro ⟨⟨a,b⟩,h,e⟩;have e1:min a b=min p q:=congrArg Prod.fst e;have e2:max a b=max p q:=congrArg Prod.snd e;by_cases hc:a=p
  ·have hb:b=q:=by omega
   subst hc;subst hb;exact .inl h
  ·have ha:a=q:=by omega
   have hb:b=p:=by omega
   subst ha;subst hb;exact .inr h
theorem sc__law_shuffled:D5 ["_law_things", "_law_cell", "_law_ranks"] ["_law_things", "_law_cell"] (A8 M4):=⟨rfl,rfl,rfl,by decide +kernel,rfl,by decide +kernel,by decide +kernel⟩
def prn (c:Int)(n:Nat):List (List Int):=(List.range n).map λ(k:Nat)=>[mx c (70+(k:Int)),(k:Int)]
def shf (c:Int)(ps:List (Int×Int)):List (Int×Int):=(aS8 (prn c ps.length)).map λt=>gp ps (t.getD 1 0).toNat
def cE0 (ds es:List PyData):Prop:=∃(c:Int) (ps:List (Int×Int)),ps.length<64/\ds=[.list (ps.map pD),.int c]/\es=(shf c ps).map pD
def fK (c:Int):PyData->Option PyData
 | .int k=>some (tI [mx c (70+k),k])
 | _=>none
theorem cW8 (c:Int)(n:Nat):(W4 0 n).filterMap (fK c)=(prn c n).map tI:=by
 unfold W4 prn;rw[List.filterMap_map,Ae0,<- List.filterMap_eq_map];refine X1 λx _=>?_
 show fK c (.int (0+(x:Int)))=_
 rw[Int.zero_add];rfl
def fG (ps:List (Int×Int)):PyData->Option PyData
 | .tuple [_,.int k]=>some (pD (gp ps k.toNat))
 | _=>none
theorem bQ8 {c:Int}{n:Nat}{t:List Int}(h:t∈aS8 (prn c n)):∃k:Nat,k<n/\t=[mx c (70+(k:Int)),(k:Int)]:=by
 obtain ⟨k,hk,e⟩:=Aa8.mp ((S2 _).mem_iff.mp h);exact⟨k,Ab5.mp hk,e.symm⟩
theorem cZ3 (c:Int)(ps:List (Int×Int)):((aS8 (prn c ps.length)).map tI).filterMap (fG ps)=(shf c ps).map pD:=by
 unfold shf;rw[List.filterMap_map,Ae0,<- List.filterMap_eq_map];refine X1 λt ht=>?_
 obtain ⟨k,_,rfl⟩:=bQ8 ht;rfl
def Fd (d:PyData):Prop:=d=.none\/∃(x:Str) (k:Int),(PyData.str x).canLay0=true/\d=.tuple [.str x,.int k]
theorem cI3 (m:Nat)(dr:List (List Nat))(ps:List (Int×Int)):Fd (flt m dr ps):=by
 unfold flt;split
 ·exact .inr ⟨_,_,by decide +kernel,rfl⟩
 ·split
  ·exact .inr ⟨_,_,by decide +kernel,rfl⟩
  ·split
   ·exact .inr ⟨_,_,by decide +kernel,rfl⟩
   ·exact .inl rfl
section
variable {P:Program}{w:World}{K:PySem.W.Frag}{mg:Str->Option Value}{base:Heap}{a:Ad}
theorem cX9 (T:Tx K mg a):E4 P w K mg base CX0 2 a.X7 a.Y1 ["_law_things", "_law_cell"] (spL K cE0):=by
 have G__law_mixed:E4 P w K mg base CX0 1 _ _ _ _:=aF9 T
 refine T.aA0.ok sc__law_shuffled (cL5 λds d ⟨_,_,_,e,_⟩=>by rw[e];rfl) (λcdv A outer s H vs Q E hr h=>?_)
 obtain ⟨ds,S,es,hS,r,⟨c,ps,hl,rfl,rfl⟩,q⟩:=h;refine⟨_,(A5 (B8 (i:=2) sc__law_shuffled.nd rfl (Or.inl rfl) (B9 (t5 K) (by rfl) T.X5 boot_sorted (A0 (i4 (T:=["_law_k"]) (N':=["_law_k", "_law_cell"]) (is:=[1]) rfl (.of rfl rfl rfl (by exact⟨rfl,trivial⟩) rfl rfl rfl (by exact⟨⟨_,rfl,by first | exact .inl rfl | exact .inr rfl,by first | exact .inl rfl | exact .inr rfl⟩,trivial⟩)) (K8 rfl T.K5 (A0 (B9 (bI3 K) (by rfl) T.V4 PySem.boot_len (A0 (pv 0) A2)) A2)) (Y6 (by decide)) λ_ _ _ _=>⟨(C5 (i:=0) (by decide +kernel:(["_law_k", "_law_cell"]:List Str).Nodup) rfl (Or.inl rfl)),V0,(K1 (A0 (C6 G__law_mixed (hr.mono (by decide)) rfl T.Y8 T.U4.kp T.Y7 .nil L8 (A0 (pv 1) (A0 (B4 E9 A6 (pv 0)) A2))) (A0 (pv 0) A2)))⟩) A2)))
   (B0 (D6 (i4 (T:=["_law_rank"]) (N':=["_law_rank", "_law_things"]) (is:=[0]) rfl (.of rfl rfl rfl (by exact⟨rfl,trivial⟩) rfl rfl rfl (by exact⟨⟨_,rfl,by first | exact .inl rfl | exact .inr rfl,by first | exact .inl rfl | exact .inr rfl⟩,trivial⟩)) (aD2 (pv 2)) (Y6 (by decide)) λ_ _ _ _=>⟨(C5 (i:=0) (by decide +kernel:(["_law_rank", "_law_things"]:List Str).Nodup) rfl (Or.inl rfl)),V0,(C0 (ixK K) (pv 1) (C0 (ixK K) (pv 0) A6 (λ_ _=>rfl)) (λ_ _=>rfl))⟩)))),bC0 hS r ?_ q⟩
 have cm:=Y9 (K:=K) (m:=true) (ρ:=sl0 ["_law_things", "_law_cell", "_law_ranks"].length [.list (ps.map pD),.int c]) (n:=1) (is:=[1]) (g:=U1 0) (tt:=aO4) (te:=bJ5 (N0 (aL3 (spV K aG1) [] E0 (N0 (Q7 1) (N0 (tOp (rI0 λi j=>.int (i+j)) (tC (.int 70)) (Q7 0)) p8))) (N0 (Q7 0) p8))) (fK c) (V8 (A1 (Z7 (ds:=ps.map pD) (A1 (A3 (i:=0) rfl) A7)) A7) (by rw[Aa3];omega) (by rw[Aa3];omega)) (by rw[Q1,Aa3];unfold PySem.sizeLine;omega) (λd hd=>by
  obtain ⟨i,hi⟩:=List.mem_iff_getElem?.mp hd;obtain ⟨rfl,hi⟩:=W6 hi;have hi2:i<ps.length:=by
   have e:(ps.map pD).length=ps.length:=Aa3 _
   omega
  exact⟨_,D7,aD9,X3 (A1 (G6 (A1 (A3 (i:=1) rfl) (A1 (S1 (g:=λi j=>i+j) A9 (A3 (i:=0) rfl)) A7)) ⟨c,70+(i:Int),by omega,rfl,rfl⟩) (A1 (A3 (i:=0) rfl) A7))⟩)
 rw[Aa3,Ac7,cW8]at cm;refine B2 (K2 (aP2 (A1 (EF.e' cm) A7) (λt ht=>by obtain ⟨k,_,rfl⟩:=Aa8.mp ht;simp) (by simp[prn];omega) (S2 _) (aC9 _)) ?_ (show 2<3 by decide))
 have cm2:=Y9 (K:=K) (m:=false) (ρ:=[.val (.list (ps.map pD)),.val (.int c),.own ((aS8 (prn c ps.length)).map tI)]) (n:=1) (is:=[0]) (g:=U1 0) (tt:=aO4) (te:=tOp (rIx K) (Q7 1) (tOp (rIx K) (Q7 0) (tC (.int 1)))) (fG ps) (aJ4 (Q2 (i:=2) rfl)) (by rw[Aa3,(S2 _).length_eq];simp[prn];unfold PySem.sizeLine;omega) (λd hd=>by
  obtain ⟨t,ht,rfl⟩:=Aa8.mp hd;obtain ⟨k,hk,rfl⟩:=bQ8 ht;exact⟨_,D7,aD9,J8 (d':=pD (gp ps k)) (A3 (i:=1) rfl) (J8 (d':=.int (k:Int)) (bS0 (i:=0) rfl) A9 rfl (Q0 1 rfl rfl)) rfl (Q0 k rfl (by rw[Aa9,aE1 hk];rfl))⟩)
 rw[cZ3]at cm2;exact aZ7 cm2 rfl
end
end K12
namespace TT
variable {F G:Nat->Nat}{m:Nat}{f:Nat->Nat}{d t:List (List Nat)}
structure Lnk (s:S):Prop where
 l0:∀q x,x∈s.i0 q->3<=x/\x<s.k+3/\s.o0 x=q
 l1:∀q x,x∈s.i1 q->3<=x/\x<s.k+3/\s.o1 x=q
 l2:∀q x,x∈s.i2 q->3<=x/\x<s.k+3/\s.o2 x=q/\3<=q
theorem aW7 (R:Rws F G m):∀i,i<=m->∀q,i+3<=q->(gst F G i).i2 q=[]
 | 0,_,_,_=>rfl
 | i+1,hi,q,hq=>by
  have SF:=aX9 R (i:=i) (by omega)
  have hk:(gst F G i).k=i:=SF.k
  show put (gst F G i).i2 ((gst F G i).k+3) _ q=[]
  rw[B6 (by omega)]
  exact aW7 R i (by omega) q (by omega)
structure Knl (s:S):Prop where
 k0:∀x,3<=x->x<s.k+3->x∈s.i0 (s.o0 x)
 k1:∀x,3<=x->x<s.k+3->x∈s.i1 (s.o1 x)
 k2:∀x,3<=x->x<s.k+3->s.o2 x≠2->x∈s.i2 (s.o2 x)
theorem bP7 {f:Nat->List Nat}{a q x:Nat}{l:List Nat}(h:x∈f q)(hl:∀y∈f a,y∈l):x∈put f a l q:=by
 by_cases e:q=a
 ·subst e;rw[B5];exact hl x h
 ·rw[B6 e];exact h
theorem bS2 (R:Rws F G m):∀i,i<=m->Knl (gst F G i)
 | 0,_=>⟨λx h1 h2=>absurd h2 (by show ¬x<0+3;omega),λx h1 h2=>absurd h2 (by show ¬x<0+3;omega),λx h1 h2=>absurd h2 (by show ¬x<0+3;omega)⟩
 | i+1,hi=>by
  have L:=bS2 R i (by omega)
  have SF:=aX9 R (i:=i) (by omega)
  have hk:(gst F G i).k=i:=SF.k
  refine⟨λx h3 hx=>?_,λx h3 hx=>?_,λx h3 hx=>?_⟩
  ·have hx:x<(gst F G i).k+1+3:=hx
   show x∈put (gst F G i).i0 (((gst F G i).path.drop (F i-pv F i)).headD 0) ((gst F G i).i0 (((gst F G i).path.drop (F i-pv F i)).headD 0)++[(gst F G i).k+3]) (put (gst F G i).o0 ((gst F G i).k+3) (((gst F G i).path.drop (F i-pv F i)).headD 0) x)
   by_cases e:x=(gst F G i).k+3
   ·subst e;rw[B5,B5];simp
   ·rw[B6 e];exact bP7 (L.k0 x h3 (by omega)) λy hy=>List.mem_append_left _ hy
  ·have hx:x<(gst F G i).k+1+3:=hx
   show x∈put (gst F G i).i1 ((((gst F G i).h1 (F i-pv F i)).drop (G i-pv G i)).headD 0) ((gst F G i).i1 ((((gst F G i).h1 (F i-pv F i)).drop (G i-pv G i)).headD 0)++[(gst F G i).k+3]) (put (gst F G i).o1 ((gst F G i).k+3) ((((gst F G i).h1 (F i-pv F i)).drop (G i-pv G i)).headD 0) x)
   by_cases e:x=(gst F G i).k+3
   ·subst e;rw[B5,B5];simp
   ·rw[B6 e];exact bP7 (L.k1 x h3 (by omega)) λy hy=>List.mem_append_left _ hy
  ·have hx:x<(gst F G i).k+1+3:=hx
   show(if x=(gst F G i).k+3 then 2 else if x∈((gst F G i).h1 (F i-pv F i)).take (G i-pv G i) then(gst F G i).k+3 else(gst F G i).o2 x)≠2->x∈put (gst F G i).i2 ((gst F G i).k+3) (((gst F G i).h1 (F i-pv F i)).take (G i-pv G i)) (if x=(gst F G i).k+3 then 2 else if x∈((gst F G i).h1 (F i-pv F i)).take (G i-pv G i) then(gst F G i).k+3 else(gst F G i).o2 x)
   by_cases e:x=(gst F G i).k+3
   ·rw[if_pos e];intro z;exact absurd rfl z
   ·rw[if_neg e];by_cases e2:x∈((gst F G i).h1 (F i-pv F i)).take (G i-pv G i)
    ·rw[if_pos e2,B5];exact λ_=>e2
    ·rw[if_neg e2];intro z;have hm:=L.k2 x h3 (by omega) z
     by_cases e3:(gst F G i).o2 x=(gst F G i).k+3
     ·exfalso
      have:=aW7 R i (by omega) ((gst F G i).o2 x) (by omega)
      rw[this]at hm;cases hm
     ·rw[B6 e3];exact hm
theorem bP6 (R:Rws F G m):∀i,i<=m->Lnk (gst F G i)
 | 0,_=>⟨λq x h=>(nomatch h),λq x h=>(nomatch h),λq x h=>(nomatch h)⟩
 | i+1,hi=>by
  have L:=bP6 R i (by omega)
  have I:=T1 R i (by omega)
  have SF:=aX9 R (i:=i) (by omega)
  have hk:(gst F G i).k=i:=I.k
  refine⟨λq x h=>?_,λq x h=>?_,λq x h=>?_⟩
  ·show 3<=x/\x<(gst F G i).k+1+3/\put (gst F G i).o0 ((gst F G i).k+3) _ x=q
   have h:x∈put (gst F G i).i0 (((gst F G i).path.drop (F i-pv F i)).headD 0) ((gst F G i).i0 (((gst F G i).path.drop (F i-pv F i)).headD 0)++[(gst F G i).k+3]) q:=h
   have old:x∈(gst F G i).i0 q->3<=x/\x<(gst F G i).k+1+3/\put (gst F G i).o0 ((gst F G i).k+3) (((gst F G i).path.drop (F i-pv F i)).headD 0) x=q:=λh=>by
    obtain ⟨a,b,c⟩:=L.l0 q x h;exact⟨a,by omega,by rw[B6 (by omega)];exact c⟩
   by_cases e:q=((gst F G i).path.drop (F i-pv F i)).headD 0
   ·subst e;rw[B5]at h;rcases Aa0.mp h with h | h
    ·exact old h
    ·rw[Ad6]at h;subst h;exact⟨by omega,by omega,B5⟩
   ·rw[B6 e]at h;exact old h
  ·show 3<=x/\x<(gst F G i).k+1+3/\put (gst F G i).o1 ((gst F G i).k+3) _ x=q
   have h:x∈put (gst F G i).i1 ((((gst F G i).h1 (F i-pv F i)).drop (G i-pv G i)).headD 0) ((gst F G i).i1 ((((gst F G i).h1 (F i-pv F i)).drop (G i-pv G i)).headD 0)++[(gst F G i).k+3]) q:=h
   have old:x∈(gst F G i).i1 q->3<=x/\x<(gst F G i).k+1+3/\put (gst F G i).o1 ((gst F G i).k+3) ((((gst F G i).h1 (F i-pv F i)).drop (G i-pv G i)).headD 0) x=q:=λh=>by
    obtain ⟨a,b,c⟩:=L.l1 q x h;exact⟨a,by omega,by rw[B6 (by omega)];exact c⟩
   by_cases e:q=(((gst F G i).h1 (F i-pv F i)).drop (G i-pv G i)).headD 0
   ·subst e;rw[B5]at h;rcases Aa0.mp h with h | h
    ·exact old h
    ·rw[Ad6]at h;subst h;exact⟨by omega,by omega,B5⟩
   ·rw[B6 e]at h;exact old h
  ·show 3<=x/\x<(gst F G i).k+1+3/\(if x=(gst F G i).k+3 then 2 else if x∈((gst F G i).h1 (F i-pv F i)).take (G i-pv G i) then(gst F G i).k+3 else(gst F G i).o2 x)=q/\3<=q
   have h:x∈put (gst F G i).i2 ((gst F G i).k+3) (((gst F G i).h1 (F i-pv F i)).take (G i-pv G i)) q:=h
   by_cases e:q=(gst F G i).k+3
   ·subst e;rw[B5]at h;obtain ⟨a,b⟩:=SF.lo x h;exact⟨a,by omega,by rw[if_neg (by omega),if_pos h],by omega⟩
   ·rw[B6 e]at h;obtain ⟨a,b,c,d⟩:=L.l2 q x h;refine⟨a,by omega,?_,d⟩
    rw[if_neg (by omega),if_neg]
    ·exact c
    ·intro z;have hm:x∈(gst F G i).path\/x∈(gst F G i).heap:=by
      have:=List.mem_of_mem_take z
      unfold S.h1 at this;rcases Aa0.mp this with y | y
      ·exact .inl (List.mem_of_mem_take (List.mem_reverse.mp y))
      ·exact .inr y
     have:=(I.inv.bd x hm).2 a
     omega
structure Rg (d t:List (List Nat))(n p:Nat)(a b c:List Nat):Prop where
 rot:∃u w,trn d p=u++w/\w++u=og t 0 p::(a++og t 1 p::(b++og t 2 p::c))
 nd:(og t 0 p::(a++og t 1 p::(b++og t 2 p::c))).Nodup
 ha:∀x∈a,3<=x/\x<n/\og t 2 x=p
 hb:∀x∈b,3<=x/\x<n/\og t 0 x=p
 hc:∀x∈c,3<=x/\x<n/\og t 1 x=p
 ka:∀x,3<=x->x<n->og t 2 x=p->x∈a
 kb:∀x,3<=x->x<n->og t 0 x=p->x∈b
 kc:∀x,3<=x->x<n->og t 1 x=p->x∈c
theorem Bt.ringv (B:Bt F G m f d t){v:Nat}(v3:3<=v)(hv:v<m+3):Rg d t (m+3) (f v) (((gst F G m).i2 v).map f) (((gst F G m).i0 v).map f) (((gst F G m).i1 v).reverse.map f):=by
 have h3:3<=f v:=by have:=B.N.lo (by omega) hv;omega
 have I:=T1 B.R m (Aa7 _)
 have L:=bP6 B.R m (Aa7 _)
 have KN:=bS2 B.R m (Aa7 _)
 have hk:(gst F G m).k=m:=I.k
 have hr:(gst F G m).row v=(gst F G m).o0 v::((gst F G m).i2 v++(gst F G m).o1 v::((gst F G m).i0 v++(gst F G m).o2 v::((gst F G m).i1 v).reverse)):=Q4 v3 (by rw[hk];exact hv)
 have e0:TT.og t 0 (f v)=f ((gst F G m).o0 v):=B.og (c:=0) (by omega) v3 hv
 have e1:TT.og t 1 (f v)=f ((gst F G m).o1 v):=B.og (c:=1) (by omega) v3 hv
 have e2:TT.og t 2 (f v)=f ((gst F G m).o2 v):=B.og (c:=2) (by omega) v3 hv
 have em:((gst F G m).row v).map f=TT.og t 0 (f v)::(((gst F G m).i2 v).map f++TT.og t 1 (f v)::(((gst F G m).i0 v).map f++TT.og t 2 (f v)::((gst F G m).i1 v).reverse.map f)):=by
  rw[hr,e0,e1,e2];simp
 have nd:(((gst F G m).row v).map f).Nodup:=bA5 B.N.inj (I.inv.nd v) λx hx=>by have:=I.inv.lt v x hx;omega
 refine⟨?_,?_,?_,?_,?_,λx h3 hx e=>?_,λx h3 hx e=>?_,λx h3 hx e=>?_⟩
 ·have ed:trn d (f v)=Z3 (((gst F G m).row v).map f):=by unfold trn;rw[B.dr v hv];rfl
  refine⟨(((gst F G m).row v).map f).drop ((((gst F G m).row v).map f).idxOf (mn (((gst F G m).row v).map f))),(((gst F G m).row v).map f).take ((((gst F G m).row v).map f).idxOf (mn (((gst F G m).row v).map f))),ed,?_⟩;rw[Ad2,em]
 ·rw[<- em];exact nd
 ·intro x hx;obtain ⟨y,hy,rfl⟩:=Aa8.mp hx;obtain ⟨y3,yk,ey,_⟩:=L.l2 v y hy;rw[hk]at yk
  have:=B.N.lo (by omega) yk
  exact⟨by omega,B.N.lt y yk,by rw[B.og (c:=2) (by omega) y3 yk];show f ((gst F G m).o2 y)=_;rw[ey]⟩
 ·intro x hx;obtain ⟨y,hy,rfl⟩:=Aa8.mp hx;obtain ⟨y3,yk,ey⟩:=L.l0 v y hy;rw[hk]at yk
  have:=B.N.lo (by omega) yk
  exact⟨by omega,B.N.lt y yk,by rw[B.og (c:=0) (by omega) y3 yk];show f ((gst F G m).o0 y)=_;rw[ey]⟩
 ·intro x hx;obtain ⟨y,hy,rfl⟩:=Aa8.mp hx;obtain ⟨y3,yk,ey⟩:=L.l1 v y (List.mem_reverse.mp hy);rw[hk]at yk
  have:=B.N.lo (by omega) yk
  exact⟨by omega,B.N.lt y yk,by rw[B.og (c:=1) (by omega) y3 yk];show f ((gst F G m).o1 y)=_;rw[ey]⟩
 ·obtain ⟨y,hy,rfl⟩:=B.N.surj x hx;have y3:3<=y:=by have:=B.N.lo (by omega) hy;omega
  rw[B.og (c:=2) (by omega) y3 hy]at e
  have ho:=(bC7 (c:=2) (s:=gst F G m) (by omega) y3 (by rw[hk];exact hy))
  have hlt:=I.inv.lt y _ ho
  have e':(gst F G m).o2 y=v:=B.N.inj _ _ (by rw[hk]at hlt;exact hlt) hv e
  have:=KN.k2 y y3 (by rw[hk];exact hy) (by omega)
  rw[e']at this;exact Aa8.mpr ⟨y,this,rfl⟩
 ·obtain ⟨y,hy,rfl⟩:=B.N.surj x hx;have y3:3<=y:=by have:=B.N.lo (by omega) hy;omega
  rw[B.og (c:=0) (by omega) y3 hy]at e
  have ho:=(bC7 (c:=0) (s:=gst F G m) (by omega) y3 (by rw[hk];exact hy))
  have hlt:=I.inv.lt y _ ho
  have e':(gst F G m).o0 y=v:=B.N.inj _ _ (by rw[hk]at hlt;exact hlt) hv e
  have:=KN.k0 y y3 (by rw[hk];exact hy)
  rw[e']at this;exact Aa8.mpr ⟨y,this,rfl⟩
 ·obtain ⟨y,hy,rfl⟩:=B.N.surj x hx;have y3:3<=y:=by have:=B.N.lo (by omega) hy;omega
  rw[B.og (c:=1) (by omega) y3 hy]at e
  have ho:=(bC7 (c:=1) (s:=gst F G m) (by omega) y3 (by rw[hk];exact hy))
  have hlt:=I.inv.lt y _ ho
  have e':(gst F G m).o1 y=v:=B.N.inj _ _ (by rw[hk]at hlt;exact hlt) hv e
  have:=KN.k1 y y3 (by rw[hk];exact hy)
  rw[e']at this;exact Aa8.mpr ⟨y,List.mem_reverse.mpr this,rfl⟩
theorem Bt.ring (B:Bt F G m f d t){p:Nat}(h3:3<=p)(hp:p<m+3):∃a b c,Rg d t (m+3) p a b c:=by
 obtain ⟨v,hv,rfl⟩:=B.N.surj p hp;have v3:3<=v:=by have:=B.N.lo (by omega) hv;omega
 exact⟨_,_,_,B.ringv v3 hv⟩
end TT
set_option maxHeartbeats 1000000
namespace K12
open PySem L2 LV PyProof.Rows
theorem aQ1 {α:Type}:∀{l:List α},(∀k (h:k<l.length),l[k]∉l.take k)->l.Nodup
 | [],_=>List.nodup_nil
 | a::l,h=>by
  refine Aa5.mpr ⟨λhm=>?_,aQ1 λk hk hm=>h (k+1) (by simpa using hk) (by simp[hm])⟩
  obtain ⟨k,hk,e⟩:=List.mem_iff_getElem.mp hm;exact h (k+1) (by simpa using hk) (by simp[e])
theorem bN5 {α:Type}{l:List α}(nd:l.Nodup)(k:Nat)(h:k<l.length):l[k]∉l.take k:=λhm=>by
 obtain ⟨j,hj,e⟩:=List.mem_iff_getElem.mp hm;rw[Ad0]at hj;rw[List.getElem_take]at e
 have:=(List.getElem_inj (h₀:=by omega) (h₁:=h) nd).mp e
 omega
theorem cA0 (ps:List (Int×Int)):(∀k,k<ps.length->tb ps k=false)↔(ps.map mn).Nodup:=by
 have ht:∀k (hk:k<ps.length),tb ps k=decide ((ps.map mn)[k]'(by simpa using hk)∈(ps.map mn).take k):=λk hk=>by
  rw[cY1]
  have:(ps.map mn)[k]'(by simpa using hk)=mn (gp ps k):=by
   rw[List.getElem_map]
   have:=aE1 hk
   rw[Aa2 hk]at this;rw[Ab4 this]
  rw[this]
 constructor
 ·intro h;refine aQ1 λk hk hm=>?_
  rw[Aa3]at hk
  have:=h k hk
  rw[ht k hk]at this;exact(of_decide_eq_false this) hm
 ·intro nd k hk;rw[ht k hk];exact decide_eq_false (bN5 nd k (by simpa using hk))
theorem aP9 {n:Nat}{b:Nat->Bool}(h:fs n b=none):∀j,j<n->b j=false:=λj hj=>by
 unfold fs at h;rw[List.find?_eq_none]at h;simpa using h j (Ab5.mpr hj)
theorem flt_none_iff {m:Nat}{dr:List (List Nat)}{ps:List (Int×Int)}:flt m dr ps=.none↔(∀x∈ps,it dr x=true)/\(ps.map mn).Nodup/\∀j,j<m->((ps.map (·.1)).count ((j:Int)+3):Int)=3:=by
 have hall:(∀x∈ps,it dr x=true)↔∀j,j<ps.length->it dr (gp ps j)=true:=by
  constructor
  ·intro h j hj;exact h _ (List.mem_of_getElem? (aE1 hj))
  ·intro h x hx;obtain ⟨j,hj,e⟩:=List.mem_iff_getElem.mp hx
   have:=aE1 hj
   rw[Aa2 hj]at this;rw[<- e,Ab4 this];exact h j hj
 rw[hall,<- cA0];constructor
 ·intro h;unfold flt at h;cases h1:fs ps.length λk => !it dr (gp ps k) with
  | some k=>rw[h1]at h;cases h
  | none=>
   rw[h1]at h;cases h2:fs ps.length λk=>tb ps k with
   | some k=>rw[h2]at h;cases h
   | none=>
    rw[h2]at h;cases h3:fs m λp => !decide (((ps.map (·.1)).count ((p:Int)+3):Int)=3) with
    | some p=>rw[h3]at h;cases h
    | none=>
     refine⟨λj hj=>by simpa using aP9 h1 j hj,aP9 h2,λj hj=>by simpa using aP9 h3 j hj⟩
 ·rintro ⟨a,b,c⟩;exact bI2 a b c
structure AI (dr:List (List Nat))(ps:List (Int×Int)):Prop where
 nd:ps.Nodup
 len:ps.length<=21
 lo:∀x∈ps,3<=x.1/\x.1<(dr.length:Int)/\0<=x.2/\x.2<(dr.length:Int)
 tie:∀x∈ps,td dr x.1 x.2=true
 anti:∀x∈ps,(x.2,x.1)∉ps
 out:∀b:Int,(ps.filter λx=>decide (x.1=b)).length<=3
theorem bG4 {α:Type}{g:Nat->List α}:∀{n:Nat},(∀i,i<n->(g i).Nodup)->(∀i j,i<j->j<n->∀x∈g i,x∉g j)->(ga g n).Nodup
 | 0,_,_=>by simp[ga]
 | n+1,h1,h2=>by
  rw[aG6];refine Aa4.mpr ⟨bG4 (λi hi=>h1 i (by omega)) (λi j hij hj=>h2 i j hij (by omega)),h1 n (by omega),λx hx y hy e=>?_⟩
  subst e;obtain ⟨i,hi,hx⟩:=ga_mem.mp hx;exact h2 i n hi (by omega) x hx hy
theorem aJ2 {m:Nat}{dr tr:List (List Nat)}(dw:Dw m dr tr){v:Nat}(hv:v<m):ga1 tr v=[(3+(v:Int),(TT.og tr 0 (v+3):Int)),(3+(v:Int),(TT.og tr 1 (v+3):Int)),(3+(v:Int),(TT.og tr 2 (v+3):Int))]:=by
 obtain ⟨r,h1,h2⟩:=dw.t3 hv;unfold ga1 TT.og;rw[Ac0,show v+3-3=v by omega,h1]
 match r,h2 with
 | [a,b,c],_=>rfl
theorem aN0 {m:Nat}{dr tr:List (List Nat)}(dw:Dw m dr tr){x:Int×Int}(h:x∈arr tr):∃v c,v<m/\c<3/\x=(((v+3:Nat):Int),(TT.og tr c (v+3):Int)):=by
 obtain ⟨v,hv,hx⟩:=ga_mem.mp h;rw[dw.tl]at hv;rw[aJ2 dw hv]at hx;simp only[Aa1,Ac2,or_false]at hx;rcases hx with rfl | rfl | rfl
 ·exact⟨v,0,hv,by omega,by rw[show((v+3:Nat):Int)=3+(v:Int) by omega]⟩
 ·exact⟨v,1,hv,by omega,by rw[show((v+3:Nat):Int)=3+(v:Int) by omega]⟩
 ·exact⟨v,2,hv,by omega,by rw[show((v+3:Nat):Int)=3+(v:Int) by omega]⟩
theorem bO6 {F G:Nat->Nat}{m:Nat}{f:Nat->Nat}{d t:List (List Nat)}(B:TT.Bt F G m f d t){p:Nat}(h3:3<=p)(hp:p<m+3):(TT.og t 0 p≠TT.og t 1 p/\TT.og t 0 p≠TT.og t 2 p/\TT.og t 1 p≠TT.og t 2 p)/\∀i j,i<3->j<3->3<=TT.og t i p->TT.og t i p<m+3->TT.og t j (TT.og t i p)≠p:=by
 obtain ⟨a,b,c,R⟩:=B.ring h3 hp;have nd:=R.nd;simp only[Aa5,Aa4,Aa0,Aa1,not_or]at nd;obtain ⟨⟨n1,n2,n3,n4,n5⟩,n6,⟨⟨n7,n8,n9⟩,n10,⟨n11,n12⟩,n13⟩,n14⟩:=nd;refine⟨⟨n2,n4,n8⟩,λi j hi hj h h' e=>?_⟩
 have hm:TT.og t i p∈a\/TT.og t i p∈b\/TT.og t i p∈c:=by
  rcases (show j=0\/j=1\/j=2 by omega) with rfl | rfl | rfl
  ·exact .inr (.inl (R.kb _ h h' e))
  ·exact .inr (.inr (R.kc _ h h' e))
  ·exact .inl (R.ka _ h h' e)
 rcases (show i=0\/i=1\/i=2 by omega) with rfl | rfl | rfl
 ·rcases hm with hm | hm | hm
  ·exact n1 hm
  ·exact n3 hm
  ·exact n5 hm
 ·rcases hm with hm | hm | hm
  ·exact n14 _ hm _ (.inl rfl) rfl
  ·exact n7 hm
  ·exact n9 hm
 ·rcases hm with hm | hm | hm
  ·exact n14 _ hm _ (.inr (.inr (.inl rfl))) rfl
  ·exact n13 _ hm _ (.inl rfl) rfl
  ·exact n11 hm
theorem cE5 {m:Nat}{dr tr:List (List Nat)}(dw:Dw m dr tr):AI dr (arr tr):=by
 have tl:=dw.tl
 have m7:=dw.m7
 have hl:=dw.len
 obtain ⟨F,G,f,B⟩:=dw.bt;have fs:∀i,i<m->∀x∈ga1 tr i,x.1=3+(i:Int):=λi hi x hx=>by
  rw[aJ2 dw hi]at hx;simp only[Aa1,Ac2,or_false]at hx;rcases hx with rfl | rfl | rfl <;> rfl
 refine⟨?_,?_,λx hx=>?_,λx hx=>?_,λx hx hn=>?_,λb=>?_⟩
 ·unfold arr;rw[tl];refine bG4 (λi hi=>?_) λi j hij hj x hx hy=>?_
  ·rw[aJ2 dw hi];obtain ⟨⟨h1,h2,h3⟩,_⟩:=bO6 B (p:=i+3) (by omega) (by omega)
   simp only[Aa5,Aa1,Ac2,or_false,not_or,Prod.mk.injEq,not_false_eq_true,List.nodup_nil,and_true,true_and];omega
  ·have h1:=fs i (by omega) x hx
   have h2:=fs j hj x hy
   omega
 ·have:=aM9 dw (i:=tr.length) (Aa7 _)
  unfold arr;omega
 ·obtain ⟨v,c,hv,hc,rfl⟩:=aN0 dw hx
  have:=(B.out_mem hc (show 3<=v+3 by omega) (by omega)).2
  rw[hl];refine⟨?_,?_,?_,?_⟩ <;> (dsimp only;omega)
 ·obtain ⟨v,c,hv,hc,rfl⟩:=aN0 dw hx
  have:=(B.out_mem hc (show 3<=v+3 by omega) (by omega)).1
  unfold td;simp only[Bool.and_eq_true,decide_eq_true_eq];exact⟨⟨by omega,by rw[hl];omega⟩,Aa8.mpr ⟨_,by rw[Ac7];exact this,rfl⟩⟩
 ·obtain ⟨v,c,hv,hc,rfl⟩:=aN0 dw hx;obtain ⟨u,c',hu,hc',e⟩:=aN0 dw hn;simp only[Prod.mk.injEq]at e;obtain ⟨e1,e2⟩:=e;have e1:TT.og tr c (v+3)=u+3:=by omega
  have e2:v+3=TT.og tr c' (u+3):=by omega
  exact(bO6 B (p:=v+3) (by omega) (by omega)).2 c c' hc hc' (by omega) (by omega) (by rw[e1];omega)
 ·have key:∀n,n<=m->((ga (ga1 tr) n).filter λx=>decide (x.1=b)).length<=if b<3+(n:Int) then 3 else 0:=by
   intro n;induction n with
   | zero=>intro _;simp[ga]
   | succ n ih=>
    intro hn;have ih:=ih (by omega)
    rw[aG6,List.filter_append,Ab7];have h3:((ga1 tr n).filter λx=>decide (x.1=b)).length<=if 3+(n:Int)=b then 3 else 0:=by
     by_cases e:3+(n:Int)=b
     ·rw[if_pos e];refine Nat.le_trans (List.length_filter_le _ _) ?_;rw[aJ2 dw (by omega)];exact Aa7 _
     ·rw[if_neg e,List.filter_eq_nil_iff.mpr λx hx=>by rw[fs n (by omega) x hx];simpa using e]
      exact Aa7 _
    by_cases c1:b<3+(n:Int)
    ·rw[if_pos c1]at ih;rw[if_neg (by omega)]at h3
     rw[if_pos (by omega)];omega
    ·rw[if_neg c1]at ih;by_cases c2:3+(n:Int)=b
     ·rw[if_pos c2]at h3;rw[if_pos (by omega)];omega
     ·rw[if_neg c2]at h3;omega
  have:=key m (Aa7 _)
  unfold arr;rw[tl];split at this <;> omega
theorem AI.perm {dr:List (List Nat)}{ps qs:List (Int×Int)}(h:AI dr ps)(p:qs.Perm ps):AI dr qs:=
 ⟨p.nodup_iff.mpr h.nd,by rw[p.length_eq];exact h.len,λx hx=>h.lo x (p.mem_iff.mp hx),λx hx=>h.tie x (p.mem_iff.mp hx),λx hx hn=>h.anti x (p.mem_iff.mp hx) (p.mem_iff.mp hn),λb=>by rw[(p.filter _).length_eq];exact h.out b⟩
theorem cJ8 {m:Nat}{dr tr:List (List Nat)}(dw:Dw m dr tr)(k:Nat):∀n,n<=m->((ga (ga1 tr) n).map (·.1)).count ((k:Int)+3)=if k<n then 3 else 0:=by
 intro n;induction n with
 | zero=>intro _;simp[ga]
 | succ n ih=>
  intro hn;rw[aG6,Ad1,List.count_append,ih (by omega),aJ2 dw (by omega)]
  simp only[Ac6,List.map_nil];by_cases e:k=n
  ·subst e;rw[if_neg (by omega),if_pos (by omega),show 3+(k:Int)=(k:Int)+3 by omega]
   simp
  ·have ne:¬ 3+(n:Int)=(k:Int)+3:=by omega
   have c0:List.count ((k:Int)+3) [3+(n:Int),3+(n:Int),3+(n:Int)]=0:=by
    rw[List.count_eq_zero];simp only[Aa1,Ac2,or_false,or_self];omega
   rw[c0];by_cases c:k<n
   ·rw[if_pos c,if_pos (by omega)]
   ·rw[if_neg c,if_neg (by omega)]
theorem cB8 {m:Nat}{dr tr:List (List Nat)}(dw:Dw m dr tr){ps:List (Int×Int)}(hp:ps.Perm (arr tr)){k:Nat}(hk:k<m):(ps.map (·.1)).count ((k:Int)+3)=3:=by
 rw[(hp.map _).count_eq];unfold arr;rw[dw.tl,cJ8 dw k m (Aa7 _),if_pos hk]
theorem dC9 {x y:Int×Int}(h:mn x=mn y):x=y\/x=(y.2,y.1):=by
 obtain ⟨a,b⟩:=x;obtain ⟨c,d⟩:=y;have e1:min a b=min c d:=congrArg Prod.fst h;have e2:max a b=max c d:=congrArg Prod.snd h;by_cases hc:a=c
 ·exact .inl (Prod.ext hc (by simp only;omega))
 ·exact .inr (Prod.ext (by simp only;omega) (by simp only;omega))
theorem bE6 {m:Nat}{dr tr:List (List Nat)}(dw:Dw m dr tr){ps:List (Int×Int)}(hp:ps.Perm (arr tr)):flt m dr ps=.none:=by
 have ai:=(cE5 dw).perm hp
 refine flt_none_iff.mpr ⟨λx hx=>?_,?_,λj hj=>by rw[cB8 dw hp hj];rfl⟩
 ·unfold it;rw[ai.tie x hx,Bool.true_and]
  have:=ai.lo x hx
  exact decide_eq_true (by omega)
 ·rw[Ac5,Ad8];refine List.Pairwise.imp_of_mem (R:=λx y=>x≠y) (λ{x y} hx hy hne e=>?_) (Ac5.mp ai.nd)
  rcases dC9 e with rfl | e
  ·exact hne rfl
  ·subst e;exact ai.anti y hy hx
theorem cP1 {m:Nat}{dr:List (List Nat)}{ps:List (Int×Int)}{k:Nat}(hk:k<m)(h:(ps.map (·.1)).count ((k:Int)+3)≠3):flt m dr ps≠.none:=λe=>by
 have:=(flt_none_iff.mp e).2.2 k hk
 omega
def spo (ps:List (Int×Int))(c:Int):List (Int×Int):=
 let i:=(c / 4 % (ps.length:Int)).toNat
 if c % 4=0 then ps.take i++[((gp ps i).2,(gp ps i).1)]++ps.drop (i+1) else if c % 4=1 then ps.take i++ps.drop (i+1) else if c % 4=2 then ps++[gp ps i] else ps.take i++[(0,1)]++ps.drop (i+1)
theorem cK8 (ps:List (Int×Int))(c:Int):(spo ps c).length<=ps.length+1:=by
 unfold spo;dsimp only;split
 ·simp only[Ab7,Ad0,List.length_drop,List.length_cons,List.length_nil];omega
 ·split
  ·simp only[Ab7,Ad0,List.length_drop];omega
  ·split
   ·simp
   ·simp only[Ab7,Ad0,List.length_drop,List.length_cons,List.length_nil];omega
theorem cQ1 {m:Nat}{dr tr:List (List Nat)}(dw:Dw m dr tr){ps:List (Int×Int)}(hp:ps.Perm (arr tr))(h0:0<ps.length)(c:Int):flt m dr (spo ps c)≠.none:=by
 have ai:=(cE5 dw).perm hp
 have hil:(c / 4 % (ps.length:Int)).toNat<ps.length:=by
  have:=Int.emod_nonneg (c / 4) (b:=(ps.length:Int)) (by omega)
  have:=Int.emod_lt_of_pos (c / 4) (b:=(ps.length:Int)) (by omega)
  omega
 generalize hi:(c / 4 % (ps.length:Int)).toNat=i at hil;have hg:=aE1 hil;have hx:gp ps i∈ps:=List.mem_of_getElem? hg;have lo:=ai.lo _ hx;have hne:(gp ps i).2≠(gp ps i).1:=λe=>ai.anti _ hx (by rw[show(((gp ps i).2,(gp ps i).1):Int×Int)=gp ps i from Prod.ext e e.symm];exact hx)
 have hdl:=dw.len
 obtain ⟨k,hk,hkm⟩:∃k:Nat,(gp ps i).1=(k:Int)+3/\k<m:=⟨((gp ps i).1-3).toNat,by omega,by omega⟩
 have h3:=cB8 dw hp hkm
 have split3:ps=ps.take i++gp ps i::ps.drop (i+1):=by
  have:ps.drop i=gp ps i::ps.drop (i+1):=by
   rw[List.drop_eq_getElem_cons hil];rw[Aa2 hil]at hg;rw[Ab4 hg]
  rw[<- this,Ad2]
 have hc:((ps.take i).map (·.1)).count ((k:Int)+3)+((ps.drop (i+1)).map (·.1)).count ((k:Int)+3)=2:=by
  have h4:=h3
  generalize ps.take i=L at split3 ⊢;generalize ps.drop (i+1)=R at split3 ⊢;rw[split3,Ad1,Ac6,List.count_append,List.count_cons]at h4;have e1:((gp ps i).1==(k:Int)+3)=true:=by rw[hk];simp
  rw[e1,if_pos rfl]at h4;omega
 refine cP1 hkm ?_;unfold spo;dsimp only;rw[hi];have n1:¬(gp ps i).2=(k:Int)+3:=by omega
 split
 ·rw[Ad1,Ad1,List.count_append,List.count_append,Ac6,List.map_nil,List.count_singleton];rw[show(((gp ps i).2:Int)==(k:Int)+3)=false by simpa using n1]
  simp only[Bool.false_eq_true,if_false];omega
 ·split
  ·rw[Ad1,List.count_append];omega
  ·split
   ·rw[Ad1,List.count_append,h3,Ac6,List.map_nil,List.count_singleton,hk]
    simp
   ·rw[Ad1,Ad1,List.count_append,List.count_append,Ac6,List.map_nil,List.count_singleton];rw[show((0:Int)==(k:Int)+3)=false by simp;omega]
    simp only[Bool.false_eq_true,if_false];omega
end K12
namespace L2
open PySem PySem.Spec PyProof.Rows
section
variable {prog:Program}{w:World}{A:Around}{E:Value->Shared->Prop}{s:Shared}
structure ZAp (z TI TO i1 i2 l1 l2:Addr):Prop where
 nd:[z,TI,TO,i1,i2].Nodup
 m1:l1∉[z,TO,i1,i2]
 m2:l2∉[z,TO,i1,i2]
theorem aG3 {l b:Addr}{h h':Heap}{xs:Array Value}(H:h.IsTuple l xs)(k:∀o,h.get? l=some o->h'.get? l=some o):h'.IsTuple l xs:=by
 obtain ⟨o,e,r⟩:=H;exact⟨o,k o e,r⟩
theorem bV5 {z TI TO i1 i2 l1 l2:Addr}{k:Nat}{xs ys:Array Value}{x y a b:Value}{Q:Value->Shared->Prop}(D:ZAp z TI TO i1 i2 l1 l2)(hz:IsZip s.heap z TI TO .none)(hTI:IsPair s.heap TI (.ref i1) (.ref i2))(hTO:IsPair s.heap TO a b)
  (h1:s.heap.IsTupleIter i1 l1 k) (h2:s.heap.IsTupleIter i2 l2 k) (t1:s.heap.IsTuple l1 xs) (t2:s.heap.IsTuple l2 ys) (hx:xs[k]? = some x) (hy:ys[k]? = some y)
  (hQ:∀h',IsZip h' z TI TO (rawInt s.heap.objs.size)->IsPair h' TO x y->h'.IsTupleIter i1 l1 (k+1)->h'.IsTupleIter i2 l2 (k+1)->IsPair h' s.heap.objs.size x y->(∀c o,c∉[z,TO,i1,i2]->s.heap.get? c=some o->h'.get? c=some o)->Q (.ref s.heap.objs.size) {s with heap:=h'}) :
  wpAny (model prog w) A (Builtin.«zip.__next__» ⟨[.ref z],[]⟩) (λfin s'=>∃v,fin=.done (.ret v)/\Q v s') E s:=by
 obtain ⟨nd,m1,m2⟩:=D;simp only[Aa5,Aa1,Ac2,or_false,not_or,not_false_eq_true,List.nodup_nil,and_true]at nd m1 m2;obtain ⟨⟨n1,n2,n3,n4⟩,⟨n5,n6,n7⟩,⟨n8,n9⟩,n10⟩:=nd;obtain ⟨p1,p2,p3,p4⟩:=m1;obtain ⟨q1,q2,q3,q4⟩:=m2;show wpAny _ _ (field (.ref z) 2 >>= _) _ _ _;refine wpAny_bind (wpAny_field hz rfl (x:=.bool false) rfl ?_);show wpAny _ _ (field (.ref z) 3 >>= _) _ _ _;refine wpAny_bind (wpAny_field hz rfl (x:=.ref TI) rfl (wpAny_bind (wpAny_seqItems hTI rfl ?_)));show wpAny _ _ (Builtin.SmallTypes.ownedTupleIsFree (.ref z) >>= _) _ _ _;refine wpAny_bind ?_;unfold Builtin.SmallTypes.ownedTupleIsFree;refine wpAny_bind (wpAny_field hz rfl (x:=.none) rfl (wpAny_pure ?_));simp only[if_true];refine wpAny_bind (wpAny_rule (wpAny_bind (wpAny_field hz rfl (x:=.ref TO) rfl (wpAny_bind (wpAny_setField_rec hz (by simp) λg1 z1 s1=>wpAny_bind ?_)))))
 replace z1:IsZip g1 z TI TO .ellipsis:=z1;simp only[List.zipIdx_cons,List.zipIdx_nil,List.forIn_cons,List.forIn_nil]
 refine wpAny_bind (wpAny_bind (wpAny_onRaise ?_));show wpAny _ _ (Builtin.SmallTypes.nextOf (.ref i1) >>= _) _ _ _;have k1:=λc (hc:c≠z) o (e:s.heap.get? c=some o)=>s1.extBut _ _ hc e
 refine wpAny_bind (j6 (h1.at (k1 i1 (Ne.symm n3))) (aG3 (b:=z) t1 (k1 l1 p1)) hx λg2 i1₂ s2=>wpAny_pure ?_)
 have o2:IsPair g2 TO a b:=s2.extBut _ _ n8 (k1 TO (Ne.symm n2) _ hTO)
 refine wpAny_bind (wpAny_seqItems o2 rfl (wpAny_bind (wpAny_updateSeq_pair o2 λg3 o3 s3=>wpAny_bind (wpAny_letGo (wpAny_pure ?_)))));replace o3:IsPair g3 TO x b:=o3
 refine wpAny_bind (wpAny_bind (wpAny_onRaise ?_));show wpAny _ _ (Builtin.SmallTypes.nextOf (.ref i2) >>= _) _ _ _;have k3:=λc (hc:c≠z) (hc2:c≠i1) (hc3:c≠TO) o (e:s.heap.get? c=some o)=>s3.extBut _ _ hc3 (s2.extBut _ _ hc2 (k1 c hc o e))
 refine wpAny_bind (j6 (h2.at (k3 i2 (Ne.symm n4) (Ne.symm n10) (Ne.symm n9))) (aG3 (b:=z) t2 (k3 l2 q1 q3 q2)) hy λg4 i2₄ s4=>wpAny_pure ?_)
 have o4:IsPair g4 TO x b:=s4.extBut _ _ n9 o3
 refine wpAny_bind (wpAny_seqItems o4 rfl (wpAny_bind (wpAny_updateSeq_pair o4 λg5 o5 s5=>wpAny_bind (wpAny_letGo (wpAny_pure (wpAny_pure ?_))))));replace o5:IsPair g5 TO x y:=o5
 refine wpAny_bind (wpAny_seqItems o5 rfl (wpAny_bind (wpAny_newTuple ?_)));have sz:g5.objs.size=s.heap.objs.size:=by rw[s5.1,s4.1,s3.1,s2.1,s1.1]
 have k5:=λc (hc:c≠z) (hc2:c≠i1) (hc3:c≠TO) (hc4:c≠i2) o (e:s.heap.get? c=some o)=>s5.extBut _ _ hc3 (s4.extBut _ _ hc4 (k3 c hc hc2 hc3 o e))
 have z5:IsZip g5 z TI TO .ellipsis:=s5.extBut _ _ n2 (s4.extBut _ _ n4 (s3.extBut _ _ n2 (s2.extBut _ _ n3 z1)))
 have i1₅:g5.IsTupleIter i1 l1 (k+1):=i1₂.at λo e=>s5.extBut _ _ (Ne.symm n8) (s4.extBut _ _ n10 (s3.extBut _ _ (Ne.symm n8) e))
 have i2₅:g5.IsTupleIter i2 l2 (k+1):=i2₄.at λo e=>s5.extBut _ _ (Ne.symm n9) e
 show wpAny _ _ (Builtin.SmallTypes.ownedTupleHandOut (.ref z) (.ref g5.objs.size) >>= _) _ _ _
 refine wpAny_bind ?_;unfold Builtin.SmallTypes.ownedTupleHandOut;have z6:IsZip (g5.push {cls:=.type "tuple",data:=.seq #[x,y]}) z TI TO .ellipsis:=Aa6 _ z5;refine wpAny_bind (wpAny_setField_rec z6 (by simp) λg7 z7 s7=>?_);replace z7:IsZip g7 z TI TO (rawInt g5.objs.size):=z7
 refine wpAny_setField_rec z7 (by simp) λg8 z8 s8=>?_;replace z8:IsZip g8 z TI TO (rawInt g5.objs.size):=z8
 have up:∀c o,c≠z->(g5.push {cls:=.type "tuple",data:=.seq #[x,y]}).get? c=some o->g8.get? c=some o:=λc o c1 e=>s8.extBut _ _ c1 (s7.extBut _ _ c1 e)
 have up':∀c o,c≠z->g5.get? c=some o->g8.get? c=some o:=λc o c1 e=>up c o c1 (Aa6 _ e)
 have T8:IsPair g8 g5.objs.size x y:=up _ _ (Nat.ne_of_gt (Ab3 z5)) (Ac3 _ rfl)
 rw[sz]at z8 T8;refine wpAny_pure ⟨_,rfl,?_⟩;show Q (.ref g5.objs.size) _;rw[sz];refine hQ g8 z8 (up' _ _ (Ne.symm n2) o5) (i1₅.at λo e=>up' _ o (Ne.symm n3) e) (i2₅.at λo e=>up' _ o (Ne.symm n4) e) T8 λc o hc e=>?_
 simp only[Aa1,Ac2,or_false,not_or]at hc;exact up' c o hc.1 (k5 c hc.1 hc.2.2.1 hc.2.1 hc.2.2.2 o e)
theorem cC7 {z TI TO i1 i2 l1 l2:Addr}{k:Nat}{xs:Array Value}{a b:Value}{Q:PySem.Fin->Shared->Prop}(hh:A.handled=none)(D:ZAp z TI TO i1 i2 l1 l2)(hz:IsZip s.heap z TI TO .none)(hTI:IsPair s.heap TI (.ref i1) (.ref i2))(hTO:IsPair s.heap TO a b)
  (h1:s.heap.IsTupleIter i1 l1 k) (t1:s.heap.IsTuple l1 xs) (hx:xs[k]? = none)
  (hE:∀h' e,(∀c o,c∉[z,TO,i1,i2]->s.heap.get? c=some o->h'.get? c=some o)->(∃o,h'.get? e=some o/\o.cls=.type "StopIteration")->E (.ref e) {s with heap:=h'}) :
  wpAny (model prog w) A (Builtin.«zip.__next__» ⟨[.ref z],[]⟩) Q E s:=by
 obtain ⟨nd,m1,m2⟩:=D;simp only[Aa5,Aa1,Ac2,or_false,not_or,not_false_eq_true,List.nodup_nil,and_true]at nd m1 m2;obtain ⟨⟨n1,n2,n3,n4⟩,⟨n5,n6,n7⟩,⟨n8,n9⟩,n10⟩:=nd;obtain ⟨p1,p2,p3,p4⟩:=m1;show wpAny _ _ (field (.ref z) 2 >>= _) _ _ _;refine wpAny_bind (wpAny_field hz rfl (x:=.bool false) rfl ?_);show wpAny _ _ (field (.ref z) 3 >>= _) _ _ _;refine wpAny_bind (wpAny_field hz rfl (x:=.ref TI) rfl (wpAny_bind (wpAny_seqItems hTI rfl ?_)));show wpAny _ _ (Builtin.SmallTypes.ownedTupleIsFree (.ref z) >>= _) _ _ _;refine wpAny_bind ?_;unfold Builtin.SmallTypes.ownedTupleIsFree;refine wpAny_bind (wpAny_field hz rfl (x:=.none) rfl (wpAny_pure ?_));simp only[if_true];refine wpAny_bind (wpAny_rule (wpAny_bind (wpAny_field hz rfl (x:=.ref TO) rfl (wpAny_bind (wpAny_setField_rec hz (by simp) λg1 z1 s1=>wpAny_bind ?_)))))
 replace z1:IsZip g1 z TI TO .ellipsis:=z1;simp only[List.zipIdx_cons,List.zipIdx_nil,List.forIn_cons,List.forIn_nil]
 refine wpAny_bind (wpAny_bind (wpAny_onRaise ?_));show wpAny _ _ (Builtin.SmallTypes.nextOf (.ref i1) >>= _) _ _ _;have k1:=λc (hc:c≠z) o (e:s.heap.get? c=some o)=>s1.extBut _ _ hc e
 refine wpAny_bind (aK2 hh (h1.at (k1 i1 (Ne.symm n3))) (aG3 (b:=z) t1 (k1 l1 p1)) hx λg2 e s2 he=>?_)
 obtain ⟨oe,hoe,hce⟩:=he;have z2:IsZip g2 z TI TO .ellipsis:=s2 _ _ n3 z1;have ez:e≠z:=λx=>by subst x;rw[z2]at hoe;cases hoe;simp at hce
 refine wpAny_setField_rec z2 (by simp) λg3 _ s3=>hE g3 e (λc o hc x=>?_) ⟨oe,s3.extBut _ _ ez hoe,hce⟩
 simp only[Aa1,Ac2,or_false,not_or]at hc;exact s3.extBut _ _ hc.1 (s2 _ _ hc.2.2.1 (k1 c hc.1 o x))
theorem bN9 {z TI TO i1 i2 l1 l2:Addr}{k:Nat}{xs:Array Value}{x y a b:Value}{Q:Option Value->Shared->Prop}(D:ZAp z TI TO i1 i2 l1 l2)(hz:IsZip s.heap z TI TO .none)(hTI:IsPair s.heap TI (.ref i1) (.ref i2))(hTO:IsPair s.heap TO a b)
  (h1:s.heap.IsTupleIter i1 l1 k) (h2:s.heap.IsTupleIter i2 l2 k) (t1:s.heap.IsTuple l1 xs) (t2:s.heap.IsTuple l2 ys) (hx:xs[k]? = some x) (hy:ys[k]? = some y)
  (hQ:∀h',IsZip h' z TI TO (rawInt s.heap.objs.size)->IsPair h' TO x y->h'.IsTupleIter i1 l1 (k+1)->h'.IsTupleIter i2 l2 (k+1)->IsPair h' s.heap.objs.size x y->(∀c o,c∉[z,TO,i1,i2]->s.heap.get? c=some o->h'.get? c=some o)->Q (some (.ref s.heap.objs.size)) {s with heap:=h'}) :
  wpAny (model prog w) A (pyNext (.ref z)) Q E s:=by
 have hT:s.TypeIs (.ref z) "zip" := ⟨_,hz,rfl⟩
 unfold pyNext;exact wpAny_bind (wpAny_attempt (wpAny_callSpecial?_slot (name:=Str.ofString "__next__") hT F.slot_zip_next (wpAny_call_entry F.slot_zip_next hT F.entry_zip_next (bV5 D hz hTI hTO h1 h2 t1 t2 hx hy λh' a1 a2 a3 a4 a5 a6=>wpAny_pure (hQ h' a1 a2 a3 a4 a5 a6)) (F.args_zip_next_1 _))))
theorem bU8 {z TI TO i1 i2 l1 l2:Addr}{k:Nat}{xs:Array Value}{a b:Value}{Q:Option Value->Shared->Prop}(hh:A.handled=none)(D:ZAp z TI TO i1 i2 l1 l2)(hz:IsZip s.heap z TI TO .none)(hTI:IsPair s.heap TI (.ref i1) (.ref i2))(hTO:IsPair s.heap TO a b)
  (h1:s.heap.IsTupleIter i1 l1 k) (t1:s.heap.IsTuple l1 xs) (hx:xs[k]? = none) (hQ:∀h',(∀c o,c∉[z,TO,i1,i2]->s.heap.get? c=some o->h'.get? c=some o)->Q none {s with heap:=h'}):wpAny (model prog w) A (pyNext (.ref z)) Q E s:=by
 have hT:s.TypeIs (.ref z) "zip" := ⟨_,hz,rfl⟩
 unfold pyNext;refine wpAny_bind (wpAny_attempt (wpAny_callSpecial?_slot (name:=Str.ofString "__next__") hT F.slot_zip_next (wpAny_call_entry F.slot_zip_next hT F.entry_zip_next (cC7 hh D hz hTI hTO h1 t1 hx λh' e hk he=>?_) (F.args_zip_next_1 _))))
 obtain ⟨o,ho,hc⟩:=he;exact wpAny_bind (wpAny_isInstance (T := "StopIteration") (b:=true) ⟨o,ho,hc⟩ isSubtype_stop (wpAny_pure (hQ _ hk)))
abbrev zT1 (h:Heap)(l1:Addr):Heap:=h.push {cls:=.type "tuple_iterator",data:=.fields #[.ref l1,.int 0 0]}
abbrev zT2 (h:Heap)(l1 l2:Addr):Heap:=(zT1 h l1).push {cls:=.type "tuple_iterator",data:=.fields #[.ref l2,.int 0 0]}
abbrev zT3 (h:Heap)(l1 l2:Addr):Heap:=(zT2 h l1 l2).push {cls:=.type "tuple",data:=.seq #[.ref h.objs.size,.ref (zT1 h l1).objs.size]}
abbrev zT4 (h:Heap)(l1 l2:Addr):Heap:=(zT3 h l1 l2).push {cls:=.type "tuple",data:=.seq #[.none,.none]}
abbrev zT5 (h:Heap)(l1 l2:Addr):Heap:=(zT4 h l1 l2).push {cls:=.type "zip",data:=.fields #[.none,.bool false,.bool false,.ref (zT2 h l1 l2).objs.size,.ref (zT3 h l1 l2).objs.size]}
theorem bK1 (l1 l2:Addr)(xs ys:Array Value):Meets (Builtin.«zip.__new__» ⟨[.type "zip",.ref l1,.ref l2],[]⟩) (λ_ R s=>s.heap.IsTuple l1 xs/\s.heap.IsTuple l2 ys/\R (.ok (.ret (.ref (zT4 s.heap l1 l2).objs.size))) {s with heap:=zT5 s.heap l1 l2}):=
 .of_wp λprog w A R s h=>by
  obtain ⟨hp,g,d,tk,os⟩:=s;obtain ⟨hl1,hl2,h⟩:=h;have hsub:=sub_zip;have hL1:Heap.IsTuple (Shared.heap ⟨hp,g,d,tk,os⟩) l1 xs:=hl1;have hL2:Heap.IsTuple (Shared.heap ⟨hp.push {cls:=.type "tuple_iterator",data:=.fields #[.ref l1,.int 0 0]},g,d,tk,os⟩) l2 ys:=aG3 (b:=l2) hl2 λo e=>Aa6 _ e
  wp_walk using wpAny_pyIter_tuple hL1,wpAny_pyIter_tuple hL2
  exact⟨_,rfl,h⟩
theorem bT8 {l1 l2:Addr}{xs ys:Array Value}{Q:Value->Shared->Prop}(hl1:s.heap.IsTuple l1 xs)(hl2:s.heap.IsTuple l2 ys)
  (h:∀h',IsZip h' (s.heap.objs.size+4) (s.heap.objs.size+2) (s.heap.objs.size+3) .none->IsPair h' (s.heap.objs.size+2) (.ref s.heap.objs.size) (.ref (s.heap.objs.size+1))->IsPair h' (s.heap.objs.size+3) .none .none->h'.IsTupleIter s.heap.objs.size l1 0->h'.IsTupleIter (s.heap.objs.size+1) l2 0->(∀c o,s.heap.get? c=some o->h'.get? c=some o)->Q (.ref (s.heap.objs.size+4)) {s with heap:=h'}) :
  wpAny (model prog w) A (call (.type "zip") [.ref l1,.ref l2]) Q E s:=by
 refine callType_new F.called_zip (by decide) (F.typeCall_zip_2 _ _) (F.newCall_zip_2 _ _) (λobj=>F.args_object_init_3 obj _ _) F.entry_zip_new (bK1 l1 l2 xs ys) ⟨hl1,hl2,?_⟩
 have z1:(zT1 s.heap l1).objs.size=s.heap.objs.size+1:=Heap.size_push ..
 have z2:(zT2 s.heap l1 l2).objs.size=s.heap.objs.size+2:=by rw[Heap.size_push,z1]
 have z3:(zT3 s.heap l1 l2).objs.size=s.heap.objs.size+3:=by rw[Heap.size_push,z2]
 have z4:(zT4 s.heap l1 l2).objs.size=s.heap.objs.size+4:=by rw[Heap.size_push,z3]
 have g5:(zT5 s.heap l1 l2).get? (zT4 s.heap l1 l2).objs.size=some _:=Ac3 _ rfl
 have g4:(zT5 s.heap l1 l2).get? (zT3 s.heap l1 l2).objs.size=some _:=Aa6 _ (Ac3 _ rfl)
 have g3:(zT5 s.heap l1 l2).get? (zT2 s.heap l1 l2).objs.size=some _:=Aa6 _ (Aa6 _ (Ac3 _ rfl))
 have g2:(zT5 s.heap l1 l2).get? (zT1 s.heap l1).objs.size=some _:=Aa6 _ (Aa6 _ (Aa6 _ (Ac3 _ rfl)))
 have g1:(zT5 s.heap l1 l2).get? s.heap.objs.size=some _:=Aa6 _ (Aa6 _ (Aa6 _ (Aa6 _ (Ac3 _ rfl))))
 show _/\_
 rw[z2,z3,z4]at g5;rw[z1,z2]at g3;rw[z3]at g4;rw[z1]at g2;rw[z4];exact⟨⟨_,g5,rfl⟩,h _ g5 g3 g4 ⟨_,g1,rfl,rfl⟩ ⟨_,g2,rfl,rfl⟩ λc o x=>Aa6 _ (Aa6 _ (Aa6 _ (Aa6 _ (Aa6 _ x))))⟩
end
theorem cN9 (n a b:Nat)(ha:a<n)(hb:b<n):ZAp (n+4) (n+2) (n+3) n (n+1) a b/\a≠n+2/\b≠n+2/\∀c∈[n+4,n+2,n+3,n,n+1],n<=c:=by
 have nd:([n+4,n+2,n+3,n,n+1]:List Nat).Nodup:=by
  simp only[Aa5,Aa1,Ac2,or_false,not_or,not_false_eq_true,List.nodup_nil,and_true];omega
 have ma:a∉([n+4,n+3,n,n+1]:List Nat):=by simp only[Aa1,Ac2,or_false,not_or];omega
 have mb:b∉([n+4,n+3,n,n+1]:List Nat):=by simp only[Aa1,Ac2,or_false,not_or];omega
 refine⟨⟨nd,ma,mb⟩,by omega,by omega,λc hc=>?_⟩
 simp only[Aa1,Ac2,or_false]at hc;omega
def Izt (K:PySem.W.Frag)(a b:Addr):It:=
 ⟨λi H=>∃xs ys x y,SqT K H a xs/\xs[i]? = some x/\SqT K H b ys/\ys[i]? = some y,λi H v H'=>∃T x y,v=.ref T/\H T=none/\H'=upd H T (.tup [x,y])/\(∀xs,SqT K H a xs->xs[i]? = some x)/\∀ys,SqT K H b ys->ys[i]? = some y,λi H=>∃xs,SqT K H a xs/\xs.length<=i⟩
theorem bW0 {P:Program}{w:World}{K:PySem.W.Frag}{elts:List Expr}{k:_}{pos:Pos}(a b z TI TO i1 i2:Addr)(D:ZAp z TI TO i1 i2 a b)(aT:a≠TI)(bT:b≠TI):bE3 P w K (.Tuple elts k pos) (Izt K a b) [z,TI,TO,i1,i2] z (λi h=>IsZip h z TI TO .none/\IsPair h TI (.ref i1) (.ref i2)/\(∃u v,IsPair h TO u v)/\h.IsTupleIter i1 a i/\h.IsTupleIter i2 b i) where
 mem:=by simp
 obj:=λi h st c hc=>by
  obtain ⟨hz,hTI,⟨u,v,hTO⟩,⟨o1,e1,_,d1⟩,⟨o2,e2,_,d2⟩⟩:=st;simp only[Aa1,Ac2,or_false]at hc;rcases hc with rfl | rfl | rfl | rfl | rfl
  ·exact⟨_,hz,λv z=>by cases z⟩
  ·exact⟨_,hTI,λv z=>by cases z⟩
  ·exact⟨_,hTO,λv z=>by cases z⟩
  ·exact⟨o1,e1,λv z=>by rw[d1]at z;cases z⟩
  ·exact⟨o2,e2,λv z=>by rw[d2]at z;cases z⟩
 keep:=λi h h' st k=>by
  obtain ⟨hz,hTI,⟨u,v,hTO⟩,h1,h2⟩:=st;exact⟨k z (by simp) _ hz,k TI (by simp) _ hTI,⟨u,v,k TO (by simp) _ hTO⟩,h1.at λo e=>k i1 (by simp) o e,h2.at λo e=>k i2 (by simp) o e⟩
 item:=by
  intro X hP hw hK hc i pins s σ H E I hf st hg;subst hP hw hK;obtain ⟨hz,hTI,⟨u,v,hTO⟩,h1,h2⟩:=st;obtain ⟨xs,ys,x,y,hq,hx,hq',hy⟩:=hg;obtain ⟨its,rv,p,_⟩:=I.tuple hq;obtain ⟨its',rv',p',_⟩:=I.tuple hq';obtain ⟨x',hu,ru⟩:=rv.get hx;obtain ⟨y',hu',ru'⟩:=rv'.get hy;have nd:=D.nd;simp only[Aa5,Aa1,Ac2,or_false,not_or,not_false_eq_true,List.nodup_nil,and_true]at nd;obtain ⟨⟨n1,n2,n3,n4⟩,⟨n5,n6,n7⟩,⟨n8,n9⟩,n10⟩:=nd;refine bN9 D hz hTI hTO h1 h2 p p' (x:=x') (y:=y') (by simpa using hu) (by simpa using hu') λh' z' o' i1' i2' T' kp=>⟨_,rfl,?_⟩
  have fr:∀c o,s.heap.get? c=some o->c≠s.heap.objs.size:=λc o e z=>by have h1:=Ab3 e;rw[z]at h1;exact Ad7 _ h1
  refine wpAny_letOwnedTupleGo_zip z' λg2 z2 s2=>?_
  have kp2:∀c o,c∉[z,TI,TO,i1,i2]->s.heap.get? c=some o->g2.get? c=some o:=λc o hc e=>s2.extBut _ _ (λe=>hc (by simp[e])) (kp c o (λm=>hc (by simp only[Aa1,Ac2,or_false]at m ⊢;rcases m with m | m | m | m <;> simp[m])) e)
  have T2:IsPair g2 s.heap.objs.size x' y':=s2.extBut _ _ (Ne.symm (fr _ _ hz)) T'
  have TI2:IsPair g2 TI (.ref i1) (.ref i2):=s2.extBut _ _ (Ne.symm n1) (kp TI _ (by simp[Ne.symm n1,n5,n6,n7]) hTI)
  refine⟨.ref s.heap.objs.size,upd H s.heap.objs.size (.tup [x,y]),?_,rfl,⟨_,x,y,rfl,I.hok.fresh (Aa7 _),rfl,λys hy=>by rw[tuple_inj I hy hq];exact hx,λzs hz=>by rw[tuple_inj I hz hq'];exact hy⟩,⟨z2,TI2,⟨_,_,s2.extBut _ _ (Ne.symm n2) o'⟩,i1'.at λo e=>s2.extBut _ _ (Ne.symm n3) e,i2'.at λo e=>s2.extBut _ _ (Ne.symm n4) e⟩,λc hc=>?_⟩
  ·refine I.turnedLaid (t':=s.toks) (fp:=[z,TI,TO,i1,i2]) kp2 hf (Aa7 _) ?_;exact⟨by show 2<=sizeLine;decide,[x',y'],.cons ru (.cons ru' .nil),⟨_,T2,rfl,⟨_,rfl⟩,rfl⟩⟩
  ·rw[B1]
   ·exact(hf c hc).1
   ·obtain ⟨o1,e1,_⟩:=h1;obtain ⟨o2,e2,_⟩:=h2;simp only[Aa1,Ac2,or_false]at hc;rcases hc with rfl | rfl | rfl | rfl | rfl
    ·exact fr _ _ hz
    ·exact fr _ _ hTI
    ·exact fr _ _ hTO
    ·exact fr _ _ e1
    ·exact fr _ _ e2
 done:=by
  intro X hP hw hK hc i pins s σ H E I hf st hg;subst hP hw hK;obtain ⟨hz,hTI,⟨u,v,hTO⟩,h1,h2⟩:=st;obtain ⟨xs,hq,hx⟩:=hg;obtain ⟨its,rv,p,_⟩:=I.tuple hq;have hl:=rv.length;exact bU8 (I.ok.hd hc) D hz hTI hTO h1 p (by simp;omega) λh' kp=>⟨rfl,I.turnedL (t':=s.toks) (λc o hc q=>kp c o (λm=>hc (by simp only[Aa1,Ac2,or_false]at m ⊢;rcases m with m | m | m | m <;> simp[m])) q) hf⟩
 self:=λ_ _ _ _ _ st h=>wpAny_pyIter_zip st.1 h
section
variable {X:Cx}{elts:List Expr}{k:Nat}{ps:Pos}
def cR6 (K:PySem.W.Frag)(ta:TA):TI:=λσ H R=>ta σ H λvs H1=>∃a b xs ys,vs=[.ref a,.ref b]/\SqT K H1 a xs/\SqT K H1 b ys/\R (Izt K a b) H1
theorem cP3 {l l':Expr}{ta:TA}{p pos:Pos}(K:PySem.W.Frag)(hg:Gl X "zip")(hm:X.mg "zip" = none)(ha:PA X [l,l'] ta)(hK:X.K=K:=by rfl)(hs:starEach [l,l'] X.env=[(false,eval l X.env),(false,eval l' X.env)]:=by rfl)(hs2:starEach [l'] X.env=[(false,eval l' X.env)]:=by rfl):PI X (.Tuple elts k ps) (.Call (.Name "zip" p) [l,l'] [] pos) (cR6 K ta):=by
 subst hK;refine⟨?_⟩;intro pins s σ H R I h;refine Call_ (o7 I hg hm boot_zip (PyProof.Rows.callWith_type1 (thn (ha pos pins s σ H _ I h) λus s1 ⟨vs,H1,I1,r1,q1⟩=>?_) (by rw[hs,hs2]) (by rw[hs2];rfl)))
 obtain ⟨a,b,xs,ys,e,hq,hq',q⟩:=q1;subst e;cases r1 with
 | cons r rr=>
  cases rr with
  | cons r' rr=>
   cases rr
   cases r
   cases r'
   obtain ⟨its,_,pl,_⟩:=I1.tuple hq;obtain ⟨its',_,pl',_⟩:=I1.tuple hq';have la:a<s1.heap.objs.size:=by obtain ⟨o,e,_⟩:=pl;exact Ab3 e
   have lb:b<s1.heap.objs.size:=by obtain ⟨o,e,_⟩:=pl';exact Ab3 e
   refine bT8 pl pl' λh' hz hTI hTO h1 h2 kp=>wpAny_pyIter_zip hz ?_
   obtain ⟨D,nA,nB,nC⟩:=cN9 _ _ _ la lb;refine⟨_,_,_,_,H1,rfl,I1.kept (t':=s1.toks) kp,bW0 a b _ _ _ _ _ D nA nB,⟨hz,hTI,⟨_,_,hTO⟩,h1,h2⟩,λc hc=>?_,q⟩
   have:=nC c hc
   exact I1.fpOk this (I1.hok.fresh this)
end
end L2
namespace LV
open PySem PySem.Spec PyProof.Rows L2
section
variable {K:PySem.W.Frag}{ρ:List Sl}{m:Bool}{t ta tb:TE}{d d':PyData}{ds es:List PyData}
def zpD:List PyData->List PyData->List PyData
 | d::ds,e::es=>.tuple [d,e]::zpD ds es
 | _,_=>[]
theorem bS9:∀{ds es:List PyData},ds.length=es.length->(zpD ds es).length=ds.length
 | [],[],_=>rfl
 | d::ds,e::es,h=>by simp[zpD,bS9 (ds:=ds) (es:=es) (by simpa using h)]
theorem bC2:∀{ds es:List PyData} {i:Nat} {d:PyData},(zpD ds es)[i]? = some d->∃x y,ds[i]? = some x/\es[i]? = some y/\d=.tuple [x,y]
 | [],_,_,_,h=>by simp[zpD]at h
 | _::_,[],_,_,h=>by simp[zpD]at h
 | x::ds,y::es,0,d,h=>⟨x,y,rfl,rfl,by simpa[zpD]using h.symm⟩
 | x::ds,y::es,i+1,d,h=>by
  obtain ⟨u,v,h1,h2,h3⟩:=bC2 (ds:=ds) (es:=es) (i:=i) (d:=d) (by simpa[zpD]using h)
  exact⟨u,v,by simpa using h1,by simpa using h2,h3⟩
theorem cQ2 {Z:Hp}{a b:Addr}{xs ys:List V}(s:SqT K Z a xs)(r:Reps K Z xs ds)(s':SqT K Z b ys)(r':Reps K Z ys es)(hl:ds.length=es.length):Wk K Z (Izt K a b) (zpD ds es) where
 stop:=λi H h l=>⟨xs,G4 h s,by rw[r.length,<- bS9 hl];exact l⟩
 go:=λi H d h e=>by
  obtain ⟨x,y,e1,e2,_⟩:=bC2 e;obtain ⟨v,h1,_⟩:=r.get' e1;obtain ⟨u,h2,_⟩:=r'.get' e2;exact⟨xs,ys,v,u,G4 h s,h1,G4 h s',h2⟩
 yld:=λi H d x H' h e y=>by
  obtain ⟨p,q,e1,e2,rfl⟩:=bC2 e;obtain ⟨T,v,u,rfl,hT,rfl,y1,y2⟩:=y;obtain ⟨d1,f1,f2⟩:=r.get (y1 xs (G4 h s));obtain ⟨d2,f3,f4⟩:=r'.get (y2 ys (G4 h s'));rw[e1]at f1;cases f1;rw[e2]at f3;cases f3;have g:=E6 (o:=.tup [v,u]) hT;refine⟨g,λS hS=>?_⟩
  have hm:Same Z (hid S (upd H T (.tup [v,u]))):=λb o q=>hid_some.mpr ⟨(λz=>by rw[(hS b z).1]at q;cases q),g b o (h b o q)⟩
  exact .tup (SqT.of (hid_some.mpr ⟨λz=>(hS T z).2 hT,B7⟩)) (.cons (f2.mono hm) (.cons (f4.mono hm) .nil))
theorem cY7 {t:TA}(h:A K m t ρ [.tuple ds,.tuple es])(hl:ds.length=es.length):I K m (cR6 K t) ρ (zpD ds es):=λS B σ H o J R q=>h S B σ H o J _ λvs H1 s1 r=>by
 cases r with
 | cons a b=>
  cases b with
  | cons b c=>
   cases c
   cases a with
   | tup s r=>
    cases b with
    | tup s' r'=>exact⟨_,_,_,_,rfl,G4 aE7 s,G4 aE7 s',q _ H1 s1 (cQ2 s r s' r' hl)⟩
end
section
variable {K:PySem.W.Frag}{B:Hp}{ρ ρ':List Sl}{m:Bool}{t ta tb:TE}{d d':PyData}{ds es:List PyData}
theorem dA3 {C:Addr}{v:Value}(h:PySem.W.subIn K (.ref C) v=some true):L2.subIn K C v=true:=by
 have h:PySem.W.mroIn K C v=some true:=h
 unfold PySem.W.mroIn at h;obtain ⟨cd,a,b⟩:=Option.bind_eq_some_iff.mp h;split at b
 ·cases b
 ·unfold PySem.W.clsIn at a;unfold L2.subIn
  revert a
  split
  ·rename_i e;intro z;cases z;rw[e];simpa using b
  ·intro z;cases z
end
end LV
set_option maxHeartbeats 1000000
namespace K12
open PySem L2 LV PyProof.Rows
theorem aK8:D5 ["self", "why"] ["self", "why"] (A8 M5):=⟨rfl,rfl,rfl,by decide +kernel,rfl,by decide +kernel,by decide +kernel⟩
theorem sc_arrows_by:D5 ["drawing", "pairs", "copied", "fault"] ["drawing", "pairs"] (A8 U0):=⟨rfl,rfl,rfl,by decide +kernel,rfl,by decide +kernel,by decide +kernel⟩
theorem sc__law_spoilt:D5 ["_law_pairs", "_law_cell", "_law_at", "_law_p", "_law_q"] ["_law_pairs", "_law_cell"] (A8 P6):=⟨rfl,rfl,rfl,by decide +kernel,rfl,by decide +kernel,by decide +kernel⟩
theorem sc__law_refused:D5 ["_law_turns", "_law_pairs", "_law_kinds_here", "_law_why", "_law_found", "_law_error"] ["_law_turns", "_law_pairs"] (A8 O5):=⟨rfl,rfl,rfl,by decide +kernel,rfl,by decide +kernel,by decide +kernel⟩
theorem sc__law_kinds:D5 ["_law_error", "_law_one", "_law_two"] ["_law_error"] (A8 R6):=⟨rfl,rfl,rfl,by decide +kernel,rfl,by decide +kernel,by decide +kernel⟩
theorem sc__law_is_pairs:D5 ["_law_found", "_law_due", "_law_one", "_law_other"] ["_law_found", "_law_due"] (A8 M7):=⟨rfl,rfl,rfl,by decide +kernel,rfl,by decide +kernel,by decide +kernel⟩
theorem cK1 (ds:List PyData)(n:Nat):aG5 ds (some (n:Int)) none=ds.drop n:=by
 by_cases h:n<=ds.length
 ·exact bN0 h
 ·unfold LV.aG5 HT.sIx;simp only[];rw[if_neg (by omega),Ac7,Nat.min_eq_right (by omega),List.drop_eq_nil_of_le (Aa7 _),List.drop_eq_nil_of_le (by omega)]
  simp
theorem dA9:typeOf (.type "ValueError")=pure (.type "type"):=by unfold typeOf;rfl
theorem d6 {K:PySem.W.Frag}{C D:Addr}(q:XCl K D)(s:PySem.W.subIn K (.ref C) (.ref D)=some false)(s':PySem.W.subIn K (.ref C) (.ref C)=some true):XIs K C (.ref D) false:=⟨q,s,λe=>by rw[e,s']at s;cases s⟩
def fTr:PyData->Option PyData
 | .int _=>some (.bool true)
 | _=>none
theorem cZ0 {X:Cx}(K:PySem.W.Frag){k:Nat}(hr:RoomU k X.A)(h:X.K=K:=by rfl):OpR X (compareOp .Eq) (cB7 K false):=by
 subst h;intro pins s σ H x y v u Q I rx ry ⟨d,e,hd,he,fd,fe,q⟩;obtain ⟨as,ra⟩:=R9 I d fd.1 hd rx;obtain ⟨bs,rb⟩:=R9 I e fe.1 he ry;exact SeqAt.compareEq_reads ra rb fd.1 fe.1 (by have:=hr.un;have:=fd.2;omega) ⟨.bl _,H,I,rfl,q⟩
theorem cV8 {K:PySem.W.Frag}{B:Hp}{ρ:List Sl}{i:Nat}{t:TS}{R:AE}{ds:List PyData}(hi:ρ[i]? = some (.own ds))(h:WB K B t (ρ.set i (.val (.list ds))) R):WB K B t ρ R:=λS D σ H o I s=>h S D σ H o (I.frz hi (.inl ⟨rfl,rfl⟩)) s
theorem cT9 {ps:List (Int×Int)}{i:Nat}{d:PyData}(h:(ps.map pD)[i]? = some d):d=pD (gp ps i)/\i<ps.length:=by
 rw[Aa9]at h;obtain ⟨x,hx,rfl⟩:=Option.map_eq_some_iff.mp h;have hi:=(Ab0.mp hx).1;rw[aE1 hi]at hx;exact⟨by rw[Ab4 hx],hi⟩
def cE9 (ds:List PyData)(d:PyData):Prop:=∃ps:List (Int×Int),ps.length<=1000/\ds=[.tuple (ps.map pD),.tuple (ps.map pD)]/\d=.bool true
def cC6 (ds:List PyData)(d:PyData):Prop:=∃(m:Nat) (dr tr:List (List Nat)) (ps:List (Int×Int)),Dw m dr tr/\ps.length<64/\flt m dr ps=.none/\ds=[.tuple (dr.map tN),.list (ps.map pD)]/\d=.tuple ((sp ps).map pD)
def cX4 (C:Addr)(ds:List PyData)(C':Addr)(fs:List (Str×PyData)):Prop:=C'=C/\∃(m:Nat) (dr tr:List (List Nat)) (ps:List (Int×Int)),Dw m dr tr/\ps.length<64/\flt m dr ps≠.none/\ds=[.tuple (dr.map tN),.list (ps.map pD)]/\fs=[(("why" : Str),flt m dr ps)]
def cT7 (ds:List PyData)(d:PyData):Prop:=∃(ps:List (Int×Int)) (c:Int),0<ps.length/\ps.length<60/\ds=[.list (ps.map pD),.int c]/\d=.list ((spo ps c).map pD)
def cT6 (C:Addr)(ds es:List PyData):Prop:=∃fs,ds=[xfD C fs]/\es=[.bool true,.bool false,.bool false]
def cS5 (ds:List PyData)(d:PyData):Prop:=∃(m:Nat) (dr tr:List (List Nat)) (ps:List (Int×Int)),Dw m dr tr/\ps.length<64/\flt m dr ps≠.none/\ds=[.tuple (dr.map tN),.list (ps.map pD)]/\d=.bool true
theorem aK9 {d:PyData}(h:Fd d):Fit d:=by
 rcases h with rfl | ⟨x,k,hx,rfl⟩
 ·exact⟨rfl,by simp[PyData.depth]⟩
 ·refine⟨?_,?_⟩
  ·simp[PyData.canLay0,PyData.canLayAll0,hx]at hx ⊢
   try exact hx
  ·simp[PyData.depth,PyData.depthAll]
theorem fit_b3:Fit (.list [.bool true,.bool false,.bool false]):=⟨rfl,by simp[PyData.depth,PyData.depthAll]⟩
section
variable {P:Program}{w:World}{K:PySem.W.Frag}{mg:Str->Option Value}{base:Heap}{a:Ad}
theorem bO7 (T:Tx K mg a):E4 P w K mg base CX0 1 a.E5 a.X8 ["self", "why"] (cZ9 a.A4 ["why"]):=by
 refine T.aM3.ok aK8 (λvs H Q E ⟨x,xs,e,hl,_⟩=>by rw[e,List.length_cons,hl];rfl) (λcdv A outer s H vs Q E hr h=>?_)
 obtain ⟨x,xs,rfl,hl,hx,q⟩:=h
 match xs,hl with
 | [v],_=>
  obtain ⟨cd,cl⟩:=T.L6.cl;refine⟨_,(A5 (N8 (bM7 PySem.F.excBase_ValueError K rfl T.aH7 T.aS7 (A0 (pv 0) (A0 (pv 1) A2)))) (B0 (cQ8 (pv 0) (pv 1)))),?_⟩;refine⟨.ref x,rfl,v,rfl,x,a.A4,none,[v],rfl,hx,T.L6.ek,by simp,?_⟩
  refine⟨v,rfl,.ref x,rfl,x,a.A4,cd,rfl,hx,cl,T.J0,λdx hdx hne=>q dx _ hdx hne B7 ?_ λb h1 h2=>?_⟩
  ·rw[B1 hne,B7];rfl
  ·rw[B1 h1,B1 h2]
theorem cT1 (T:Tx K mg a):E4 P w K mg base (CXd P w) 4 a.aA5 a.aB2 ["drawing", "pairs"] (spF K cC6 (cX4 a.A4)):=by
 have G_as_tuples:E4 P w K mg base CX0 1 _ _ _ _:=cU2 T
 have G_fault_of_pairs:E4 P w K mg base CX0 3 _ _ _ _:=cR1 T
 have G_NoArrows_init:E4 P w K mg base CX0 1 _ _ _ _:=bO7 T
 refine T.i6.okD sc_arrows_by (cG9 (λds d ⟨_,_,_,_,_,_,_,e,_⟩=>by rw[e];rfl) λds C fs ⟨_,_,_,_,_,_,_,_,e,_⟩=>by rw[e];rfl) (λcdv A outer s H vs Q E hr h=>?_)
 obtain ⟨ds,S,hS,r,z⟩:=h;refine⟨_,(A5 (B8 (i:=2) sc_arrows_by.nd rfl (Or.inl rfl) (C6 G_as_tuples (hr.mono (by decide)) rfl T.aL2 T.aB7.kp T.aL1 .nil L8 (A0 (pv 1) A2)))
   (A5 (B8 (i:=3) sc_arrows_by.nd rfl (Or.inl rfl) (C6 G_fault_of_pairs (hr.mono (by decide)) rfl T.q9 T.W5.kp T.q8 .nil L8 (A0 (pv 0) (A0 (pv 2) A2))))
   (A5 (V6 (H9 bO4 (pv 3) aO3 (K3 _)) (B0 (bV0 T.L6.mke T.L6.kp G_NoArrows_init (hr.mono (by decide)) rfl T.aF3 T.z0 .nil L8 rfl (A0 (pv 3) A2) λ_ _ _ _ _ _ I hy e q=>cK9 I hy e q)) L9)
   (B0 (D6 (P7 (dG9 K) (by rfl) T.T4 boot_tuple (A0 (B9 (t5 K) (by rfl) T.X5 boot_sorted (A0 (pv 2) A2)) A2))))))),?_⟩
 rcases z with ⟨d,⟨m,dr,tr,ps,dw,hl,hf,rfl,rfl⟩,q⟩ | ⟨C,fs,⟨rfl,m,dr,tr,ps,dw,hl,hf,rfl,rfl⟩,q⟩
 ·refine dB8 hS r ?_ q;refine W.wb ?_;refine B2 (K2 (ds:=ps.map pD) (aD3 (pre:=cH2) (X:=E0) (A1 (A3 (i:=1) rfl) A7) ⟨ps,by omega,rfl,rfl⟩) ?_ (show 2<4 by decide))
  refine aQ8 (i:=2) rfl ?_;refine B2 (Q8 (d:=.none) (G6 (pre:=aJ8) (X:=E0) (A1 (A3 (i:=0) rfl) (A1 (A3 (i:=2) rfl) A7)) ⟨m,dr,tr,ps,dw,by omega,rfl,hf.symm⟩) ?_)
  refine B2 (aC3 (b:=false) (O0 (bM9 (d:=.none) (A3 (i:=3) rfl))) (λh=>by cases h) (λh=>Q6 ?_))
  exact Q3 (aD7 (A1 (EF.e' (bH3 (ps:=ps) (A1 (A3 (i:=2) rfl) A7) hl)) A7) (G7 _)) rfl
 ·refine cN4 hS r ?_;refine bK3 (W.wb (K2 (ds:=ps.map pD) (aD3 (pre:=cH2) (X:=E0) (A1 (A3 (i:=1) rfl) A7) ⟨ps,by omega,rfl,rfl⟩) ?_ (show 2<4 by decide)))
  refine cV8 (i:=2) rfl ?_;refine bK3 (W.wb (Q8 (d:=flt m dr ps) (G6 (pre:=aJ8) (X:=E0) (A1 (A3 (i:=0) rfl) (A1 (A3 (i:=2) rfl) A7)) ⟨m,dr,tr,ps,dw,by omega,rfl,rfl⟩) ?_))
  rcases cI3 m dr ps with e | ⟨x,k,hx,e⟩
  ·exact absurd e hf
  rw[e]at q ⊢;refine bK3 (dG7 (b:=true) (O0 (bM9 (d:=.tuple [.str x,.int k]) (A3 (i:=3) rfl))) (λ_=>?_) (λh=>by cases h))
  exact bT9 (ds:=[.tuple [.str x,.int k]]) (A1 (A3 (i:=3) rfl) A7) rfl (λd hd=>by rw[Ad6.mp hd];rfl) (show 1<=1000 by decide) λH' dx vs s' e1 e2=>q H' (some dx) vs s' e1 e2
theorem cZ7 (T:Tx K mg a):E4 P w K mg base CX0 1 a.m3 a.m9 ["_law_pairs", "_law_cell"] (spV K cT7):=by
 refine T.aE4.ok sc__law_spoilt (aA4 λds d ⟨_,_,_,_,e,_⟩=>by rw[e];rfl) (λcdv A outer s H vs Q E hr h=>?_)
 obtain ⟨ds,S,d,hS,r,⟨ps,c,h0,hl,rfl,rfl⟩,q⟩:=h;refine⟨_,(A5 (B8 (i:=2) sc__law_spoilt.nd rfl (Or.inl rfl) (B4 U6 (B4 u8 (pv 1) A6) (B9 (bI3 K) (by rfl) T.V4 PySem.boot_len (A0 (pv 0) A2))))
   (A5 (aJ1 (C0 (ixK K) (pv 0) (pv 2) (λ_ _=>rfl)) (aO6 (n:=2) rfl (T0 (C5 (i:=3) sc__law_spoilt.nd rfl (Or.inl rfl)) (T0 (C5 (i:=4) sc__law_spoilt.nd rfl (Or.inl rfl)) aI6))))
   (A5 (V6 (H9 bH4 (B4 U6 (pv 1) A6) A6 (K3 _)) (B0 (D6 (B4 (K0 K) (B4 (K0 K) (R3 (bB2 K) (pv 0) V2 (V1 (pv 2))) (C4 (A0 (K1 (A0 (pv 4) (A0 (pv 3) A2))) A2))) (R3 (bB2 K) (pv 0) (V1 (B4 E9 (pv 2) A6)) V2)))) L9)
   (A5 (V6 (H9 bH4 (B4 U6 (pv 1) A6) A6 (K3 _)) (B0 (D6 (B4 (K0 K) (R3 (bB2 K) (pv 0) V2 (V1 (pv 2))) (R3 (bB2 K) (pv 0) (V1 (B4 E9 (pv 2) A6)) V2)))) L9)
   (A5 (V6 (H9 bH4 (B4 U6 (pv 1) A6) A6 (K3 _)) (B0 (D6 (B4 (K0 K) (pv 0) (C4 (A0 (K1 (A0 (pv 3) (A0 (pv 4) A2))) A2))))) L9)
   (B0 (D6 (B4 (K0 K) (B4 (K0 K) (R3 (bB2 K) (pv 0) V2 (V1 (pv 2))) (C4 (A0 (K1 (A0 A6 (A0 A6 A2))) A2))) (R3 (bB2 K) (pv 0) (V1 (B4 E9 (pv 2) A6)) V2))))))))),S6 hS r ?_ q⟩
 obtain ⟨i,hi⟩:∃i:Nat,c / 4 % (ps.length:Int)=(i:Int):=⟨(c / 4 % (ps.length:Int)).toNat,by have:=Int.emod_nonneg (c / 4) (b:=(ps.length:Int)) (by omega);omega⟩
 have hil:i<ps.length:=by have:=Int.emod_lt_of_pos (c / 4) (b:=(ps.length:Int)) (by omega);omega
 have hpl:(ps.map pD).length=ps.length:=Aa3 _
 refine B2 (Q8 (d:=.int (i:Int)) (by
  rw[<- hi,<- hpl];exact e_i (e_i (A3 (i:=1) rfl) A9 ⟨by decide,by decide⟩) (Z7 (ds:=ps.map pD) (A1 (A3 (i:=0) rfl) A7)) (by rw[hpl];omega)) ?_)
 generalize hx:gp ps i=x;have hat:(ps.map pD)[i]? = some (pD x):=by rw[Aa9,aE1 hil,hx];rfl
 refine B2 (bR3 (d:=pD x) (m:=true) (LV.E.imm (m:=false) (J8 (ds:=ps.map pD) (A3 (i:=0) rfl) (A3 (i:=2) rfl) rfl (Q0 i rfl hat)) (bY1 x)) (bG9 (ds:=[.int x.1,.int x.2]) (W7 D7 (W7 D7 aQ4))) ?_);show W K _ [.val (.list (ps.map pD)),.val (.int c),.val (.int (i:Int)),.val (.int x.1),.val (.int x.2)] _;have hi':(c / 4 % (ps.length:Int)).toNat=i:=by omega
 have sp0:spo ps c=if c % 4=0 then ps.take i++[(x.2,x.1)]++ps.drop (i+1) else if c % 4=1 then ps.take i++ps.drop (i+1) else if c % 4=2 then ps++[x] else ps.take i++[(0,1)]++ps.drop (i+1):=by
  unfold spo;dsimp only;rw[hi',hx]
 have cut1:∀{ρ:List Sl},ρ[0]? = some (.val (.list (ps.map pD)))->ρ[2]? = some (.val (.int (i:Int)))->EF K (tSl (cJ2 K) (Q7 0) aN9 (bO5 (Q7 2))) ρ ((ps.take i).map pD):=λ{ρ} h1 h2=>by
  have e:=aV6 (K:=K) (ρ := ρ) (ds:=ps.map pD) (A3 (i:=0) h1) aJ9 (aJ5 (A3 (i:=2) h2)) (G7 ps)
  rw[aZ1 (by rw[hpl];omega),<- List.map_take]at e
  exact e
 have cut2:∀{ρ:List Sl},ρ[0]? = some (.val (.list (ps.map pD)))->ρ[2]? = some (.val (.int (i:Int)))->EF K (tSl (cJ2 K) (Q7 0) (bO5 (tOp (rI0 λi j=>.int (i+j)) (Q7 2) (tC (.int 1)))) aN9) ρ ((ps.drop (i+1)).map pD):=λ{ρ} h1 h2=>by
  have e:=aV6 (K:=K) (ρ := ρ) (ds:=ps.map pD) (A3 (i:=0) h1) (aJ5 (S1 (g:=λi j=>i+j) (A3 (i:=2) h2) (A9 (i:=1)))) aJ9 (G7 ps)
  rw[show(i:Int)+1=((i+1:Nat):Int) by omega,cK1,<- List.map_drop]at e
  exact e
 have hs:∀{u v:List (Int×Int)},u.length+v.length<=200->((u.map pD).length+(v.map pD).length)<=PySem.sizeLine:=λ{u v} h=>by rw[Aa3,Aa3];unfold PySem.sizeLine;omega
 have lt1:(ps.take i).length<=ps.length:=by rw[Ad0];omega
 have lt2:(ps.drop (i+1)).length<=ps.length:=by rw[List.length_drop];omega
 refine B2 (aC3 (O0 (bH5 (e_i (A3 (i:=1) rfl) A9 (by decide)) A9)) (λh=>?_) (λh1=>Q6 ?_))
 ·rw[sp0,if_pos (of_decide_eq_true h)];have c1:=t6 (K:=K) (EF.e' (cut1 (ρ:=[.val (.list (ps.map pD)),.val (.int c),.val (.int (i:Int)),.val (.int x.1),.val (.int x.2)]) rfl rfl)) (EF.e' (G8 (ds:=[(x.2,x.1)].map pD) (A1 (X3 (ds:=[.int x.2,.int x.1]) (A1 (A3 (i:=4) rfl) (A1 (A3 (i:=3) rfl) A7))) A7))) (G7 _) (G7 _) (hs (by simp;omega))
  rw[<- Ad1]at c1;have c2:=t6 (K:=K) (EF.e' c1) (EF.e' (cut2 rfl rfl)) (G7 _) (G7 _) (hs (by rw[Ab7];simp;omega))
  rw[<- Ad1]at c2;exact Q3 (EF.e' c2) rfl
 refine B2 (aC3 (O0 (bH5 (e_i (A3 (i:=1) rfl) A9 (by decide)) A9)) (λh=>?_) (λh2=>Q6 ?_))
 ·rw[sp0,if_neg (of_decide_eq_false h1),if_pos (of_decide_eq_true h)];have c2:=t6 (K:=K) (EF.e' (cut1 (ρ:=[.val (.list (ps.map pD)),.val (.int c),.val (.int (i:Int)),.val (.int x.1),.val (.int x.2)]) rfl rfl)) (EF.e' (cut2 rfl rfl)) (G7 _) (G7 _) (hs (by omega))
  rw[<- Ad1]at c2;exact Q3 (EF.e' c2) rfl
 refine B2 (aC3 (O0 (bH5 (e_i (A3 (i:=1) rfl) A9 (by decide)) A9)) (λh=>?_) (λh3=>Q6 ?_))
 ·rw[sp0,if_neg (of_decide_eq_false h1),if_neg (of_decide_eq_false h2),if_pos (of_decide_eq_true h)];have c2:=t6 (K:=K) (ρ:=[.val (.list (ps.map pD)),.val (.int c),.val (.int (i:Int)),.val (.int x.1),.val (.int x.2)]) (A3 (i:=0) rfl) (EF.e' (G8 (ds:=[x].map pD) (A1 (X3 (ds:=[.int x.1,.int x.2]) (A1 (A3 (i:=3) rfl) (A1 (A3 (i:=4) rfl) A7))) A7))) (G7 _) (G7 _) (hs (by simp;omega))
  rw[<- Ad1]at c2;exact Q3 (EF.e' c2) rfl
 ·rw[sp0,if_neg (of_decide_eq_false h1),if_neg (of_decide_eq_false h2),if_neg (of_decide_eq_false h3)];have c1:=t6 (K:=K) (EF.e' (cut1 (ρ:=[.val (.list (ps.map pD)),.val (.int c),.val (.int (i:Int)),.val (.int x.1),.val (.int x.2)]) rfl rfl)) (EF.e' (G8 (ds:=[((0:Int),(1:Int))].map pD) (A1 (X3 (ds:=[.int 0,.int 1]) (A1 A9 (A1 A9 A7))) A7))) (G7 _) (G7 _) (hs (by simp;omega))
  rw[<- Ad1]at c1;have c2:=t6 (K:=K) (EF.e' c1) (EF.e' (cut2 rfl rfl)) (G7 _) (G7 _) (hs (by rw[Ab7];simp;omega))
  rw[<- Ad1]at c2;exact Q3 (EF.e' c2) rfl
theorem dF6 (T:Tx K mg a):E4 P w K mg base CX0 2 a.Y4 a.Y0 ["_law_found", "_law_due"] (spV K cE9):=by
 have G__law_whole:E4 P w K mg base CX0 1 _ _ _ _:=cD9 T
 refine T.Y2.ok sc__law_is_pairs (aA4 λds d ⟨_,_,e,_⟩=>by rw[e];rfl) (λcdv A outer s H vs Q E hr h=>?_)
 obtain ⟨ds,S,d,hS,r,⟨ps,hl,rfl,rfl⟩,q⟩:=h;refine⟨_,(A5 (V6 (PW.pt (bF2 (aK5 (aF8 (B9 (dF5 K) (by rfl) T.D8 boot_isinstance (A0 (pv 0) (A0 (bE2 rfl T.T4 boot_tuple) A2))))) (bC1 (H9 cT8 (B9 (bI3 K) (by rfl) T.V4 PySem.boot_len (A0 (pv 0) A2)) (B9 (bI3 K) (by rfl) T.V4 PySem.boot_len (A0 (pv 1) A2)) (K3 _))))) (B0 (D6 aI3)) L9)
   (A5 (T7 PassesOwn.never rfl (cP3 K rfl T.bH6 (A0 (pv 0) (A0 (pv 1) A2))) (aO6 (n:=2) rfl (T0 (C5 (i:=2) sc__law_is_pairs.nd rfl (Or.inl rfl)) (T0 (C5 (i:=3) sc__law_is_pairs.nd rfl (Or.inl rfl)) aI6))) (B0 (V6 (PW.pt (bF2 (aK5 (aF8 (B9 (dF5 K) (by rfl) T.D8 boot_isinstance (A0 (pv 2) (A0 (bE2 rfl T.T4 boot_tuple) A2))))) (bF2 (aK5 (aF8 (B9 (bW8 K rfl) (by rfl) T.bJ4 boot_all (A0 (i4 (T:=["_law_number"]) (N':=["_law_number"]) (is:=[]) rfl (.of rfl rfl rfl (by exact trivial) rfl rfl rfl (by exact trivial)) (cE6 (pv 2)) (Y6 (by decide)) λ_ _ _ _=>⟨(C5 (i:=0) (by decide +kernel:(["_law_number"]:List Str).Nodup) rfl (Or.inl rfl)),V0,(C6 G__law_whole (hr.mono (by decide)) rfl T.aZ3 T.aG8.kp T.aY7 .nil L8 (A0 (pv 0) A2))⟩) A2)))) (bC1 (H9 (aZ9 K hr) (pv 2) (pv 3) (K3 _)))))) (B0 (D6 aI3)) L9)))
   (B0 (D6 aI3)))),S6 hS r ?_ q⟩
 refine B2 (aC3 (cI1 (aV3 (t_b (bQ4 (d:=.tuple (ps.map pD)) (A3 rfl)))) λh=>(O0 (cU4 (Z7 (ds:=ps.map pD) (A1 (A3 rfl) A7)) (Z7 (ds:=ps.map pD) (A1 (A3 rfl) A7))))) (λh=>?_) (λh=>Q6 ?_))
 ·exfalso;revert h;simp[cN2]
 refine B2 (Z8 (cY7 (ds:=ps.map pD) (es:=ps.map pD) (A1 (A3 rfl) (A1 (A3 rfl) A7)) rfl) (λi ρ=>∃x2 x3,(x2.nb=true/\x3.nb=true)/\ρ=[.val (.tuple (ps.map pD)),.val (.tuple (ps.map pD)),x2,x3]) ⟨.no,.no,⟨rfl,rfl⟩,rfl⟩ ?_ ?_)
 ·rintro i d _ hd ⟨x2,x3,⟨b2,b3⟩,rfl⟩;obtain ⟨u,v,h1,h2,rfl⟩:=bC2 hd;obtain ⟨rfl,hi⟩:=cT9 h1;obtain ⟨rfl,_⟩:=cT9 h2;generalize gp ps i=x;refine⟨_,bG9 (W7 D7 (W7 D7 aQ4)),?_⟩;show W K _ [.val (.tuple (ps.map pD)),.val (.tuple (ps.map pD)),.val (pD x),.val (pD x)] _;have cm:=Y9 (K:=K) (m:=true) (ρ:=[.val (.tuple (ps.map pD)),.val (.tuple (ps.map pD)),.val (pD x),.val (pD x)]) (n:=1) (is:=[]) (g:=U1 0) (tt:=aO4) (te:=aL3 (spV K bH1) [] E0 (N0 (Q7 0) p8)) fTr (cU1 (ds:=[.int x.1,.int x.2]) (A3 (i:=2) rfl)) (show 2<sizeLine by decide) (λd hd=>by
   simp only[Aa1,Ac2,or_false]at hd;rcases hd with rfl | rfl
   ·exact⟨_,D7,aD9,G6 (A1 (A3 (i:=0) rfl) A7) ⟨_,rfl,rfl⟩⟩
   ·exact⟨_,D7,aD9,G6 (A1 (A3 (i:=0) rfl) A7) ⟨_,rfl,rfl⟩⟩)
  have en:=bT0 (K:=K) (m:=false) (ρ:=[.val (.tuple (ps.map pD)),.val (.tuple (ps.map pD)),.val (pD x),.val (pD x)]) (A3 (i:=2) rfl) (A3 (i:=3) rfl) (aY4 x).fit (aY4 x).fit
  rw[bM0,decide_eq_true rfl]at en;refine aC3 (cI1 (aV3 (t_b (bQ4 (d:=pD x) (A3 rfl)))) λh=>cI1 (aV3 (t_b (dB9 (l:=[true,true]) (A1 (EF.e' cm) A7)))) λh=>O0 en) (λh=>?_) (λh=>Q6 ⟨_,_,⟨rfl,rfl⟩,rfl⟩)
  ·exfalso;revert h;simp[cN2,pD]
 rintro _ ⟨x2,x3,_,rfl⟩;exact Q3 cO8 rfl
theorem cC9 (T:Tx K mg a):bQ6 P w K mg base 1 a.w5 a.y0 ["_law_error"] (spL K (cT6 a.A4)):=by
 refine T.aI8.okU sc__law_kinds (cL5 λds d ⟨_,e,_⟩=>by rw[e];rfl) (λcdv A outer s H vs Q E hr h=>?_)
 obtain ⟨ds,S,es,hS,r,⟨fs,rfl,rfl⟩,q⟩:=h;refine⟨_,(A5 (B8 (i:=1) sc__law_kinds.nd rfl (Or.inl rfl) (B9 (p5 K) (by rfl) T.D8 boot_isinstance (A0 (pv 0) (A0 (K1 (A0 (O9 (v:=.ref a.K6) rfl T.bH0 rfl) (A0 (O9 (v:=.ref a.S7) rfl T.cH5 rfl) (A0 (O9 (v:=.ref a.S8) rfl T.cA1 rfl) (A0 (O9 (v:=.ref a.m6) rfl T.cV7 rfl) (A0 (O9 (v:=.ref a.P2) rfl T.cJ7 rfl) (A0 (O9 (v:=.ref a.M6) rfl T.bU0 rfl) (A0 (O9 (v:=.ref a.T3) rfl T.cM0 rfl) A2)))))))) A2))))
   (A5 (B8 (i:=2) sc__law_kinds.nd rfl (Or.inl rfl) (cG2 (B9 (p5 K) (by rfl) T.D8 boot_isinstance (A0 (pv 0) (A0 (K1 (A0 (O9 (v:=.ref a.K7) rfl T.bX0 rfl) (A0 (O9 (v:=.ref a.O6) rfl T.cC8 rfl) (A0 (O9 (v:=.ref a.C7) rfl T.aU2 rfl) A2)))) A2))) (aC1 (cH1 (B9 (p5 K) (by rfl) T.D8 boot_isinstance (A0 (pv 0) (A0 (bE2 rfl T.U5 PyProof.Rows.Boot.«ValueError») A2)))))))
   (B0 (D6 (C4 (A0 (B9 (p5 K) (by rfl) T.D8 boot_isinstance (A0 (pv 0) (A0 (O9 (v:=.ref a.A4) rfl T.aF3 rfl) A2))) (A0 (B9 (p5 K) (by rfl) T.D8 boot_isinstance (A0 (pv 0) (A0 (O9 (v:=.ref a.P3) rfl T.cF1 rfl) A2))) (A0 (cG2 (pv 1) (aC1 (pv 2))) A2)))))))),bC0 hS r ?_ q⟩
 have sr:=T.J9
 refine B2 (Q8 (d:=.bool false) (bQ9 (fs:=fs) (bs:=[false,false,false,false,false,false,false]) (A3 rfl) T.d7 T.V9 (λσ H Q h=>h) ⟨d6 T.bE0 T.G9 sr,d6 T.cF8 T.N4 sr,d6 T.bY6 T.N3 sr,d6 T.dB1 T.P4 sr,d6 T.bZ8 T.N6 sr,d6 T.bW9 T.L5 sr,d6 T.cN3 T.O4 sr,trivial⟩ (show 7<=sizeLine by decide)) ?_)
 refine B2 (Q8 (d:=.bool false) (dA6 (b:=false) (bQ9 (fs:=fs) (ys:=[.ref a.K7,.ref a.O6,.ref a.C7]) (bs:=[false,false,false]) (A3 rfl) T.d7 T.V9 (λσ H Q h=>h) ⟨d6 T.bW3 T.L4 sr,d6 T.cA9 T.N7 sr,d6 T.aT9 T.E7 sr,trivial⟩ (show 3<=sizeLine by decide)) λ_=>cR5 (a:=true) (bN3 (fs:=fs) (A3 rfl) T.d7 T.V9 ⟨dA9,T.G5⟩)) ?_)
 show W K _ [.val (xfD a.A4 fs),.val (.bool false),.val (.bool false)] _
 exact aZ7 (G8 (A1 (bN3 (b:=true) (fs:=fs) (A3 rfl) T.d7 T.V9 ⟨T.V9,sr,λ_=>rfl⟩) (A1 (bN3 (fs:=fs) (A3 rfl) T.d7 T.V9 (d6 T.cD1 T.N5 sr)) (A1 (dA6 (a:=false) (b:=false) (A3 rfl) λ_=>A3 rfl) A7)))) rfl
theorem cV4 (T:Tx K mg a):E4 P w K mg base CX0 5 a.Z4 a.Z1 ["_law_turns", "_law_pairs"] (spV K cS5):=by
 have G_arrows_by:E4 P w K mg base (CXd P w) 4 _ _ _ _:=cT1 T
 have G_arrow_fault:E4 P w K mg base CX0 4 _ _ _ _:=cS9 T
 have G__law_kinds:bQ6 P w K mg base 1 _ _ _ _:=cC9 T
 refine T.aB5.ok sc__law_refused (aA4 λds d ⟨_,_,_,_,_,_,_,e,_⟩=>by rw[e];rfl) (λcdv A outer s H vs Q E hr h=>?_)
 obtain ⟨ds,S,d,hS,r,⟨m,dr,tr,ps,dw,hl,hf,rfl,rfl⟩,q⟩:=h;refine⟨_,(A5 (B8 (i:=2) sc__law_refused.nd rfl (Or.inl rfl) (C4 A2))
   (A5 (B8 (i:=3) sc__law_refused.nd rfl (Or.inl rfl) aO3)
   (A5 (cQ7 (j:=5) (cN0 (i:=4) sc__law_refused.nd rfl (Or.inl rfl) G_arrows_by (hr.mono (by decide)) rfl T.aC2 T.i6.kp T.aC0 .nil (A0 (pv 0) (A0 (pv 1) A2))) rfl T.aH7 (bT7 T.S0) sc__law_refused.nd rfl rfl rfl rfl λe=>A5 (B8 (i:=2) sc__law_refused.nd rfl (Or.inl rfl) (cI0 G__law_kinds (hr.u.mark.mono (by decide)) rfl T.aZ5 T.aI8.kp T.bC8 .nil (A0 (pv 5) A2))) (B0 (V6 (H9 (cZ0 K hr.u.mark) (pv 2) (C4 (A0 aI3 (A0 aI3 (A0 aI3 A2)))) (K3 _)) (B0 (B8 (i:=3) sc__law_refused.nd rfl (Or.inl rfl) (dG4 K (pv 5) rfl))) L9)))
   (B0 (D6 (aS0 (t8 bO4 (pv 3) aO3 (K3 _)) (aC1 (t8 (cZ1 K hr) (pv 3) (C6 G_arrow_fault (hr.mono (by decide)) rfl T.aE0 T.j9.kp T.aE2 .nil L8 (A0 (pv 0) (A0 (pv 1) A2))) (K3 _))))))))),S6 hS r ?_ q⟩
 have fd:=cI3 m dr ps
 rcases id fd with e | ⟨x,k,hx,e⟩
 ·exact absurd e hf
 rw[e]at fd;generalize hd0:PyData.tuple [.str x,.int k]=d0 at fd e;have hat:bF5 d0=true:=by rw[<- hd0];rfl
 refine B2 (K2 (ds:=[]) (G8 A7) ?_ (show 2<6 by decide))
 refine B2 (Q8 (d:=.none) bS7 ?_);show W K _ [.val (.tuple (dr.map tN)),.val (.list (ps.map pD)),.own [],.val .none,.no,.no] _;refine B2 (bN2 (C:=a.A4) (fs:=[(("why" : Str),d0)]) (A1 (A3 (i:=0) rfl) (A1 (A3 (i:=1) rfl) A7)) ⟨rfl,m,dr,tr,ps,dw,hl,hf,rfl,by rw[e]⟩ T.L6.ek (dA3 T.G3) ?_)
 refine B2 (K2 (ds:=[.bool true,.bool false,.bool false]) (aD3 (pre:=cT6 a.A4) (X:=E0) (A1 (A3 (i:=5) rfl) A7) ⟨_,rfl,rfl⟩) ?_ (show 2<6 by decide))
 show W K _ [.val (.tuple (dr.map tN)),.val (.list (ps.map pD)),.own [.bool true,.bool false,.bool false],.val .none,.no,.val (xfD a.A4 [(("why" : Str),d0)])] _
 have t1:=cU0 (K:=K) (m:=false) (ρ:=[.val (.tuple (dr.map tN)),.val (.list (ps.map pD)),.own [.bool true,.bool false,.bool false],.val .none,.no,.val (xfD a.A4 [(("why" : Str),d0)])]) (Q2 (i:=2) rfl) (EF.e' (G8 (ds:=[.bool true,.bool false,.bool false]) (A1 cO8 (A1 cO8 (A1 cO8 A7))))) fit_b3 fit_b3
 rw[PySem.SeqAt.eqv_refl _ fit_b3.1]at t1;refine aC3 (O0 t1) (λ_=>?_) (λh=>by cases h)
 refine Q8 (d:=d0) (dH3 (C:=a.A4) (fs:=[(("why" : Str),d0)]) (A3 (i:=5) rfl) T.L6.gt T.L6.hd T.J0 rfl (cB2 hat)) ?_;show W K _ [.val (.tuple (dr.map tN)),.val (.list (ps.map pD)),.own [.bool true,.bool false,.bool false],.val d0,.no,.no] _;have t2:=cU0 (K:=K) (m:=false) (ρ:=[.val (.tuple (dr.map tN)),.val (.list (ps.map pD)),.own [.bool true,.bool false,.bool false],.val d0,.no,.no]) (A3 (i:=3) rfl) (G6 (pre:=aJ8) (X:=E0) (d:=d0) (A1 (A3 (i:=0) rfl) (A1 (A3 (i:=1) rfl) A7)) ⟨m,dr,tr,ps,dw,by omega,rfl,e.symm⟩) (aK9 fd) (aK9 fd)
 rw[PySem.SeqAt.eqv_refl _ (aK9 fd).1]at t2;subst hd0;exact Q3 (d:=.bool true) (bJ1 (a:=true) (b:=true) (bM9 (d:=.tuple [.str x,.int k]) (A3 (i:=3) rfl)) λ_=>t2) rfl
end
end K12
set_option maxHeartbeats 1000000
namespace K12
open PySem L2 LV PyProof.Rows
theorem sc_law:D5 ["_law_script", "_law_m", "_law_turns", "_law_outs", "_law_due", "_law_pairs", "_law_handed", "_law_spoilt_here"] ["_law_script"] (A8 aV2):=⟨rfl,rfl,rfl,by decide +kernel,rfl,by decide +kernel,by decide +kernel⟩
def bO2 (K:PySem.W.Frag):Sp:=λvs H Q _=>∃(a:Addr) (ns:List Int),vs=[.ref a]/\SqL K H a (ns.map V.int)/\ns.length<=63/\∀H',Q (.bl true) H'
def cM8 (xs:List Int)(lo hi:Option Int):List Int:=List.take (HT.sIx xs.length xs.length hi-HT.sIx xs.length 0 lo) (List.drop (HT.sIx xs.length 0 lo) xs)
theorem dF9 (xs:List Int)(lo hi:Option Int):LV.aG5 (xs.map PyData.int) lo hi=(cM8 xs lo hi).map PyData.int:=by
 unfold LV.aG5 cM8;rw[Aa3,List.map_take,List.map_drop]
theorem cD3 (ps:List (Int×Int)):PyData.eqv (.list (ps.map pD)) (.list (ps.map pD))=true:=by
 rw[PyData.eqv,aF7 bM0];exact decide_eq_true rfl
theorem cG7 (c:Int)(ps:List (Int×Int)):(shf c ps).Perm ps:=by
 unfold shf;have h:=(S2 (prn c ps.length)).map λt=>gp ps (t.getD 1 0).toNat
 refine h.trans ?_;have e:(prn c ps.length).map (λt=>gp ps (t.getD 1 0).toNat)=ps:=by
  unfold prn;rw[Ae0];refine List.ext_getElem? λi=>?_
  rw[Aa9];by_cases hi:i<ps.length
  ·rw[List.getElem?_range hi,aE1 hi];show some (gp ps (((i:Nat):Int)).toNat)=_;rw[Ac7]
  ·rw[Ad4 (by simp;omega),Ad4 (by omega)];rfl
 rw[e]
theorem cR8 {a b:List (Int×Int)}(h:a.Perm b):sp a=sp b:=by
 unfold sp
 have:aS8 (a.map toL)=aS8 (b.map toL):=List.Perm.eq_of_pairwise (le:=M0) (λx y _ _ h1 h2=>aQ7 x y h1 h2) (aC9 _) (aC9 _) (((S2 _).trans (h.map toL)).trans (S2 _).symm)
 rw[this]
section
variable {P:Program}{w:World}{K:PySem.W.Frag}{mg:Str->Option Value}{base:Heap}{a:Ad}
theorem cW6 (T:Tx K mg a):E4 P w K mg base CX0 6 a.bJ0 a.aU3 ["_law_script"] (bO2 K):=by
 have G__law_mixed:E4 P w K mg base CX0 1 _ _ _ _:=aF9 T
 have G__law_cell_at:E4 P w K mg base CX0 1 _ _ _ _:=bO1 T
 have G__law_built:E4 P w K mg base CX0 3 _ _ _ _:=cB4 T
 have G__law_arrows:E4 P w K mg base CX0 1 _ _ _ _:=cW4 T
 have G__law_shuffled:E4 P w K mg base CX0 2 _ _ _ _:=cX9 T
 have G_arrows_by:E4 P w K mg base (CXd P w) 4 _ _ _ _:=cT1 T
 have G_arrow_fault:E4 P w K mg base CX0 4 _ _ _ _:=cS9 T
 have G_NoArrows_init:E4 P w K mg base CX0 1 _ _ _ _:=bO7 T
 have G__law_is_pairs:E4 P w K mg base CX0 2 _ _ _ _:=dF6 T
 have G__law_spoilt:E4 P w K mg base CX0 1 _ _ _ _:=cZ7 T
 have G__law_refused:E4 P w K mg base CX0 5 _ _ _ _:=cV4 T
 refine T.dC0.ok sc_law (λvs H Q E ⟨_,_,e,_⟩=>by rw[e];rfl) (λcdv A outer s H vs Q E hr h=>?_)
 obtain ⟨ad,ns,rfl,hS,hl,q⟩:=h;have r:Reps K (hid (λ_=>False) H) [V.ref ad] [lI ns]:=by rw[bZ1];exact .cons (.lst hS (aK0 ns)) .nil
 refine⟨_,(A5 (B8 (i:=1) sc_law.nd rfl (Or.inl rfl) (B4 U6 (C6 G__law_cell_at (hr.mono (by decide)) rfl T.Q5 T.O8.kp T.Q9 .nil L8 (A0 (pv 0) (A0 A6 A2))) A6))
   (A5 (aJ1 (C6 G__law_built (hr.mono (by decide)) rfl T.bC6 T.aG0.kp T.bA8 .nil L8 (A0 (C6 G__law_cell_at (hr.mono (by decide)) rfl T.Q5 T.O8.kp T.Q9 .nil L8 (A0 (pv 0) (A0 A6 A2))) (A0 (R3 (bB2 K) (pv 0) (V1 A6) V2) (A0 (pv 1) A2)))) (aO6 (n:=2) rfl (T0 (C5 (i:=2) sc_law.nd rfl (Or.inl rfl)) (T0 (C5 (i:=3) sc_law.nd rfl (Or.inl rfl)) aI6))))
   (A5 (B8 (i:=4) sc_law.nd rfl (Or.inl rfl) (C6 G__law_arrows (hr.mono (by decide)) rfl T.aU0 T.aE5.kp T.aT1 .nil L8 (A0 (pv 3) A2)))
   (A5 (B8 (i:=5) sc_law.nd rfl (Or.inl rfl) (C6 G__law_shuffled (hr.mono (by decide)) rfl T.aM1 T.aA0.kp T.aM2 .nil L8 (A0 (P7 (bY4 K) (by rfl) T.Z9 boot_list (A0 (pv 4) A2)) (A0 (C6 G__law_cell_at (hr.mono (by decide)) rfl T.Q5 T.O8.kp T.Q9 .nil L8 (A0 (pv 0) (A0 A6 A2))) A2))))
   (A5 (B8 (i:=6) sc_law.nd rfl (Or.inl rfl) (P7 (bY4 K) (by rfl) T.Z9 boot_list (A0 (pv 5) A2)))
   (A5 (V6 (PW.pt (bF2 (aK5 (aF8 (C6 G__law_is_pairs (hr.mono (by decide)) rfl T.aA2 T.Y2.kp T.aA1 .nil L8 (A0 (C6 G_arrows_by (hr.mono (by decide)) rfl T.aC2 T.i6.kp T.aC0 .nil bZ4 (A0 (pv 2) (A0 (pv 6) A2))) (A0 (pv 4) A2))))) (bC1 (H9 (aZ9 K hr) (pv 6) (pv 5) (K3 _))))) (B0 (D6 aI3)) L9)
   (A5 (V6 (H9 (aZ9 K hr) (dF2 K (cJ9 T.L6.mke T.L6.kp G_NoArrows_init (hr.mono (by decide)) rfl T.aF3 T.z0 .nil L8 (A0 (K1 (A0 aS6 (A0 (B4 E9 A6 (pv 1)) A2))) A2)) rfl) (K1 (A0 aS6 (A0 (B4 E9 A6 (pv 1)) A2))) (K3 _)) (B0 (D6 aI3)) L9)
   (A5 (V6 (H9 aW3 (pv 1) A6 (K3 _)) (A5 (B8 (i:=7) sc_law.nd rfl (Or.inl rfl) (C6 G__law_spoilt (hr.mono (by decide)) rfl T.aT0 T.aE4.kp T.aS9 .nil L8 (A0 (pv 5) (A0 (C6 G__law_mixed (hr.mono (by decide)) rfl T.Y8 T.U4.kp T.Y7 .nil L8 (A0 (C6 G__law_cell_at (hr.mono (by decide)) rfl T.Q5 T.O8.kp T.Q9 .nil L8 (A0 (pv 0) (A0 A6 A2))) (A0 A6 A2))) A2))))
   (A5 (B8 (i:=6) sc_law.nd rfl (Or.inl rfl) (P7 (bY4 K) (by rfl) T.Z9 boot_list (A0 (pv 7) A2)))
   (B0 (V6 (PW.pt (bF2 (aK5 (aF8 (C6 G__law_refused (hr.mono (by decide)) rfl T.aR5 T.aB5.kp T.aQ0 .nil L8 (A0 (pv 2) (A0 (pv 6) A2))))) (bC1 (H9 (aZ9 K hr) (pv 6) (pv 7) (K3 _))))) (B0 (D6 aI3)) L9)))) L9)
   (B0 (D6 (aS0 (C6 G__law_is_pairs (hr.mono (by decide)) rfl T.aA2 T.Y2.kp T.aA1 .nil L8 (A0 (C6 G_arrows_by (hr.mono (by decide)) rfl T.aC2 T.i6.kp T.aC0 .nil bZ4 (A0 (pv 2) (A0 (aF1 K rfl (by rfl) T.Z9 (by rfl) T.T5 (pv 5)) A2))) (A0 (pv 4) A2))) (aC1 (t8 cX1 (C6 G_arrow_fault (hr.mono (by decide)) rfl T.aE0 T.j9.kp T.aE2 .nil L8 (A0 (pv 2) (A0 (pv 5) A2))) aO3 (K3 _)))))))))))))),S6 (S:=λ_=>False) (λ_ z=>z.elim) r ?_ (d:=.bool true) (λv H' _ rv=>by cases rv;exact q H')⟩
 obtain ⟨m,hm,hm7⟩:∃m:Nat,cl ns 0 % 8=(m:Int)/\m<=7:=⟨(cl ns 0 % 8).toNat,by omega,by omega⟩
 refine B2 (Q8 (d:=.int (m:Int)) (by rw[<- hm];exact e_i (G6 (A1 (A3 rfl) (A1 A9 A7)) ⟨ns,0,by omega,rfl,rfl⟩) A9 (by decide)) ?_)
 obtain ⟨dr,tr,B⟩:=dD4 (TT.y4 (nu (cl ns 1) (cM8 ns (some 4) none)) m) (dF7 (cl ns 1) m);have dw:Dw m dr tr:=⟨hm7,_,_,_,B⟩;refine B2 (bR3 (m:=true) (G6 (A1 (G6 (A1 (A3 rfl) (A1 A9 A7)) ⟨ns,1,by omega,rfl,rfl⟩) (A1 (EF.e' (aV6 (ds:=ns.map PyData.int) (A3 rfl) (aJ5 A9) aJ9 (aK7 ns))) (A1 (A3 rfl) A7))) ⟨cl ns 1,cM8 ns (some 4) none,m,dr,tr,hm7,B,by rw[dF9],rfl⟩) (bG9 (W7 D7 (W7 D7 aQ4))) ?_)
 refine B2 (Q8 (d:=.tuple ((sp (arr tr)).map pD)) (G6 (pre:=cA7) (X:=E0) (A1 (A3 (i:=3) rfl) A7) ⟨m,dr,tr,dw,rfl,rfl⟩) ?_);have al:=aM9 dw (i:=tr.length) (Aa7 _);have tl:=dw.tl;have hal:(arr tr).length<=21:=by unfold arr;omega
 have hsl:(sp (arr tr)).length=(arr tr).length:=(bP0 _).length_eq
 generalize hps:shf (cl ns 2) (sp (arr tr))=ps;have hp:ps.Perm (arr tr):=by rw[<- hps];exact(cG7 _ _).trans (bP0 _)
 have hpl:ps.length=(arr tr).length:=hp.length_eq
 refine B2 (K2 (ds:=ps.map pD) (by
  rw[<- hps];exact aD3 (pre:=cE0) (X:=E0) (A1 (EF.e' (bA3 (d:=.tuple ((sp (arr tr)).map pD)) (A1 (A3 (i:=4) rfl) A7) rfl (G7 _))) (A1 (G6 (A1 (A3 (i:=0) rfl) (A1 A9 A7)) ⟨ns,2,by omega,rfl,rfl⟩) A7)) ⟨cl ns 2,sp (arr tr),by omega,rfl,rfl⟩) ?_ (show 5<8 by decide))
 refine aQ8 (i:=5) rfl ?_;refine B2 (K2 (ds:=ps.map pD) (bA3 (d:=.list (ps.map pD)) (A1 (A3 (i:=5) rfl) A7) rfl (G7 _)) ?_ (show 6<8 by decide))
 refine aQ8 (i:=6) rfl ?_;show W K _ [.val (lI ns),.val (.int (m:Int)),.val (.tuple (dr.map tN)),.val (.tuple (tr.map tN)),.val (.tuple ((sp (arr tr)).map pD)),.val (.list (ps.map pD)),.val (.list (ps.map pD)),.no] _;have fg:=bE6 dw hp;have es:sp ps=sp (arr tr):=cR8 hp;have n1:=bT0 (K:=K) (m:=false) (ρ:=[.val (lI ns),.val (.int (m:Int)),.val (.tuple (dr.map tN)),.val (.tuple (tr.map tN)),.val (.tuple ((sp (arr tr)).map pD)),.val (.list (ps.map pD)),.val (.list (ps.map pD)),.no]) (A3 (i:=6) rfl) (A3 (i:=5) rfl) (aS2 ps) (aS2 ps);rw[cD3]at n1;refine B2 (aC3 (b := !true || !true) (cI1 (aV3 (t_b (G6 (pre:=cE9) (X:=E0) (d:=.bool true) (A1 (bG2 (pre:=cC6) (d:=.tuple ((sp (arr tr)).map pD)) (A1 (A3 (i:=2) rfl) (A1 (A3 (i:=6) rfl) A7)) ⟨m,dr,tr,ps,dw,by omega,fg,rfl,by rw[es]⟩) (A1 (A3 (i:=4) rfl) A7)) ⟨sp (arr tr),by omega,rfl,rfl⟩))) λ_=>O0 n1) (λh=>by cases h) (λh=>Q6 ?_))
 have hfo:Fd (.tuple [.str "out",.int (3+(m:Int))]):=.inr ⟨"out",3+(m:Int),by decide +kernel,rfl⟩
 have n2:=bT0 (K:=K) (m:=false) (ρ:=[.val (lI ns),.val (.int (m:Int)),.val (.tuple (dr.map tN)),.val (.tuple (tr.map tN)),.val (.tuple ((sp (arr tr)).map pD)),.val (.list (ps.map pD)),.val (.list (ps.map pD)),.no]) (d:=.tuple [.str "out",.int (3+(m:Int))]) (d':=.tuple [.str "out",.int (3+(m:Int))]) (dH1 (C:=a.A4) (nms:=["why"]) (E':=E0) (f := "why") (ds:=[.tuple [.str "out",.int (3+(m:Int))]]) (A1 (X3 (A1 bI7 (A1 (S1 (g:=λi j=>i+j) (A9 (i:=3)) (A3 (i:=1) rfl)) A7))) A7) rfl (λd hd=>by rw[Ad6.mp hd];rfl) (show 1<=1000 by decide) T.L6.gt T.L6.hd T.J0 rfl rfl) (X3 (A1 bI7 (A1 (S1 (g:=λi j=>i+j) (A9 (i:=3)) (A3 (i:=1) rfl)) A7))) (aK9 hfo) (aK9 hfo)
 rw[PySem.SeqAt.eqv_refl _ (aK9 hfo).1]at n2;refine B2 (aC3 (b := !true) (O0 n2) (λh=>by cases h) (λh=>Q6 ?_))
 refine B2 (dF1 (λρ=>∃x6 x7,ρ=[.val (lI ns),.val (.int (m:Int)),.val (.tuple (dr.map tN)),.val (.tuple (tr.map tN)),.val (.tuple ((sp (arr tr)).map pD)),.val (.list (ps.map pD)),x6,x7]) (O0 (bE7 (g:=λi j=>decide (i>j)) (A3 (i:=1) rfl) (A9 (i:=0)))) (λh=>?_) (λh=>Q6 ⟨_,_,rfl⟩) ?_)
 ·have hm0:0<m:=by have:=of_decide_eq_true h;omega
  have h0:0<ps.length:=by
   have hx:((3:Int),(TT.og tr 0 3:Int))∈arr tr:=by
    unfold arr;rw[ga_mem];refine⟨0,by omega,?_⟩
    rw[aJ2 dw hm0];exact List.mem_cons_self
   exact List.length_pos_of_mem (hp.mem_iff.mpr hx)
  refine B2 (Q8 (d:=.list ((spo ps (mx (cl ns 3) 3)).map pD)) (G6 (pre:=cT7) (X:=E0) (A1 (A3 (i:=5) rfl) (A1 (G6 (pre:=aG1) (X:=E0) (A1 (G6 (A1 (A3 (i:=0) rfl) (A1 A9 A7)) ⟨ns,3,by omega,rfl,rfl⟩) (A1 A9 A7)) ⟨_,3,by omega,rfl,rfl⟩) A7)) ⟨ps,mx (cl ns 3) 3,h0,by omega,rfl,rfl⟩) ?_)
  have hb:=cQ1 dw hp h0 (mx (cl ns 3) 3)
  have hbl:=cK8 ps (mx (cl ns 3) 3)
  generalize spo ps (mx (cl ns 3) 3)=qs at hb hbl;refine B2 (K2 (ds:=qs.map pD) (bA3 (d:=.list (qs.map pD)) (A1 (A3 (i:=7) rfl) A7) rfl (G7 _)) ?_ (show 6<8 by decide))
  refine aQ8 (i:=6) rfl ?_;show W K _ [.val (lI ns),.val (.int (m:Int)),.val (.tuple (dr.map tN)),.val (.tuple (tr.map tN)),.val (.tuple ((sp (arr tr)).map pD)),.val (.list (ps.map pD)),.val (.list (qs.map pD)),.val (.list (qs.map pD))] _;have n3:=bT0 (K:=K) (m:=false) (ρ:=[.val (lI ns),.val (.int (m:Int)),.val (.tuple (dr.map tN)),.val (.tuple (tr.map tN)),.val (.tuple ((sp (arr tr)).map pD)),.val (.list (ps.map pD)),.val (.list (qs.map pD)),.val (.list (qs.map pD))]) (A3 (i:=6) rfl) (A3 (i:=7) rfl) (aS2 qs) (aS2 qs);rw[cD3]at n3;exact aC3 (b := !true || !true) (cI1 (aV3 (t_b (G6 (pre:=cS5) (X:=E0) (A1 (A3 (i:=2) rfl) (A1 (A3 (i:=6) rfl) A7)) ⟨m,dr,tr,qs,dw,by omega,hb,rfl,rfl⟩))) λ_=>O0 n3) (λh=>by cases h) (λh=>Q6 ⟨_,_,rfl⟩)
 rintro _ ⟨x6,x7,rfl⟩;have hrp:ps.reverse.Perm (arr tr):=(List.reverse_perm ps).trans hp;have rev:=cH4 (K:=K) (ρ:=[.val (lI ns),.val (.int (m:Int)),.val (.tuple (dr.map tN)),.val (.tuple (tr.map tN)),.val (.tuple ((sp (arr tr)).map pD)),.val (.list (ps.map pD)),x6,x7]) (ds:=ps.map pD) (A3 (i:=5) rfl) (G7 _);rw[<- List.map_reverse]at rev;exact Q3 (bJ1 (a:=true) (b:=true) (G6 (pre:=cE9) (X:=E0) (d:=.bool true) (A1 (bG2 (pre:=cC6) (d:=.tuple ((sp (arr tr)).map pD)) (A1 (A3 (i:=2) rfl) (A1 (EF.e' rev) A7)) ⟨m,dr,tr,ps.reverse,dw,by rw[Ad9];omega,bE6 dw hrp,rfl,by rw[cR8 hrp]⟩) (A1 (A3 (i:=4) rfl) A7)) ⟨sp (arr tr),by omega,rfl,rfl⟩) λ_=>dE0 (d:=.none) (G6 (pre:=aJ8) (X:=E0) (A1 (A3 (i:=2) rfl) (A1 (A3 (i:=5) rfl) A7)) ⟨m,dr,tr,ps,dw,by omega,rfl,fg.symm⟩)) rfl
end
theorem fin_of {l:PySem.W.OpenLaw}{w:World}{fa f:Addr}{K:PySem.W.Frag}{mg:Str->Option Value}(hfa:mg "law" = some (.ref fa))(h:∃a:Ad,Tx K mg a/\a.bJ0=f/\∀(s:Shared) (v:Value),BindsTo s a.aU3 ⟨[v],[]⟩ [("_law_script",v)])
  : ∃fd:FuncData,(∀(s:Shared) (v:Value),BindsTo s fd ⟨[v],[]⟩ [("_law_script",v)])/\∀base:Heap,K.In base->base.Ns mainGlobals mg->E4 l.prog w K mg base CX0 6 fa fd ["_law_script"] (bO2 K):=by
 obtain ⟨a,T,ea,hb⟩:=h;have e:=hfa.symm.trans T.dC1;cases e;exact⟨a.aU3,hb,λbase _ _=>cW6 T⟩
theorem walk {l:PySem.W.OpenLaw}{q:Program}{loose:List Str}{XP:(Str->Option Value)->Heap->Prop}{YP:World->Heap->Prop}{d:DefRec}{K:Params->PySem.W.Frag}(hn:l.most=some 63)(hdf:d.params.defaults=[])
  (hY:∀(w:World) (h:Heap),YP w h->(K w.params).In h)
  (F:∀(w:World) (mg:Str->Option Value) (fa:Addr) (h:Heap),(K w.params).In h->h.Ns mainGlobals mg->mg d.name=some (.ref fa) ->
   ∃fd:FuncData,(∀(s:Shared) (u:Value),BindsTo s fd ⟨[u],[]⟩ [("_law_script",u)])/\∀base:Heap,(K w.params).In base->base.Ns mainGlobals mg->E4 l.prog w (K w.params) mg base CX0 6 fa fd ["_law_script"] (bO2 (K w.params))) :
  PySem.W.WalkO q loose XP YP l.row.toRowW d [] (λf vs=>PySem.call f vs):=
 L2.cN1 (n:=63) (k:=6) (x := "_law_script") (CX:=λ_=>CX0) (sp:=λw=>bO2 (K w.params)) hn (by decide) hdf ⟨rfl,by decide,by decide⟩ hY F (λ_ _ a ns hl _ hS=>⟨a,ns,rfl,hS,hl,λ_=>rfl⟩) λ_ _ _ _ _ z=>z
end K12
namespace PySem.W.Fast
def tw13294796486545474487:=0
def tw3929191936530154308:=0
def tw9687893398555848727:=0
def tw11104000622603370995:=0
def tw7903225323106402793:=0
def tw13730922772646413212:=0
def tw16767522557128952940:=0
def tw9724885382121218637:=0
def tw13438226901182508814:=0
def tw17699321717627511565:=0
def tw15101300292407903597:=0
def tw16660909244822948377:=0
def tw15253946235793040917:=0
def tw231723405725092894:=0
def tw15773518541635253701:=0
def tw5283173813345666235:=0
def tw2794253936011246414:=0
def tw17176032911204509215:=0
def tw6362693526952101136:=0
def tw2947824114687064928:=0
def tw10188290771280710469:=0
def tw18303533202174389173:=0
def tw12279562053355527718:=0
def tw1260714348383255257:=0
def tw17225236934817234767:=0
def tw10712161429774673841:=0
def tw3498018242944269735:=0
def tw6122779928646746975:=0
def tw2537686924086855547:=0
def tw10196785033553060923:=0
def tw13421567682769811618:=0
def tw10849025417038665822:=0
def tw11875503471639367188:=0
def tw13624310339336980890:=0
def tw4480340342036960957:=0
def tw9040009381542059591:=0
def tw10827179902680808637:=0
def tw1744888834133805630:=0
def tw9211268451857540766:=0
def tw2414428913587196002:=0
def tw3744801057108735163:=0
def tw10430694258078587408:=0
def tw12727464796507222319:=0
def tw5081045133994014577:=0
def tw17597832088065195:=0
def tw15514942892554778893:=0
def tw1577724332584359109:=0
def tw15807966021088838790:=0
def tw7744541705618908559:=0
def tw4399051903881692531:=0
def tw9697275669812089063:=0
def tw11184103026534901596:=0
def tw9186427378344628451:=0
def tw7385331527550422521:=0
def tw7367567723813802042:=0
def tw12049957996658494336:=0
def tw8352394210874199737:=0
def tw7935522545378261680:=0
def tw15831979543752508191:=0
def tw16009540078381369223:=0
def tw9842848566534104448:=0
def tw7103118787782884165:=0
def tw7376326632254616864:=0
def tw11927200438932046521:=0
def tw16132291561625071192:=0
def tw3932724202020471160:=0
def tw4653461666921850794:=0
def tw15340426980857506022:=0
def tw3116165959670508799:=0
def tw10767450085578343291:=0
def tw10537707982514010564:=0
def tw13674228231557608980:=0
def tw9196964266786988009:=0
def tw1693486628074398656:=0
def tw17506730057352529860:=0
def tw13102619851091186853:=0
def tw9880543102588628445:=0
def tw15325272712924368811:=0
def tw8911002234109854330:=0
def tw3050134598070791641:=0
def tw10938304866465745201:=0
def tw14321957851148796236:=0
def tw17181256088806311263:=0
def tw6169600122881486787:=0
def tw3694880045781848350:=0
def tw2779731199192242728:=0
def tw1741819385275214924:=0
def tw1643200827989563561:=0
def tw16404355446856139777:=0
def tw7089191448605738372:=0
def tw9862099557254637559:=0
def tw7704832588724501585:=0
def tw11106873794204792827:=0
def tw1674531636715461172:=0
def tw3057974423139418685:=0
def tw13935189000189038514:=0
def tw1219798265006777901:=0
def tw467940056062692080:=0
def tw5625050435699825496:=0
def tw12276164131270627924:=0
def tw11424676854004898742:=0
def tw3873637320574247489:=0
def tw5431535718807546632:=0
def tw16635193973940482160:=0
def tw9990870363898652537:=0
def tw5744697457831439376:=0
def tw467071519012357135:=0
def tw11993640889550880164:=0
def tw18296234802872342566:=0
def tw14013590110679628191:=0
def tw15336180361741804838:=0
def tw11801476536224062024:=0
def tw13759599546995454693:=0
def tw2865002916383684428:=0
def tw12314977464141449248:=0
def tw9607869255294887170:=0
def tw11913821348792433704:=0
def tw6281927343608467994:=0
def tw15842275187033511205:=0
def tw12115602294409491080:=0
end PySem.W.Fast
open PySem PySem.W PyProof.Rows
set_option maxRecDepth 100000 in
set_option maxHeartbeats 0 in
theorem PySem.Challenge.cw_threetrees_k12_arrows_taken_holds : PySem.Challenge.rw_threetrees_k12_arrows_taken.Holds := by
 w_on;o_law;k_head;(case hw=>w_witness2)
 k_fill
 refine K12.walk (l:=PySem.Challenge.rw_threetrees_k12_arrows_taken) rfl rfl (λw h Y=>PySem.W.kIn_of Y) ?F
 case F=>
  intro w mg fa h KX G hmg;refine' K12.fin_of hmg (K12.tx_mk KX G ?a0 ?l0 ?c0 ?k0 ?a1 ?l1 ?c1 ?k1 ?a2 ?l2 ?c2 ?k2 ?a3 ?l3 ?c3 ?k3 ?a4 ?l4 ?c4 ?k4 ?a5 ?l5 ?c5 ?k5 ?a6 ?l6 ?c6 ?k6 ?a7 ?l7 ?c7 ?k7 ?a8 ?l8 ?c8 ?k8 ?a9 ?l9 ?c9 ?k9 ?a10 ?l10 ?c10 ?k10 ?a11 ?l11 ?c11 ?k11 ?a12 ?l12 ?c12 ?k12 ?a13 ?l13 ?c13 ?k13 ?a14 ?l14 ?c14 ?k14 ?a15 ?l15 ?c15 ?k15 ?a16 ?l16 ?c16 ?k16 ?a17 ?l17 ?c17 ?k17 ?a18 ?l18 ?c18 ?k18 ?a19 ?l19 ?c19 ?k19 ?a20 ?l20 ?c20 ?k20 ?U5 ?bJ4 ?aP3 ?X0 ?bG5 ?D8 ?V4 ?Z9 ?bD7 ?bF0 ?K5 ?T5 ?X5 ?T4 ?bH6 ?P5 ?P1 ?n_TreesError ?y_TreesError ?t_TreesError ?n_NoDrawing ?y_NoDrawing ?t_NoDrawing ?n_NoRows ?y_NoRows ?t_NoRows ?n_NoText ?y_NoText ?t_NoText ?n_Tied ?y_Tied ?t_Tied ?n_NoArrows ?y_NoArrows ?t_NoArrows ?n_NoLand ?y_NoLand ?t_NoLand ?n_NoPlace ?y_NoPlace ?t_NoPlace ?n_NoTie ?y_NoTie ?t_NoTie ?n_NoRing ?y_NoRing ?t_NoRing ?n_TooMany ?y_TooMany ?t_TooMany ?n_NoLine ?y_NoLine ?t_NoLine ?n_NothingDone ?y_NothingDone ?t_NothingDone ?S0 ?aI2 ?aD0 ?aN4 ?aI9 ?aC6 ?aG9 ?W8 ?xo_NoArrows ?xb_NoArrows ?xg_NoArrows ?xt_NoArrows ?xc_NoArrows ?G3 ?G9 ?N4 ?N3 ?P4 ?J9 ?N6 ?L5 ?O4 ?N5 ?L4 ?N7 ?E7 ?G5 ?ho_NoArrows ?hn0_NoArrows ?ni_NoArrows ?l_NoArrows_init ?i_NoArrows_init ?c_NoArrows_init_ ?k_NoArrows_init_ ?mo_NoArrows ?hdx_NoArrows ?sax_NoArrows ?gax_NoArrows ?gtx_NoArrows ?up_NoArrows ?kcx_NoArrows ?J0 ?xsp ?xrd ?xfc)
  (case a0=>k_is)
  (case l0=>k_is)
  (case c0=>k_is)
  (case k0=>k_is)
  (case a1=>k_is)
  (case l1=>k_is)
  (case c1=>k_is)
  (case k1=>k_is)
  (case a2=>k_is)
  (case l2=>k_is)
  (case c2=>k_is)
  (case k2=>k_is)
  (case a3=>k_is)
  (case l3=>k_is)
  (case c3=>k_is)
  (case k3=>k_is)
  (case a4=>k_is)
  (case l4=>k_is)
  (case c4=>k_is)
  (case k4=>k_is)
  (case a5=>k_is)
  (case l5=>k_is)
  (case c5=>k_is)
  (case k5=>k_is)
  (case a6=>k_is)
  (case l6=>k_is)
  (case c6=>k_is)
  (case k6=>k_is)
  (case a7=>k_is)
  (case l7=>k_is)
  (case c7=>k_is)
  (case k7=>k_is)
  (case a8=>k_is)
  (case l8=>k_is)
  (case c8=>k_is)
  (case k8=>k_is)
  (case a9=>k_is)
  (case l9=>k_is)
  (case c9=>k_is)
  (case k9=>k_is)
  (case a10=>k_is)
  (case l10=>k_is)
  (case c10=>k_is)
  (case k10=>k_is)
  (case a11=>k_is)
  (case l11=>k_is)
  (case c11=>k_is)
  (case k11=>k_is)
  (case a12=>k_is)
  (case l12=>k_is)
  (case c12=>k_is)
  (case k12=>k_is)
  (case a13=>k_is)
  (case l13=>k_is)
  (case c13=>k_is)
  (case k13=>k_is)
  (case a14=>k_is)
  (case l14=>k_is)
  (case c14=>k_is)
  (case k14=>k_is)
  (case a15=>k_is)
  (case l15=>k_is)
  (case c15=>k_is)
  (case k15=>k_is)
  (case a16=>k_is)
  (case l16=>k_is)
  (case c16=>k_is)
  (case k16=>k_is)
  (case a17=>k_is)
  (case l17=>k_is)
  (case c17=>k_is)
  (case k17=>k_is)
  (case a18=>k_is)
  (case l18=>k_is)
  (case c18=>k_is)
  (case k18=>k_is)
  (case a19=>k_is)
  (case l19=>k_is)
  (case c19=>k_is)
  (case k19=>k_is)
  (case a20=>k_is)
  (case l20=>k_is)
  (case c20=>k_is)
  (case k20=>k_is)
  (case U5=>k_is)
  (case bJ4=>k_is)
  (case aP3=>k_is)
  (case X0=>k_is)
  (case bG5=>k_is)
  (case D8=>k_is)
  (case V4=>k_is)
  (case Z9=>k_is)
  (case bD7=>k_is)
  (case bF0=>k_is)
  (case K5=>k_is)
  (case T5=>k_is)
  (case X5=>k_is)
  (case T4=>k_is)
  (case bH6=>k_is)
  (case P5=>k_is)
  (case P1=>k_is)
  (case n_TreesError=>k_is)
  (case y_TreesError=>k_is)
  (case t_TreesError=>k_is)
  (case n_NoDrawing=>k_is)
  (case y_NoDrawing=>k_is)
  (case t_NoDrawing=>k_is)
  (case n_NoRows=>k_is)
  (case y_NoRows=>k_is)
  (case t_NoRows=>k_is)
  (case n_NoText=>k_is)
  (case y_NoText=>k_is)
  (case t_NoText=>k_is)
  (case n_Tied=>k_is)
  (case y_Tied=>k_is)
  (case t_Tied=>k_is)
  (case n_NoArrows=>k_is)
  (case y_NoArrows=>k_is)
  (case t_NoArrows=>k_is)
  (case n_NoLand=>k_is)
  (case y_NoLand=>k_is)
  (case t_NoLand=>k_is)
  (case n_NoPlace=>k_is)
  (case y_NoPlace=>k_is)
  (case t_NoPlace=>k_is)
  (case n_NoTie=>k_is)
  (case y_NoTie=>k_is)
  (case t_NoTie=>k_is)
  (case n_NoRing=>k_is)
  (case y_NoRing=>k_is)
  (case t_NoRing=>k_is)
  (case n_TooMany=>k_is)
  (case y_TooMany=>k_is)
  (case t_TooMany=>k_is)
  (case n_NoLine=>k_is)
  (case y_NoLine=>k_is)
  (case t_NoLine=>k_is)
  (case n_NothingDone=>k_is)
  (case y_NothingDone=>k_is)
  (case t_NothingDone=>k_is)
  (case S0=>k_exc)
  (case aI2=>k_exc)
  (case aD0=>k_exc)
  (case aN4=>k_exc)
  (case aI9=>k_exc)
  (case aC6=>k_exc)
  (case aG9=>k_exc)
  (case W8=>k_exc)
  (case xo_NoArrows=>k_is)
  (case xb_NoArrows=>k_is)
  (case xg_NoArrows=>k_is)
  (case xt_NoArrows=>k_is)
  (case xc_NoArrows=>k_is)
  (case G3=>k_is)
  (case G9=>k_is)
  (case N4=>k_is)
  (case N3=>k_is)
  (case P4=>k_is)
  (case J9=>k_is)
  (case N6=>k_is)
  (case L5=>k_is)
  (case O4=>k_is)
  (case N5=>k_is)
  (case L4=>k_is)
  (case N7=>k_is)
  (case E7=>k_is)
  (case G5=>k_is)
  (case ho_NoArrows=>k_is)
  (case hn0_NoArrows=>kernel_rfl)
  (case ni_NoArrows=>k_is)
  (case l_NoArrows_init=>k_is)
  (case i_NoArrows_init=>k_is)
  (case c_NoArrows_init_=>k_is)
  (case k_NoArrows_init_=>k_is)
  (case mo_NoArrows=>k_is)
  (case hdx_NoArrows=>k_is)
  (case sax_NoArrows=>k_is)
  (case gax_NoArrows=>k_is)
  (case gtx_NoArrows=>k_is)
  (case up_NoArrows=>k_is)
  (case kcx_NoArrows=>k_is)
  (case J0=>k_is)
  (case xsp=>k_is)
  (case xrd=>k_is)
  (case xfc=>k_is)
